/- PoolLimit's walk. Conditions: none but the arguments' own sizes. -/
import Derived.Test.YtochjbmighijgaaPqf
import Derived.Deep.CutBlock
namespace Go.Proofs.Ytochjbmighijgaa.PO
open Go.ChangeShapes Go.WideShapes Go.ChangeAt Go.RowKit Go.Maps Go.ChangeMaps
open Go.Proofs.Ytochjbmighijgaa.SL Go.Proofs.Ytochjbmighijgaa.RW
open Go.Proofs.Ytochjbmighijgaa.LN (tkY tkN pu OI IS RdP)
set_option maxRecDepth 100000
set_option linter.unusedVariables false
set_option linter.unusedSimpArgs false

set_option maxHeartbeats 64000000 in
theorem limit_any (n : Int) (hn : 0 ≤ n ∧ n ≤ 255) (v : Value) (l : List Opq) (w : World) (hv : OpR w v l) :
    Calls Try.prog 3 #[.int .u8 n, v] w (RdP (.bool true) w) := by
  obtain ⟨k, hk⟩ : ∃ k : Nat, 1 + n % 4 = (k : Int) := ⟨(1 + n % 4).toNat, by omega⟩
  have hkr : 1 ≤ k ∧ k ≤ 4 := by omega
  have HKR := Lib.hid hkr
  have HV := Lib.hid hv
  obtain ⟨va, vc, rfl⟩ := hv.form
  clear hv
  go_enter Try.func3, Try.ntmps3
  go_wp2_with fail
  clear hn hk hkr
  refine (new_yes w k 50 5 5 (by have := HKR.out; omega) (by omega) (by omega)).mono ?_
  rintro e w1 ⟨a, rfl, C, hl, c1, c2, c3, c4, hb⟩
  have HCK : Hid (C.lim = k) := Lib.hid c1
  have HB := Lib.hid hb
  have HR : Hid (LimR w.heap.size w1 a 0 C) := Lib.hid ⟨0, R0, hl, Inv.zero C, Nat.le_refl _, Nat.le_refl _⟩
  clear hl hb c1 c2 c3 c4
  go_wp2
  go_loopg [8] (min l.length 60) (fun gk u8 wx => ∃ i : Nat, u8 = .int .i64 (i : Int) ∧ i + gk = min l.length 60 ∧ Hid (LimR w.heap.size wx a i C) ∧ Hid (Below w.heap.size w wx))
  case atStart => exact ⟨0, rfl, by omega, HR, HB⟩
  case round =>
    obtain ⟨i, rfl, hi, HR, HB⟩ := hrel
    cases gk with
    | zero =>
      by_cases hlt : i < l.length
      · have l1 : (i : Int) < (l.length : Int) := by omega
        have l2 : ¬ ((i : Int) < 60) := by omega
        clear hi hlt
        go_wp2_with fail
        refine (known_any _).mono ?_
        rintro e wz ⟨rfl, hb⟩
        have HB := Lib.hid (HB.out.trans (hb.mono HB.out.size))
        clear hb
        go_wp2
        go_ret
        exact ⟨rfl, HB.out⟩
      · have l1 : ¬ ((i : Int) < (l.length : Int)) := by omega
        clear hi hlt
        go_wp2_with fail
        refine (known_any _).mono ?_
        rintro e wz ⟨rfl, hb⟩
        have HB := Lib.hid (HB.out.trans (hb.mono HB.out.size))
        clear hb
        go_wp2
        go_ret
        exact ⟨rfl, HB.out⟩
    | succ gk1 =>
      have hlt : i < l.length := by omega
      have l0 : (0 : Int) ≤ (i : Int) := by omega
      have l1 : (i : Int) < (l.length : Int) := by omega
      have l2 : (i : Int) < 60 := by omega
      obtain ⟨i1, hi1⟩ : ∃ i1, i + 1 = i1 := ⟨_, rfl⟩
      have wk : IntKind.i64.wrap ((i : Int) + 1) = (i1 : Int) := by rw [show (i : Int) + 1 = (i1 : Int) by omega]; exact IntWalk.i64_in _ (by omega)
      have HI1 : Hid (i1 + gk1 = min l.length 60) := Lib.hid (by omega)
      have HI1E : Hid (i + 1 = i1) := Lib.hid hi1
      have HI60 : Hid (i ≤ 59) := Lib.hid (by omega)
      obtain ⟨bb, off, cap, he, hcp, hx⟩ := (HV.out.below HB.out).inv (by omega)
      injection he with e1 _ e3
      subst e1 e3
      obtain ⟨op, hop⟩ : ∃ o, l[i] = o := ⟨_, rfl⟩
      have hyi : l[i]? = some op := by rw [List.getElem?_eq_getElem hlt, hop]
      obtain ⟨hob, hxx⟩ := hx i op hyi
      obtain ⟨kd, gr, id, nw⟩ := op
      have HOB : Hid (I9 id ∧ I9 nw) := Lib.hid hob
      have x0 := hxx 0 _ rfl
      have x1 := hxx 1 _ rfl
      have x2 := hxx 2 _ rfl
      have x3 := hxx 3 _ rfl
      rw [Nat.add_zero] at x0
      obtain ⟨W0, hW0⟩ : ∃ W, wr.alloc (.cells #[nV kd, .string gr, nV id, nV nw] 28) = W := ⟨_, rfl⟩
      obtain ⟨cb, hcb⟩ : ∃ b, wr.heap.size = b := ⟨_, rfl⟩
      have HBN : Hid (Below wr.heap.size wr W0) := Lib.hid (by rw [← hW0]; exact (Below.refl _ _).alloc (Nat.le_refl _) _)
      have HK : Hid (Bk W0 cb 28 #[nV kd, .string gr, nV id, nV nw]) := Lib.hid (by rw [← hW0, ← hcb]; exact Bk.new _ _ _)
      have HR := Lib.hid (HR.out.below HBN.out)
      have HB := Lib.hid (HB.out.trans (HBN.out.mono HB.out.size))
      clear HBN hi hi1 hlt hcp hx hop hyi hob hxx
      by_cases hlong : gr.size ≤ 60
      · have l5 : ¬ ((60 : Int) < (gr.size : Int)) := by omega
        have HGR : Hid (gr.size ≤ 281474976710656) := Lib.hid (by omega)
        clear hlong
        have k0 := HK.out
        have q0 := k0.cell 0
        have qf0 := k0.frozen 0
        have q1 := k0.cell 1
        have qf1 := k0.frozen 1
        have q2 := k0.cell 2
        have qf2 := k0.frozen 2
        have q3 := k0.cell 3
        have qf3 := k0.frozen 3
        simp at q0 q1 q2 q3
        clear k0
        go_upto_block 2 with fail
        try rw [hW0]
        try rw [hcb]
        try clear hW0 hcb
        go_cut [9] from 34 to 164 (fun u9 wx => u9 = ptr cb ∧ Hid (LimR w.heap.size wx a i1 C) ∧ Hid (Bk wx cb 28 #[nV kd, .string gr, nV id, nV nw]) ∧ Hid (Below w.heap.size w wx))
        case first =>
          by_cases e0 : kd = 0
          · subst e0
            have HC : Hid (Calls Try.prog 8 #[ptr a, .string gr, nV id, nV nw] W0 (LimP w.heap.size W0 a (i + 1) C)) := Lib.hid (HR.out.step (by have := HI60.out; omega) fun N R h1 h2 h3 h4 => step_ask h1 h2 h3 (by omega) gr HGR.out id nw HOB.out.1)
            go_wp2_with fail
            refine HC.out.mono ?_
            rintro e w5 ⟨r5, rfl, hr, hf⟩
            have HR := Lib.hid hr
            have HK := Lib.hid (Kt.bk hf.kt HK.out)
            have HB := Lib.hid (HB.out.trans hf.bel)
            clear hr hf HC
            go_wp2
            go_meet
            case rel => exact ⟨rfl, HI1E.out ▸ HR, HK, HB⟩
          · by_cases e1 : kd = 1
            · subst e1
              have HC : Hid (Calls Try.prog 9 #[ptr a, nV id, nV nw] W0 (LimP w.heap.size W0 a (i + 1) C)) := Lib.hid (HR.out.step (by have := HI60.out; omega) fun N R h1 h2 h3 h4 => step_give h1 h2 h3 (by omega) id nw HOB.out.1)
              go_wp2_with fail
              refine HC.out.mono ?_
              rintro e w5 ⟨r5, rfl, hr, hf⟩
              have HR := Lib.hid hr
              have HK := Lib.hid (Kt.bk hf.kt HK.out)
              have HB := Lib.hid (HB.out.trans hf.bel)
              clear hr hf HC
              go_wp2
              go_meet
              case rel => exact ⟨rfl, HI1E.out ▸ HR, HK, HB⟩
            · by_cases e2 : kd = 2
              · subst e2
                have HC : Hid (Calls Try.prog 10 #[ptr a, nV id] W0 (LimP w.heap.size W0 a (i + 1) C)) := Lib.hid (HR.out.step (by have := HI60.out; omega) fun N R h1 h2 h3 h4 => step_pin h1 h2 h3 id HOB.out.1)
                go_wp2_with fail
                refine HC.out.mono ?_
                rintro e w5 ⟨r5, rfl, hr, hf⟩
                have HR := Lib.hid hr
                have HK := Lib.hid (Kt.bk hf.kt HK.out)
                have HB := Lib.hid (HB.out.trans hf.bel)
                clear hr hf HC
                go_wp2
                go_meet
                case rel => exact ⟨rfl, HI1E.out ▸ HR, HK, HB⟩
              · by_cases e3 : kd = 3
                · subst e3
                  have HC : Hid (Calls Try.prog 11 #[ptr a, nV id, nV nw] W0 (LimP w.heap.size W0 a (i + 1) C)) := Lib.hid (HR.out.step (by have := HI60.out; omega) fun N R h1 h2 h3 h4 => step_lost h1 h2 h3 (by omega) id nw HOB.out.1)
                  go_wp2_with fail
                  refine HC.out.mono ?_
                  rintro e w5 ⟨r5, rfl, hr, hf⟩
                  have HR := Lib.hid hr
                  have HK := Lib.hid (Kt.bk hf.kt HK.out)
                  have HB := Lib.hid (HB.out.trans hf.bel)
                  clear hr hf HC
                  go_wp2
                  go_meet
                  case rel => exact ⟨rfl, HI1E.out ▸ HR, HK, HB⟩
                · by_cases e4 : kd = 4
                  · subst e4
                    have HC : Hid (Calls Try.prog 12 #[ptr a, nV id, nV nw] W0 (LimP w.heap.size W0 a (i + 1) C)) := Lib.hid (HR.out.step (by have := HI60.out; omega) fun N R h1 h2 h3 h4 => step_leave h1 h2 h3 (by omega) id nw HOB.out.1)
                    go_wp2_with fail
                    refine HC.out.mono ?_
                    rintro e w5 ⟨r5, rfl, hr, hf⟩
                    have HR := Lib.hid hr
                    have HK := Lib.hid (Kt.bk hf.kt HK.out)
                    have HB := Lib.hid (HB.out.trans hf.bel)
                    clear hr hf HC
                    go_wp2
                    go_meet
                    case rel => exact ⟨rfl, HI1E.out ▸ HR, HK, HB⟩
                  · by_cases e5 : kd = 5
                    · subst e5
                      have HC : Hid (Calls Try.prog 13 #[ptr a, nV nw] W0 (LimP w.heap.size W0 a (i + 1) C)) := Lib.hid (HR.out.step (by have := HI60.out; omega) fun N R h1 h2 h3 h4 => step_late h1 h2 h3 (by omega) nw)
                      go_wp2_with fail
                      refine HC.out.mono ?_
                      rintro e w5 ⟨r5, rfl, hr, hf⟩
                      have HR := Lib.hid hr
                      have HK := Lib.hid (Kt.bk hf.kt HK.out)
                      have HB := Lib.hid (HB.out.trans hf.bel)
                      clear hr hf HC
                      go_wp2
                      go_meet
                      case rel => exact ⟨rfl, HI1E.out ▸ HR, HK, HB⟩
                    · by_cases e6 : kd = 6
                      · subst e6
                        have HC : Hid (Calls Try.prog 14 #[ptr a, nV nw] W0 (LimP w.heap.size W0 a (i + 1) C)) := Lib.hid (HR.out.step (by have := HI60.out; omega) fun N R h1 h2 h3 h4 => step_reap h1 h2 h3 h4 nw HOB.out.2)
                        go_wp2_with fail
                        refine HC.out.mono ?_
                        rintro e w5 ⟨r5, rfl, hr, hf⟩
                        have HR := Lib.hid hr
                        have HK := Lib.hid (Kt.bk hf.kt HK.out)
                        have HB := Lib.hid (HB.out.trans hf.bel)
                        clear hr hf HC
                        go_wp2
                        go_meet
                        case rel => exact ⟨rfl, HI1E.out ▸ HR, HK, HB⟩
                      · have HR := Lib.hid HR.out.up
                        go_wp2_with fail
                        go_meet
                        case rel => exact ⟨rfl, HI1E.out ▸ HR, HK, HB⟩
        case rest =>
          obtain ⟨rfl, HR, HK, HB⟩ := hcut
          have k0 := HK.out
          have q0 := k0.cell 0
          have qf0 := k0.frozen 0
          have q1 := k0.cell 1
          have qf1 := k0.frozen 1
          have q2 := k0.cell 2
          have qf2 := k0.frozen 2
          have q3 := k0.cell 3
          have qf3 := k0.frozen 3
          simp at q0 q1 q2 q3
          clear k0
          have HC := Lib.hid (lim_count HR.out (by have := HI60.out; have := HI1E.out; omega) gr HGR.out)
          go_wp2_with fail
          refine HC.out.mono ?_
          rintro e w6 ⟨x, y, z, rfl, h1, h2, h3, hb⟩
          have HR := Lib.hid (HR.out.below hb)
          have HB := Lib.hid (HB.out.trans (hb.mono HB.out.size))
          have hk := HCK.out
          have l3 : ¬ ((k : Int) < (x : Int)) := by omega
          have l4 : ¬ ((x : Int) < (y : Int)) := by omega
          have n3 : ¬ (k < x) := by omega
          have n4 : ¬ (x < y) := by omega
          have HH3 := Lib.hid h3
          clear hb HC h1 h2 h3 hk q0 q1 q2 q3 qf0 qf1 qf2 qf3 HK
          by_cases hz : z = 0
          · have l6 : ¬ ((0 : Int) < (z : Int)) := by omega
            have n6 : ¬ (0 < z) := by omega
            clear hz HH3
            obtain ⟨N, R, hp, hiv, hnr⟩ := HR.out
            have HNR := Lib.hid hnr
            have HP := Lib.hid hp
            have HIV := Lib.hid hiv
            clear hp hiv hnr
            go_wp2
            skip
            go_loopg [13] 12 (fun gk u13 wx => ∃ j : Nat, u13 = .int .i64 (j : Int) ∧ j + gk = 12 ∧ Hid (PL w.heap.size wx a N C R) ∧ Hid (Below w.heap.size w wx))
            case atStart => exact ⟨0, rfl, rfl, HP, HB⟩
            case round =>
              obtain ⟨j, rfl, hj, HP, HB⟩ := hrel
              cases gk with
              | zero =>
                have hje : j = 12 := by omega
                subst hje
                have HR : Hid (LimR w.heap.size wr a i1 C) := Lib.hid ⟨N, R, HP.out, HIV.out, HNR.out⟩
                have l7 : ¬ (((12 : Nat) : Int) < 12) := by decide
                clear hj
                go_wp2
                go_roundg gk1
                case measure => exact Nat.lt_succ_self _
                case rel => exact ⟨i1, rfl, HI1.out, HR, HB⟩
              | succ ga =>
                have l7 : (j : Int) < 12 := by omega
                obtain ⟨x, io, hio, hcx⟩ := hold_one HP.out (j : Int) ⟨by omega, by omega⟩
                have HIO := Lib.hid hio
                have HCX := Lib.hid hcx
                obtain ⟨j1, hj1⟩ : ∃ k, j + 1 = k := ⟨_, rfl⟩
                have wk2 : IntKind.i64.wrap ((j : Int) + 1) = (j1 : Int) := by rw [show (j : Int) + 1 = (j1 : Int) by omega]; exact IntWalk.i64_in _ (by omega)
                have HJ1 : Hid (j1 + ga = 12) := Lib.hid (by omega)
                have HJ12 : Hid (j ≤ 12) := Lib.hid (by omega)
                clear hj hio hcx hj1
                go_wp2_with fail
                refine HCX.out.mono ?_
                rintro e w7 ⟨rfl, hb⟩
                have HP := Lib.hid (HP.out.below hb)
                have HB := Lib.hid (HB.out.trans (hb.mono HB.out.size))
                clear hb HCX
                go_wp2
                go_loopg [16] j (fun gk u16 wx => ∃ b : Nat, u16 = .int .i64 (b : Int) ∧ b + gk = j ∧ Hid (PL w.heap.size wx a N C R) ∧ Hid (Below w.heap.size w wx))
                case atStart => exact ⟨0, rfl, by omega, HP, HB⟩
                case round =>
                  obtain ⟨b, rfl, hb, HP, HB⟩ := hrel
                  cases gk with
                  | zero =>
                    have hbe : b = j := by omega
                    subst hbe
                    have l8 : ¬ ((b : Int) < (b : Int)) := by omega
                    clear hb
                    go_wp2
                    go_roundg ga
                    case measure => exact Nat.lt_succ_self _
                    case rel => exact ⟨j1, rfl, HJ1.out, HP, HB⟩
                  | succ gb =>
                    have l8 : (b : Int) < (j : Int) := by omega
                    cases io with
                    | false =>
                      clear hb
                      go_wp2
                      go_roundg ga
                      case measure => exact Nat.lt_succ_self _
                      case rel => exact ⟨j1, rfl, HJ1.out, HP, HB⟩
                    | true =>
                      obtain ⟨y, was, hwas, hcy⟩ := hold_one HP.out (b : Int) ⟨by omega, by have := HJ12.out; omega⟩
                      have HCY := Lib.hid hcy
                      obtain ⟨b1, hb1⟩ : ∃ k, b + 1 = k := ⟨_, rfl⟩
                      have wk3 : IntKind.i64.wrap ((b : Int) + 1) = (b1 : Int) := by rw [show (b : Int) + 1 = (b1 : Int) by omega]; exact IntWalk.i64_in _ (by have := HJ12.out; omega)
                      have HB1 : Hid (b1 + gb = j) := Lib.hid (by omega)
                      cases was with
                      | false =>
                        clear hb hwas hcy hb1
                        go_wp2_with fail
                        refine HCY.out.mono ?_
                        rintro e w8 ⟨rfl, hb⟩
                        have HP := Lib.hid (HP.out.below hb)
                        have HB := Lib.hid (HB.out.trans (hb.mono HB.out.size))
                        clear hb HCY
                        go_wp2
                        go_roundg gb
                        case measure => exact Nat.lt_succ_self _
                        case rel => exact ⟨b1, rfl, HB1.out, HP, HB⟩
                      | true =>
                        have hxy : ¬ (x = y) := hold_apart HIV.out (show (j : Int) ≠ (b : Int) by omega) (HIO.out rfl) (hwas rfl)
                        have hxyb : (x == y) = false := by simp [hxy]
                        clear hb hwas hcy hb1
                        go_wp2_with fail
                        refine HCY.out.mono ?_
                        rintro e w8 ⟨rfl, hb⟩
                        have HP := Lib.hid (HP.out.below hb)
                        have HB := Lib.hid (HB.out.trans (hb.mono HB.out.size))
                        clear hb HCY
                        go_wp2
                        go_roundg gb
                        case measure => exact Nat.lt_succ_self _
                        case rel => exact ⟨b1, rfl, HB1.out, HP, HB⟩
          · obtain ⟨hy, hx⟩ := HH3.out.resolve_left hz
            have hk := HCK.out
            have l6 : (0 : Int) < (z : Int) := by omega
            have l7 : ¬ ((0 : Int) < (y : Int)) := by omega
            have l8 : ¬ ((x : Int) < (k : Int)) := by omega
            have n6 : 0 < z := by omega
            have n7 : ¬ (0 < y) := by omega
            have n8 : ¬ (x < k) := by omega
            clear hk hy
            clear hz hx HH3
            obtain ⟨N, R, hp, hiv, hnr⟩ := HR.out
            have HNR := Lib.hid hnr
            have HP := Lib.hid hp
            have HIV := Lib.hid hiv
            clear hp hiv hnr
            go_wp2
            skip
            go_loopg [13] 12 (fun gk u13 wx => ∃ j : Nat, u13 = .int .i64 (j : Int) ∧ j + gk = 12 ∧ Hid (PL w.heap.size wx a N C R) ∧ Hid (Below w.heap.size w wx))
            case atStart => exact ⟨0, rfl, rfl, HP, HB⟩
            case round =>
              obtain ⟨j, rfl, hj, HP, HB⟩ := hrel
              cases gk with
              | zero =>
                have hje : j = 12 := by omega
                subst hje
                have HR : Hid (LimR w.heap.size wr a i1 C) := Lib.hid ⟨N, R, HP.out, HIV.out, HNR.out⟩
                have l7 : ¬ (((12 : Nat) : Int) < 12) := by decide
                clear hj
                go_wp2
                go_roundg gk1
                case measure => exact Nat.lt_succ_self _
                case rel => exact ⟨i1, rfl, HI1.out, HR, HB⟩
              | succ ga =>
                have l7 : (j : Int) < 12 := by omega
                obtain ⟨x, io, hio, hcx⟩ := hold_one HP.out (j : Int) ⟨by omega, by omega⟩
                have HIO := Lib.hid hio
                have HCX := Lib.hid hcx
                obtain ⟨j1, hj1⟩ : ∃ k, j + 1 = k := ⟨_, rfl⟩
                have wk2 : IntKind.i64.wrap ((j : Int) + 1) = (j1 : Int) := by rw [show (j : Int) + 1 = (j1 : Int) by omega]; exact IntWalk.i64_in _ (by omega)
                have HJ1 : Hid (j1 + ga = 12) := Lib.hid (by omega)
                have HJ12 : Hid (j ≤ 12) := Lib.hid (by omega)
                clear hj hio hcx hj1
                go_wp2_with fail
                refine HCX.out.mono ?_
                rintro e w7 ⟨rfl, hb⟩
                have HP := Lib.hid (HP.out.below hb)
                have HB := Lib.hid (HB.out.trans (hb.mono HB.out.size))
                clear hb HCX
                go_wp2
                go_loopg [16] j (fun gk u16 wx => ∃ b : Nat, u16 = .int .i64 (b : Int) ∧ b + gk = j ∧ Hid (PL w.heap.size wx a N C R) ∧ Hid (Below w.heap.size w wx))
                case atStart => exact ⟨0, rfl, by omega, HP, HB⟩
                case round =>
                  obtain ⟨b, rfl, hb, HP, HB⟩ := hrel
                  cases gk with
                  | zero =>
                    have hbe : b = j := by omega
                    subst hbe
                    have l8 : ¬ ((b : Int) < (b : Int)) := by omega
                    clear hb
                    go_wp2
                    go_roundg ga
                    case measure => exact Nat.lt_succ_self _
                    case rel => exact ⟨j1, rfl, HJ1.out, HP, HB⟩
                  | succ gb =>
                    have l8 : (b : Int) < (j : Int) := by omega
                    cases io with
                    | false =>
                      clear hb
                      go_wp2
                      go_roundg ga
                      case measure => exact Nat.lt_succ_self _
                      case rel => exact ⟨j1, rfl, HJ1.out, HP, HB⟩
                    | true =>
                      obtain ⟨y, was, hwas, hcy⟩ := hold_one HP.out (b : Int) ⟨by omega, by have := HJ12.out; omega⟩
                      have HCY := Lib.hid hcy
                      obtain ⟨b1, hb1⟩ : ∃ k, b + 1 = k := ⟨_, rfl⟩
                      have wk3 : IntKind.i64.wrap ((b : Int) + 1) = (b1 : Int) := by rw [show (b : Int) + 1 = (b1 : Int) by omega]; exact IntWalk.i64_in _ (by have := HJ12.out; omega)
                      have HB1 : Hid (b1 + gb = j) := Lib.hid (by omega)
                      cases was with
                      | false =>
                        clear hb hwas hcy hb1
                        go_wp2_with fail
                        refine HCY.out.mono ?_
                        rintro e w8 ⟨rfl, hb⟩
                        have HP := Lib.hid (HP.out.below hb)
                        have HB := Lib.hid (HB.out.trans (hb.mono HB.out.size))
                        clear hb HCY
                        go_wp2
                        go_roundg gb
                        case measure => exact Nat.lt_succ_self _
                        case rel => exact ⟨b1, rfl, HB1.out, HP, HB⟩
                      | true =>
                        have hxy : ¬ (x = y) := hold_apart HIV.out (show (j : Int) ≠ (b : Int) by omega) (HIO.out rfl) (hwas rfl)
                        have hxyb : (x == y) = false := by simp [hxy]
                        clear hb hwas hcy hb1
                        go_wp2_with fail
                        refine HCY.out.mono ?_
                        rintro e w8 ⟨rfl, hb⟩
                        have HP := Lib.hid (HP.out.below hb)
                        have HB := Lib.hid (HB.out.trans (hb.mono HB.out.size))
                        clear hb HCY
                        go_wp2
                        go_roundg gb
                        case measure => exact Nat.lt_succ_self _
                        case rel => exact ⟨b1, rfl, HB1.out, HP, HB⟩
      · have l5 : (60 : Int) < (gr.size : Int) := by omega
        clear hlong
        have HR := Lib.hid (HI1E.out ▸ HR.out.up)
        have k0 := HK.out
        have q0 := k0.cell 0
        have qf0 := k0.frozen 0
        have q1 := k0.cell 1
        have qf1 := k0.frozen 1
        have q2 := k0.cell 2
        have qf2 := k0.frozen 2
        have q3 := k0.cell 3
        have qf3 := k0.frozen 3
        simp at q0 q1 q2 q3
        clear k0
        go_wp2_with fail
        try rw [hW0]
        try rw [hcb]
        go_roundg gk1
        case measure => exact Nat.lt_succ_self _
        case rel => exact ⟨i1, rfl, HI1.out, HR, HB⟩
theorem limit_law (n : Int) (v : Value) (w : World) (hn : (Lit.int .u8 n).wf = true) (hf : FitsOp w v) :
    Calls Try.prog 3 #[.int .u8 n, v] w (RdP (.bool true) w) := by
  obtain ⟨l, hl⟩ := hf
  exact limit_any n (wf8 n hn) v l w hl
end Go.Proofs.Ytochjbmighijgaa.PO
