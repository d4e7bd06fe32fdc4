/- PrepLeaves' walk. Conditions: none but the arguments' own sizes. -/
import Derived.Test.YtkifmhdceobfhaaDoorPpq
namespace Go.Proofs.YtkifmhdceobfhaaDoor.PP
open Go.ChangeShapes Go.WideShapes Go.ChangeAt Go.RowKit Go.Maps Go.ChangeMaps
open Go.Proofs.YtkifmhdceobfhaaDoor.SL
set_option maxRecDepth 100000
set_option linter.unusedVariables false
set_option linter.unusedSimpArgs false

theorem ot_len {B : Nat} {w : World} {v : Value} {d : List ByteArray} (h : OT B w v d) : ∃ a cap, v = .slice a d.length cap := h.ts.form
theorem def_count (c : Int) (n s : Tx) (S : St) (hu : UniqE S.L) (hs : ¬ 2000 < s.size) : (ofE c (defS c n s S).L).length = if (fnd S.L c n).isSome = true then (ofE c S.L).length else (ofE c S.L).length + 1 := by
  unfold defS
  rw [if_neg hs]
  split
  · rename_i h; rw [if_pos h.1]
  · show (ofE c (woE c n S.L ++ [(c, n, s)])).length = _
    rw [of_def _ _ _ _ _ hu, if_pos rfl]
def xx : Tx := ⟨#[120]⟩
theorem of_wo_le (L : List En) : (ofE 1 L).length ≤ L.length := List.length_filter_le _ _
set_option maxHeartbeats 32000000 in
theorem leaves_any (v : Value) (c : Int) (hI : I9 c) (l : List Tx) (w : World) (hv : TS w v l) :
    Calls Tryd.prog 7 #[v, nV c] w fun e w' => e = .returned (.bool true) ∧ Below w.heap.size w w' := by
  have HV := Lib.hid hv
  have HI := Lib.hid hI
  obtain ⟨va, vc, rfl⟩ := hv.form
  clear hv hI
  go_enter Tryd.func7, Tryd.ntmps7
  go_wp2_with fail
  refine (lb_new w).mono ?_
  rintro e w1 ⟨a, rfl, hl, hb⟩
  have HL := Lib.hid hl
  have HB := Lib.hid hb
  clear hl hb
  by_cases h1 : 30 < l.length
  · have l1 : (30 : Int) < (l.length : Int) := by omega
    clear h1
    go_wp2_with fail
    refine (known_any _).mono ?_
    rintro e wz ⟨rfl, hb⟩
    have HB := Lib.hid (HB.out.trans (hb.mono HB.out.size))
    clear hb
    go_wp2
    go_ret
    exact ⟨rfl, HB.out⟩
  have l1 : ¬ (30 : Int) < (l.length : Int) := by omega
  have HN := Lib.hid h1
  clear h1
  go_wp2
  go_loopg [6, 7] l.length (fun gk u6 u7 wx => ∃ (i N : Nat) (S : St), u7 = .int .i64 (i : Int) ∧ i + gk = l.length ∧ u6 = nV ((ofE 1 S.L).length : Int) ∧ Hid (LB w.heap.size wx a N S) ∧ Hid (N ≤ 3 * i ∧ S.T.length ≤ i) ∧ Hid (∀ (j : Nat) (x : Tx), j < i → l[j]? = some x → x.size ≤ 100) ∧ Hid (Below w.heap.size w wx))
  case atStart => exact ⟨0, 0, S0, rfl, by omega, rfl, HL, Lib.hid ⟨Nat.le_refl _, Nat.le_refl _⟩, Lib.hid (fun j x hj _ => by omega), HB⟩
  case round =>
    obtain ⟨i, N, S, rfl, hi, rfl, HL, HNN, HSI, HB⟩ := hrel
    cases gk with
    | zero =>
      have l3 : ¬ ((i : Int) < (l.length : Int)) := by omega
      have hNN : N ≤ 1000 := by have := HNN.out.1; have := HN.out; omega
      have hTT : S.T.length ≤ 99 := by have := HNN.out.2; have := HN.out; omega
      have HNM := Lib.hid hNN
      have HTT := Lib.hid hTT
      have HH := Lib.hid (lb_has HL.out hNN c HI.out hTT)
      have HLV : Hid (∀ W, Below wr.heap.size wr W → Calls Tryd.prog 13 #[ptr a, nV 1] W (Ret w.heap.size a N (leaS 1 S) (nV ((ofE 1 S.L).length : Int)) W)) := Lib.hid fun W hb => lb_leave (HL.out.below hb) 1 i91
      obtain ⟨k, hk⟩ : ∃ k, (nms S.D c).length = k := ⟨_, rfl⟩
      obtain ⟨m, hm⟩ : ∃ m, (ofE 1 S.L).length = m := ⟨_, rfl⟩
      rw [hm] at HLV
      have HK := Lib.hid hk
      rw [hm]
      have HSZ : Hid (∀ (j : Nat) (x : Tx), l[j]? = some x → x.size ≤ 281474976710656) := Lib.hid fun j x hx => by
        have h1 := (List.getElem?_eq_some_iff.1 hx).1
        have := HSI.out j x (by omega) hx
        omega
      clear hi hNN hTT hk hm
      go_wp2_with fail
      refine HH.out.mono ?_
      rintro e w2 ⟨v2, rfl, hv2, hb⟩
      obtain ⟨a2, q2, rfl⟩ := ot_len hv2
      rw [List.length_map, HK.out]
      have HLW := Lib.hid (HLV.out w2 hb)
      have HB := Lib.hid (HB.out.trans (hb.mono HB.out.size))
      clear hv2 hb HH HLV
      go_wp2_with fail
      refine HLW.out.mono ?_
      rintro e w3 ⟨rfl, hl, hf⟩
      have HL2 := Lib.hid hl
      have HB := Lib.hid (HB.out.trans hf.1)
      have HH := Lib.hid (lb_has HL2.out HNM.out c HI.out HTT.out)
      clear hl hf HLW
      go_wp2_with fail
      refine HH.out.mono ?_
      rintro e w4 ⟨v4, rfl, hv4, hb⟩
      obtain ⟨a4, q4, rfl⟩ := ot_len hv4
      have e4 : ((nms (leaS 1 S).D c).map nm).length = k := by rw [List.length_map]; exact HK.out
      rw [e4]
      have HL3 := Lib.hid (HL2.out.below hb)
      have HB := Lib.hid (HB.out.trans (hb.mono HB.out.size))
      clear hv4 hb HH e4 HL2 HL
      go_wp2
      go_loopg [11] l.length (fun gk u11 wx => ∃ i : Nat, u11 = .int .i64 (i : Int) ∧ i + gk = l.length ∧ Hid (LB w.heap.size wx a N (leaS 1 S)) ∧ Hid (Below w.heap.size w wx))
      case atStart => exact ⟨0, rfl, by omega, HL3, HB⟩
      case round =>
        obtain ⟨j, rfl, hj, HL, HB⟩ := hrel
        cases gk with
        | zero =>
          have l5 : ¬ ((j : Int) < (l.length : Int)) := by omega
          have HD : Hid (Calls Tryd.prog 9 #[ptr a, nV 1, .string ⟨#[97, 103, 97, 105, 110]⟩, .string ⟨#[120]⟩] wr fun e w' => e = .returned (nV 0) ∧ LB w.heap.size w' a (N + 1) (defS 1 ⟨#[97, 103, 97, 105, 110]⟩ ⟨#[120]⟩ (leaS 1 S)) ∧ Fr w.heap.size wr w') := Lib.hid (by
            refine (lb_def HL.out HNM.out 1 i91 _ _ (by decide) (by decide)).mono ?_
            rintro e w' ⟨rfl, hl, hf⟩
            refine ⟨?_, hl, hf⟩
            unfold defA
            rw [if_neg (by decide), if_neg]
            rintro ⟨e, _⟩
            have : fnd (leaS 1 S).L 1 ⟨#[97, 103, 97, 105, 110]⟩ = none := by
              show fnd (noE 1 S.L) 1 _ = none
              rw [fnd_no, if_pos rfl]
            rw [this] at e
            cases e)
          clear hj
          go_wp2_with fail
          refine HD.out.mono ?_
          rintro e w5 ⟨rfl, hl, hf⟩
          have HF := Lib.hid (lb_forget hl c HI.out)
          have HB := Lib.hid (HB.out.trans hf.1)
          have e6 : (nms (defS 1 ⟨#[97, 103, 97, 105, 110]⟩ ⟨#[120]⟩ (leaS 1 S)).D c).length = k := by
            have : (defS 1 ⟨#[97, 103, 97, 105, 110]⟩ ⟨#[120]⟩ (leaS 1 S)).D = S.D := by
              unfold defS
              split
              · rfl
              · split <;> rfl
            rw [this]; exact HK.out
          rw [e6] at HF
          clear hl hf e6 HD
          go_wp2_with fail
          refine HF.out.mono ?_
          rintro e w6 ⟨rfl, hl, hf⟩
          have HB := Lib.hid (HB.out.trans hf.1)
          clear hl hf HF
          go_wp2_with fail
          refine (known_any _).mono ?_
          rintro e wz ⟨rfl, hb⟩
          have HB := Lib.hid (HB.out.trans (hb.mono HB.out.size))
          clear hb
          go_wp2
          go_ret
          exact ⟨rfl, HB.out⟩
        | succ gk2 =>
          have hlt : j < l.length := by omega
          obtain ⟨x, hx⟩ : ∃ x, l[j]? = some x := ⟨_, List.getElem?_eq_getElem hlt⟩
          obtain ⟨g, off, cap, he, hc, hat⟩ := (HV.out.below HB.out).inv (by omega)
          injection he with e1 _ e3
          subst e1 e3
          have x0 := hat j x hx
          have l4 : (0 : Int) ≤ (j : Int) := by omega
          have l5 : (j : Int) < (l.length : Int) := by omega
          obtain ⟨j1, hj1⟩ : ∃ k, j + 1 = k := ⟨_, rfl⟩
          have wk : IntKind.i64.wrap ((j : Int) + 1) = (j1 : Int) := by rw [show (j : Int) + 1 = (j1 : Int) by omega]; exact IntWalk.i64_in _ (by have := HN.out; omega)
          have HJ : Hid (j1 + gk2 = l.length) := Lib.hid (by omega)
          have HXS : Hid (x.size ≤ 281474976710656) := HSZ.out j x hx
          have HFN : Hid (Calls Tryd.prog 20 #[ptr a, nV 1, .string x] wr fun e w' => e = .returned (.tuple #[.string ByteArray.empty, .bool false]) ∧ Below wr.heap.size wr w') := Lib.hid (by
            have := lb_find HL.out 1 i91 x HXS.out
            have e : fnd (leaS 1 S).L 1 x = none := by
              show fnd (noE 1 S.L) 1 _ = none
              rw [fnd_no, if_pos rfl]
            rw [e] at this
            exact this)
          clear hj hlt hx hc hat hj1
          go_wp2_with fail
          refine HFN.out.mono ?_
          rintro e w5 ⟨rfl, hb⟩
          have HL := Lib.hid (HL.out.below hb)
          have HB := Lib.hid (HB.out.trans (hb.mono HB.out.size))
          clear hb HFN
          go_wp2
          go_roundg gk2
          case measure => exact Nat.lt_succ_self _
          case rel => exact ⟨j1, rfl, HJ.out, HL, HB⟩
    | succ gk1 =>
      have hlt : i < l.length := by omega
      obtain ⟨x, hx⟩ : ∃ x, l[i]? = some x := ⟨_, List.getElem?_eq_getElem hlt⟩
      obtain ⟨g, off, cap, he, hc, hat⟩ := HV.out.inv (by omega)
      injection he with e1 _ e3
      subst e1 e3
      have HX : Hid (∀ W, Below w.heap.size w W → W.cell? ⟨g, off + i, none⟩ = some (.string x)) := Lib.hid fun W hb => (hb.cell (p := ⟨g, off + i, none⟩) (World.block_lt_of_cell? w _ (hat i x hx))).trans (hat i x hx)
      have x0 := HX.out wr HB.out
      have l4 : (0 : Int) ≤ (i : Int) := by omega
      have l5 : (i : Int) < (l.length : Int) := by omega
      obtain ⟨i1, hi1⟩ : ∃ k, i + 1 = k := ⟨_, rfl⟩
      have wk : IntKind.i64.wrap ((i : Int) + 1) = (i1 : Int) := by rw [show (i : Int) + 1 = (i1 : Int) by omega]; exact IntWalk.i64_in _ (by have := HN.out; omega)
      have HJ : Hid (i1 + gk1 = l.length) := Lib.hid (by omega)
      have HI1 : Hid (i + 1 = i1) := Lib.hid hi1
      have HIL : Hid (i ≤ 30) := Lib.hid (by have := HN.out; omega)
      have HXI := Lib.hid hx
      clear hi hlt hx hc hat hi1
      by_cases hs : 100 < x.size
      · have l6 : (100 : Int) < (x.size : Int) := by omega
        clear hs
        go_wp2_with fail
        refine (known_any _).mono ?_
        rintro e wz ⟨rfl, hb⟩
        have HB := Lib.hid (HB.out.trans (hb.mono HB.out.size))
        clear hb
        go_wp2
        go_ret
        exact ⟨rfl, HB.out⟩
      have l6 : ¬ (100 : Int) < (x.size : Int) := by omega
      have HXS : Hid (x.size ≤ 281474976710656) := Lib.hid (by omega)
      have HSI1 : Hid (∀ (j : Nat) (y : Tx), j < i1 → l[j]? = some y → y.size ≤ 100) := Lib.hid fun j y hj hy => by
        by_cases e : j = i
        · subst e
          rw [HXI.out] at hy
          injection hy with hy
          subst hy
          omega
        · exact HSI.out j y (by have := HI1.out; omega) hy
      have HF := Lib.hid (lb_find HL.out 1 i91 x HXS.out)
      have HDC := Lib.hid (def_count 1 x ⟨#[120]⟩ S HL.out.inv.ul (by decide))
      obtain ⟨m, hm⟩ : ∃ m, (ofE 1 S.L).length = m := ⟨_, rfl⟩
      have hm2 : m ≤ 1000 := by have := of_wo_le S.L; have h1 := HL.out.few.1; have h2 := HNN.out.1; have h3 := HIL.out; omega
      obtain ⟨m1, hm1⟩ : ∃ k, m + 1 = k := ⟨_, rfl⟩
      have wm : IntKind.i64.wrap ((m : Int) + 1) = (m1 : Int) := by rw [show (m : Int) + 1 = (m1 : Int) by omega]; exact IntWalk.i64_in _ (by omega)
      rw [hm, hm1] at HDC
      rw [hm]
      generalize (fnd S.L 1 x).getD ByteArray.empty = y at *
      generalize (fnd S.L 1 x).isSome = had at *
      clear hs hm hm2 hm1
      go_wp2_with fail
      refine HF.out.mono ?_
      rintro e w2 ⟨rfl, hb⟩
      have HL2 := Lib.hid (HL.out.below hb)
      have HB := Lib.hid (HB.out.trans (hb.mono HB.out.size))
      have x1 := HX.out w2 HB.out
      have HD := Lib.hid (lb_def HL2.out (by have := HNN.out.1; have := HIL.out; omega) 1 i91 x ⟨#[120]⟩ HXS.out (by decide))
      clear hb HF x0 HL
      cases had
      · have hdc : (ofE 1 (defS 1 x ⟨#[120]⟩ S).L).length = m1 := HDC.out
        have HDC2 := Lib.hid hdc
        clear hdc HDC
        go_wp2_with fail
        refine HD.out.mono ?_
        rintro e w3 ⟨rfl, hl, hf⟩
        have HL3 := Lib.hid hl
        have HB := Lib.hid (HB.out.trans hf.1)
        have x2 := HX.out w3 HB.out
        have HT3 : Hid ((defS 1 x ⟨#[120]⟩ S).T.length ≤ i) := Lib.hid (by
          have : (defS 1 x ⟨#[120]⟩ S).T = S.T := by
            unfold defS
            split
            · rfl
            · split <;> rfl
          rw [this]; exact HNN.out.2)
        have HND := Lib.hid (lb_need HL3.out (by have := HNN.out.1; have := HIL.out; omega) c HI.out x HXS.out (by have := HT3.out; have := HIL.out; omega))
        clear hl hf HD x1
        go_wp2_with fail
        refine HND.out.mono ?_
        rintro e w4 ⟨rfl, hl, hf⟩
        have HL4 := Lib.hid hl
        have HB := Lib.hid (HB.out.trans hf.1)
        have HN4 : Hid (N + 1 + 2 ≤ 3 * i1 ∧ (neeS c x (defS 1 x ⟨#[120]⟩ S)).T.length ≤ i1) := Lib.hid (by
          have h1 := HNN.out.1
          have h2 := HI1.out
          have h3 := (numS_len x (defS 1 x ⟨#[120]⟩ S)).1
          have h4 := HT3.out
          exact ⟨by omega, Nat.le_trans h3 (by omega)⟩)
        have HM4 : Hid (nV (m1 : Int) = nV ((ofE 1 (neeS c x (defS 1 x ⟨#[120]⟩ S)).L).length : Int)) := Lib.hid (by
          show _ = nV ((ofE 1 (defS 1 x ⟨#[120]⟩ S).L).length : Int)
          rw [HDC2.out])
        clear hl hf HND
        go_wp2
        go_roundg gk1
        case measure => exact Nat.lt_succ_self _
        case rel => exact ⟨i1, _, _, rfl, HJ.out, HM4.out, HL4, HN4, HSI1, HB⟩
      · have hdc : (ofE 1 (defS 1 x ⟨#[120]⟩ S).L).length = m := HDC.out
        have HDC2 := Lib.hid hdc
        clear hdc HDC
        go_wp2_with fail
        refine HD.out.mono ?_
        rintro e w3 ⟨rfl, hl, hf⟩
        have HL3 := Lib.hid hl
        have HB := Lib.hid (HB.out.trans hf.1)
        have x2 := HX.out w3 HB.out
        have HT3 : Hid ((defS 1 x ⟨#[120]⟩ S).T.length ≤ i) := Lib.hid (by
          have : (defS 1 x ⟨#[120]⟩ S).T = S.T := by
            unfold defS
            split
            · rfl
            · split <;> rfl
          rw [this]; exact HNN.out.2)
        have HND := Lib.hid (lb_need HL3.out (by have := HNN.out.1; have := HIL.out; omega) c HI.out x HXS.out (by have := HT3.out; have := HIL.out; omega))
        clear hl hf HD x1
        go_wp2_with fail
        refine HND.out.mono ?_
        rintro e w4 ⟨rfl, hl, hf⟩
        have HL4 := Lib.hid hl
        have HB := Lib.hid (HB.out.trans hf.1)
        have HN4 : Hid (N + 1 + 2 ≤ 3 * i1 ∧ (neeS c x (defS 1 x ⟨#[120]⟩ S)).T.length ≤ i1) := Lib.hid (by
          have h1 := HNN.out.1
          have h2 := HI1.out
          have h3 := (numS_len x (defS 1 x ⟨#[120]⟩ S)).1
          have h4 := HT3.out
          exact ⟨by omega, Nat.le_trans h3 (by omega)⟩)
        have HM4 : Hid (nV (m : Int) = nV ((ofE 1 (neeS c x (defS 1 x ⟨#[120]⟩ S)).L).length : Int)) := Lib.hid (by
          show _ = nV ((ofE 1 (defS 1 x ⟨#[120]⟩ S).L).length : Int)
          rw [HDC2.out])
        clear hl hf HND
        go_wp2
        go_roundg gk1
        case measure => exact Nat.lt_succ_self _
        case rel => exact ⟨i1, _, _, rfl, HJ.out, HM4.out, HL4, HN4, HSI1, HB⟩
theorem leaves_law (v : Value) (c : Int) (w : World) (hf : ∃ l, TS w v l) (hc : (Lit.int .i64 c).wf = true) :
    Calls Tryd.prog 7 #[v, .int .i64 c] w fun e w' => e = .returned (.bool true) ∧ Below w.heap.size w w' := by
  obtain ⟨l, hl⟩ := hf
  exact leaves_any v c (wf64 c hc) l w hl
end Go.Proofs.YtkifmhdceobfhaaDoor.PP
