/- LexerBack (layer 4): for every text the law returns true and its argument reads as before: what is shown of a text's tokens has just these; places rise. A tied card; no condition but the form's own reach. -/
import Derived.Test.YtlmgggipkdmdfaaDoorLzt
import Derived.Test.YtlmgggipkdmdfaaDoorCrd
import Derived.SizedLaws
import Derived.ChangeOld
import Derived.Carry
namespace Go.Proofs.YtlmgggipkdmdfaaDoor.lexerBack
open Go.ChangeShapes Go.WideShapes Go.ChangeAt Go.RowKit
open Go.ChangeMaps (open_string shut_string)
set_option linter.unusedVariables false


theorem rise_at (l : List Tok) (h : Rise l) (i k : Nat) (hik : i + 1 = k) (h1 : k < l.length) : ¬ ((l[k]).2.2 ≤ (l[i]'(by omega)).2.2) := by
  subst hik
  have := h i l[i] l[i + 1] (List.getElem?_eq_getElem (by omega)) (List.getElem?_eq_getElem h1)
  omega
set_option maxHeartbeats 4000000 in
set_option maxRecDepth 100000 in
theorem walk (s : ByteArray) (hs : s.size ≤ 140737488351232) (w : World) (hw : ∃ m, Wd m w) :
    Calls Tryd.prog 5 #[.string s] w fun e w' => e = .returned (.bool true) ∧ Below w.heap.size w w' := by
  obtain ⟨m, hm⟩ := hw
  have HM := Lib.hid hm
  have hkn := fun w1 h1 => known_any m w1 h1
  have HK := Lib.hid hkn
  clear hm hkn
  by_cases hbig : 900 < s.size
  · have hb2 : (900 : Int) < (s.size : Int) := by omega
    go_enter Tryd.func5, Tryd.ntmps5
    go_wp2_with (go_at_call 8; (with_reducible refine (HK.out _ HM.out).mono ?_); rintro e w5 ⟨rfl, hb⟩)
    go_ret
    exact ⟨rfl, hb⟩
  · have hb2 : ¬ ((900 : Int) < (s.size : Int)) := by omega
    have hF := scanA_F s (by omega)
    have hwr := scan_wrong s 0 [] (Nat.zero_le _)
    have hri := scan_rise s 0 [] (Nat.zero_le _) ⟨fun t ht => (by cases ht), fun i x y hx => (by cases hx)⟩
    have hgo := scan_all_good s 0 [] (Nat.zero_le _) (fun t ht => by cases ht)
    have htx := scanA_txt s
    have hct := scanA_count s
    rw [← hF] at hwr hri hgo
    have h1 := fun w1 h => scan_out s _ rfl m w1 h
    generalize scanA s = R at *
    obtain ⟨l, er, ap⟩ := R
    have H1 := Lib.hid (show ∀ w1, Wd m w1 → Calls Tryd.prog 9 #[.string s] w1 fun e w' => ∃ v, e = .returned (.tuple #[v, .int .i64 er, .int .i64 ap]) ∧ ScanQ w1 v l w' from h1)
    have HWR := Lib.hid hwr
    have HRI := Lib.hid (show Rise l from hri)
    have HGO := Lib.hid (show ∀ t ∈ l, Good t.1 t.2.1 from hgo)
    have HTX := Lib.hid (show ∀ t ∈ l, t.2.1.size ≤ 2000 from htx)
    have HCT := Lib.hid (show l.length ≤ 2000 from hct)
    clear hF hwr hri hgo htx hct h1
    by_cases he : er = 0
    · subst he
      obtain ⟨mm, hmm, hal⟩ := back l HGO.out
      have hsh := fun v w1 (h : TR w1 v l) (h2 : Wd m w1) => show_any v l m w1 (by have := HCT.out; omega) (fun t ht => by have := HTX.out t ht; omega) h h2
      have HSH := Lib.hid (show ∀ v w1, TR w1 v l → Wd m w1 → Calls Tryd.prog 14 #[v] w1 fun e w' => e = .returned (.string (bb (showL l))) ∧ Below w1.heap.size w1 w' from hsh)
      obtain ⟨X, hX⟩ : ∃ X, bb (showL l) = X := ⟨_, rfl⟩
      rw [hX] at HSH hmm
      have h2 : ∃ (l2 : List Tok) (e2 a2 : Int), scanA X = (l2, e2, a2) ∧ (2000 < X.size ∨ (X.size ≤ 2000 ∧ e2 = 0 ∧ Alike false l l2)) := by
        by_cases hxs : 2000 < X.size
        · exact ⟨_, _, _, rfl, .inl hxs⟩
        · exact ⟨mm, 0, 0, by rw [scanA_F X (by omega)]; exact hmm, .inr ⟨by omega, rfl, hal⟩⟩
      obtain ⟨l2, e2, a2, hsc, hor⟩ := h2
      have hsc2 := fun w1 h => scan_out X _ hsc m w1 h
      have H2 := Lib.hid (show ∀ w1, Wd m w1 → Calls Tryd.prog 9 #[.string X] w1 fun e w' => ∃ v, e = .returned (.tuple #[v, .int .i64 e2, .int .i64 a2]) ∧ ScanQ w1 v l2 w' from hsc2)
      have HOR := Lib.hid hor
      clear hmm hal hsh hsc hsc2 hor hX
      go_enter Tryd.func5, Tryd.ntmps5
      go_wp2_with fail
      refine (H1.out _ HM.out).mono ?_
      rintro e w1 ⟨v1, rfl, ht1, hb1⟩
      obtain ⟨ao1, c1, rfl, hx1⟩ := tr_cells ht1
      have HX1 := Lib.hid hx1
      have HT1 := Lib.hid ht1
      have HB1 := Lib.hid hb1
      have HM1 := Lib.hid (HM.out.below hb1)
      clear ht1 hb1 hx1
      go_wp2_with fail
      refine (HSH.out _ _ HT1.out HM1.out).mono ?_
      rintro e w2 ⟨rfl, hb2'⟩
      have HBW2 := Lib.hid hb2'
      have HT2 := Lib.hid (HT1.out.below hb2')
      have HB2 := Lib.hid (HB1.out.trans (hb2'.mono HB1.out.size))
      have HM2 := Lib.hid (HM1.out.below hb2')
      clear hb2'
      go_wp2_with fail
      refine (H2.out _ HM2.out).mono ?_
      rintro e w3 ⟨v3, rfl, ht3, hb3⟩
      have HU3 := Lib.hid ht3
      have HBW3 := Lib.hid (HBW2.out.trans (hb3.mono HBW2.out.size))
      have HT3 := Lib.hid (HT2.out.below hb3)
      have HB3 := Lib.hid (HB2.out.trans (hb3.mono HB2.out.size))
      have HM3 := Lib.hid (HM2.out.below hb3)
      clear ht3 hb3
      go_wp2
      go_loopw [9] (fun i wr => ∃ k n : Nat, 1 ≤ k ∧ (k ≤ l.length ∨ k = 1) ∧ i = .int .i64 k ∧ wr = w3.drewN n) (fun i _ => l.length - (intOf i).toNat)
      case atStart => exact ⟨1, 0, Nat.le_refl _, .inr rfl, rfl, rfl⟩
      case round =>
        obtain ⟨k, n, hk1, hk, rfl, rfl⟩ := hrel
        have hct2 := HCT.out
        by_cases hlt : k < l.length
        · rcases HX1.out with h0 | ⟨g, off, rfl, hcap, hx⟩
          · omega
          · obtain ⟨j, hkk⟩ : ∃ j, j + 1 = k := ⟨k - 1, by omega⟩
            obtain ⟨-, -, x3⟩ := hx k hlt
            obtain ⟨-, -, y3⟩ := hx j (by omega)
            have hg : g < w1.heap.size := World.block_lt_of_cell? w1 _ x3
            rw [← HBW3.out.cell (p := ⟨g, off + k * 3 + 2, none⟩) hg] at x3
            rw [← HBW3.out.cell (p := ⟨g, off + j * 3 + 2, none⟩) hg] at y3
            have hr := rise_at l HRI.out j k hkk hlt
            have cw : IntKind.i64.wrap ((k : Int) - 1) = (j : Int) := by rw [show (k : Int) - 1 = (j : Int) by omega]; exact IntWalk.i64_in _ (by have := HCT.out; omega)
            have hj : j < l.length := by omega
            have j0 : (0 : Int) ≤ (j : Int) := by omega
            have j1 : (j : Int) < (l.length : Int) := by omega
            have k0 : (0 : Int) ≤ (k : Int) := by omega
            have k1 : (k : Int) < (l.length : Int) := by omega
            generalize l[k].2.2 = xa at *
            generalize l[j].2.2 = ya at *
            have HKK := Lib.hid hkk
            clear hx hg hkk
            go_wp2
            go_quiet (fail)
            go_wp2
            go_roundw
            case rel => exact ⟨k + 1, _, by omega, .inl (by omega), by go_num, rfl⟩
            case measure => simp [intOf]; omega
        · have l1 : ¬ ((k : Int) < (l.length : Int)) := by omega
          have hbd := below_drewN_ (Below.refl w3.heap.size w3) n
          have HBD := Lib.hid (HB3.out.trans (hbd.mono HB3.out.size))
          have HTD := Lib.hid (HT3.out.drewN n)
          have HUD := Lib.hid (HU3.out.drewN n)
          have HMD := Lib.hid (HM3.out.drewN n)
          clear hbd HX1
          generalize w3.drewN n = w4 at *
          go_wp2_with fail
          refine (HSH.out _ _ HTD.out HMD.out).mono ?_
          rintro e w5 ⟨rfl, hb5⟩
          have HB5 := Lib.hid (HBD.out.trans (hb5.mono HBD.out.size))
          have HT5 := Lib.hid (HTD.out.below hb5)
          have HU5 := Lib.hid (HUD.out.below hb5)
          have HM5 := Lib.hid (HMD.out.below hb5)
          clear hb5
          rcases HOR.out with hxs | ⟨hxs, rfl, hal⟩
          · have hx2 : (2000 : Int) < (X.size : Int) := by omega
            go_wp2_with (go_at_call 8; (with_reducible refine (HK.out _ HM5.out).mono ?_); rintro e w9 ⟨rfl, hb⟩)
            go_ret
            exact ⟨rfl, HB5.out.trans (hb.mono HB5.out.size)⟩
          · have hx2 : ¬ ((2000 : Int) < (X.size : Int)) := by omega
            have HAL := Lib.hid hal
            clear hal
            go_wp2_with fail
            refine (same_yes _ v3 l l2 false _ HT5.out HU5.out (by have := HCT.out; omega) HAL.out).mono ?_
            rintro e w6 ⟨rfl, nq, rfl⟩
            have hbd := below_drewN_ (Below.refl w5.heap.size w5) nq
            have HB6 := Lib.hid (HB5.out.trans (hbd.mono HB5.out.size))
            have HM6 := Lib.hid (HM5.out.drewN nq)
            clear hbd
            generalize w5.drewN nq = w6 at *
            go_wp2_with (go_at_call 8; (with_reducible refine (HK.out _ HM6.out).mono ?_); rintro e w9 ⟨rfl, hb⟩)
            go_ret
            exact ⟨rfl, HB6.out.trans (hb.mono HB6.out.size)⟩
    · obtain ⟨hnil, ha0, ha1⟩ := HWR.out he
      have he2 : (er != (0 : Int)) = true := by rw [bne_iff_ne]; exact he
      obtain rfl : l = [] := hnil
      have ha0' : 0 ≤ ap := ha0
      have ha1' : ap ≤ (s.size : Int) := ha1
      clear ha0 ha1 he HWR
      go_enter Tryd.func5, Tryd.ntmps5
      go_wp2_with fail
      refine (H1.out _ HM.out).mono ?_
      rintro e w1 ⟨v1, rfl, ht1, hb1⟩
      obtain ⟨ao1, c1, rfl⟩ := ht1.form
      have HB1 := Lib.hid hb1
      have HM1 := Lib.hid (HM.out.below hb1)
      clear ht1 hb1
      go_wp2_with (go_at_call 8; (with_reducible refine (HK.out _ HM1.out).mono ?_); rintro e w9 ⟨rfl, hb⟩)
      go_ret
      exact ⟨rfl, HB1.out.trans (hb.mono HB1.out.size)⟩

theorem own : ownKnob Tryd.prog.godebug = none := by kernel_rfl

set_option maxRecDepth 100000 in
theorem lifted (os : Os) (started : os.Started) (H : Type) (enc : TypeId × Value → H) :
    ReturnsInHanded {} Tryd.checked os 5 .any (fun w args => (Rows.lexerBackSpec.pre enc Tryd.prog Tryd.f5 Rows.lexerBackRow.domain false w args ∧ laidMetH Tryd.prog Rows.lexerBackRow.laid w) ∧ sizedMet enc Tryd.prog Tryd.f5 (OpenSpec.ofChange Rows.lexerBackSpec) false w args) (Rows.lexerBackSpec.post enc Tryd.prog Tryd.f5 false true false false) := by
  refine returns_card (C := Tryd.checked) (X := fun w _ => laidMetH Tryd.prog Rows.lexerBackRow.laid w) own started (by kernel_rfl) Tryd.func5
    (ChangeSpec.witness_shaped (enc := enc) (C := Tryd.checked) (os := os) (X := fun w _ => laidMetH Tryd.prog Rows.lexerBackRow.laid w) false (World.laidAll Tryd.prog os Rows.lexerBackRow.laid) #[.string ByteArray.empty] 8 (World.laidAll_os _ _ _)
      (World.shaped_of_ZipB (by kernel_rfl) (by kernel_rfl)) (by kernel_rfl) (by kernel_rfl) (by kernel_rfl)
      (by rw [MakeChecks.laidMetH_plain _ _ _ (by kernel_rfl)]; exact laidMet_laidAll _ (by kernel_rfl) (by kernel_rfl))) ?_
  intro W base args ds gs before hval0 hW hcnd hsz0 hSh _
  have hsz : (DataW.weightsEach Tryd.prog (Tryd.f5.params.toList ++ Rows.lexerBackSpec.plain.varTypes Tryd.prog) (ds ++ gs)).all (· ≤ reachBytes) = true := hsz0
  clear hsz0
  have hval : ∀ (j : Nat) t v, Tryd.f5.params[j]? = some t → args[j]? = some v → Value.okWide Tryd.prog W .any base t v := hval0
  have hW' := hW
  obtain ⟨p, q, hA0, hV, rfl, hfz, hnd⟩ := hW
  have hA : DataW.TrodAll enc Tryd.prog W 0 (fun _ => true) true Tryd.f5.params.toList args.toList ds p := hA0
  rw [Tryd.params5] at hA hval hsz
  obtain ⟨v0, vs0, d0, ds0, p0, q0, hargs, rfl, rfl, h0, r0⟩ := trodAll_cons hA
  obtain ⟨rfl, rfl, rfl⟩ := trodAll_nil r0
  obtain rfl : args = #[v0] := by cases args; simp_all
  obtain ⟨rfl, rfl⟩ := trodVars_none hV
  obtain ⟨a0, rfl, rfl, rfl, m0⟩ := open_string Tryd.underlying9 (hval 0 9 v0 rfl rfl) h0
  clear hA0 hval0
  have s0 : a0.size ≤ 140737488351232 := by
    have := sized_string hsz (j := 0) (t := 9) (bytes := a0.data.toList) rfl rfl
    rw [← Lib.size_eq] at this; unfold reachBytes at this; exact this
  refine (walk a0 s0 W (the_word hSh)).mono fun e W' ⟨he, bel⟩ => ?_
  subst he
  exact ⟨_, rfl, _, _, _, [], _, [], hW', trodAll_mk1 (shut_bool Tryd.underlying4 _), (trodAll_cons_mk (shut_string Tryd.underlying9 m0) trodAll_mk0), rfl, bel.frame _, fun h => by cases h⟩

theorem over : Rows.lexerBackRow.holds Tryd.pinned (OpenSpec.ofChange Rows.lexerBackSpec) :=
  OpenClaim.holds_of_wide 5 Tryd.f5 rfl rfl rfl rfl rfl rfl rfl ⟨rfl, rfl, rfl, rfl, rfl⟩ rfl rfl rfl rfl rfl (by kernel_rfl) Tryd.func5 (by kernel_rfl)
    (of_decide_eq_true (by kernel_rfl)) (by unfold Func.isWrapper; rw [if_neg (by decide +kernel)]; exact ⟨rfl, rfl⟩)
    (fun os started H enc _ => lifted os started H enc)

theorem proved : Rows.LexerBackCardSaid :=
  Claim7.holds_tied_plain_at .later [] [.data, .pinned] true Rows.lexerBackCard.stood.harness false over (fun _ h => by cases h) (by kernel_rfl) (fun _ h => by cases h) lexerBack_row_tie rfl ⟨rfl, rfl⟩ (by kernel_rfl) rfl
    (fun f fn hf hfn => by
      obtain rfl : f = 5 := Option.some.inj ((show Tryd.prog.funcNamed "pontoon/pontoonlaw04.LexerBack" = some 5 by kernel_rfl).symm.trans hf) |>.symm
      obtain rfl : fn = Tryd.f5 := (Option.some.inj (Tryd.func5.symm.trans hfn)).symm
      refine ⟨by kernel_rfl, fun j t ht => ?_⟩
      have hall : (Tryd.f5.params.toList.all fun u => !Tryd.prog.wantsStandIn u) = true := by kernel_rfl
      have hm : t ∈ Tryd.f5.params.toList := Array.mem_toList_iff.2 (Array.mem_of_getElem? ht)
      have := List.all_eq_true.1 hall t hm
      exact (show Tryd.prog.wantsStandIn t = false by simpa using this))
    (by kernel_rfl)
end Go.Proofs.YtlmgggipkdmdfaaDoor.lexerBack
