/- NormTwice (layer 5, the stage's theorem): for every text the law returns true: the normal form of a normal form is that again; blanks, remarks, great letters and a ; at the end make no difference. A tied card; no condition but the form's own reach. -/
import Derived.Test.YtgnpkpboilnijaaGreatDoorG26
import Derived.Test.YtgnpkpboilnijaaGreatDoorG27
import Derived.SizedLaws
import Derived.ChangeOld
import Derived.Carry
namespace Go.Proofs.YtgnpkpboilnijaaGreatDoor.normTwice
open Go.ChangeShapes Go.WideShapes Go.ChangeAt Go.RowKit
open Go.ChangeMaps (open_string shut_string)
set_option linter.unusedVariables false

set_option maxHeartbeats 4000000 in
set_option maxRecDepth 100000 in
theorem walk (s : ByteArray) (hs : s.size ≤ 140737488351232) (W : World) (hw : ∃ m, Wd m W) :
    Calls Tryz.prog 5 #[.string s] W fun e w' => e = .returned (.bool true) ∧ Below W.heap.size W w' := by
  obtain ⟨m, hm⟩ := hw
  have hkn := fun w1 h1 => known5_any m w1 h1
  have HM := Lib.hid hm
  have HK := Lib.hid hkn
  clear hm hkn
  by_cases hbig : 800 < s.size
  · have hb2 : (800 : Int) < (s.size : Int) := by omega
    clear hbig
    go_enter Tryz.func5, Tryz.ntmps5
    go_wp2_with (go_at_call 8; (with_reducible refine (HK.out _ HM.out).mono ?_); rintro e w5 ⟨rfl, hb⟩)
    go_ret
    exact ⟨rfl, hb⟩
  · have hb2 : ¬ ((800 : Int) < (s.size : Int)) := by omega
    have hfo := fun w1 h1 => form_any s m w1 h1
    by_cases he : (scanA s).2.1 = 0
    · have h3 := form_around s he (by omega)
      have hE : (formA s).2 = 0 := by unfold formA; rw [if_pos he]
      have hfa := fun w1 h1 => form_any ((preB ++ s) ++ sufB) m w1 h1
      rw [h3] at hfa
      obtain ⟨L, hL⟩ : ∃ L, (formA s).1 = L := ⟨_, rfl⟩
      have hF : formA s = (L, 0) := by rw [← hL, ← hE]
      have htw := form_twice s he
      have hfb := fun w1 h1 => form_any (bb L) m w1 h1
      rw [hL] at htw
      rw [hF] at hfo hfa htw
      have hfo : ∀ w1, Wd m w1 → Calls Tryz.prog 9 #[.string s] w1 fun e w' => e = .returned (.tuple #[.string (bb L), .int .i64 0]) ∧ Below w1.heap.size w1 w' := hfo
      have hfa : ∀ w1, Wd m w1 → Calls Tryz.prog 9 #[.string ((preB ++ s) ++ sufB)] w1 fun e w' => e = .returned (.tuple #[.string (bb L), .int .i64 0]) ∧ Below w1.heap.size w1 w' := hfa
      have hsl : s.size ≤ 800 := by omega
      have hbl : (bb L).size = L.length := bb_size L
      by_cases hl : L.length ≤ 2000
      · rw [htw hl] at hfb
        have hfb : ∀ w1, Wd m w1 → Calls Tryz.prog 9 #[.string (bb L)] w1 fun e w' => e = .returned (.tuple #[.string (bb L), .int .i64 0]) ∧ Below w1.heap.size w1 w' := hfb
        have hl2 : ¬ ((2000 : Int) < ((bb L).size : Int)) := by omega
        generalize bb L = X at *
        have HFO := Lib.hid hfo
        have HFA := Lib.hid hfa
        have HFB := Lib.hid hfb
        clear hfo hfa hfb hbl hl hF hL htw hE h3 he hbig hs
        go_enter Tryz.func5, Tryz.ntmps5
        go_wp2_with fail
        refine (HFO.out _ HM.out).mono ?_
        rintro e w1 ⟨rfl, hb1⟩
        have HB1 := Lib.hid hb1
        have HM1 := Lib.hid (HM.out.below hb1)
        clear hb1
        go_wp2_with fail
        refine (HFB.out _ HM1.out).mono ?_
        rintro e w2 ⟨rfl, hb2'⟩
        have HB2 := Lib.hid (HB1.out.trans (hb2'.mono HB1.out.size))
        have HM2 := Lib.hid (HM1.out.below hb2')
        clear hb2'
        go_wp2_with fail
        refine (HFA.out _ HM2.out).mono ?_
        rintro e w3 ⟨rfl, hb3⟩
        have HB3 := Lib.hid (HB2.out.trans (hb3.mono HB2.out.size))
        have HM3 := Lib.hid (HM2.out.below hb3)
        clear hb3
        go_wp2_with (go_at_call 8; (with_reducible refine (HK.out _ HM3.out).mono ?_); rintro e w5 ⟨rfl, hb5⟩)
        go_ret
        exact ⟨rfl, HB3.out.trans (hb5.mono HB3.out.size)⟩
      · have hl2 : (2000 : Int) < ((bb L).size : Int) := by omega
        obtain ⟨G1, hg1⟩ : ∃ G, bb (formA (bb L)).1 = G := ⟨_, rfl⟩
        obtain ⟨G2, hg2⟩ : ∃ G, (formA (bb L)).2 = G := ⟨_, rfl⟩
        rw [hg1, hg2] at hfb
        clear hg1 hg2 hbl hl hF hL htw hE h3 he hbig hs
        generalize bb L = X at *
        have HFO := Lib.hid hfo
        have HFA := Lib.hid hfa
        have HFB := Lib.hid hfb
        clear hfo hfa hfb
        go_enter Tryz.func5, Tryz.ntmps5
        go_wp2_with fail
        refine (HFO.out _ HM.out).mono ?_
        rintro e w1 ⟨rfl, hb1⟩
        have HB1 := Lib.hid hb1
        have HM1 := Lib.hid (HM.out.below hb1)
        clear hb1
        go_wp2_with fail
        refine (HFB.out _ HM1.out).mono ?_
        rintro e w2 ⟨rfl, hb2'⟩
        have HB2 := Lib.hid (HB1.out.trans (hb2'.mono HB1.out.size))
        have HM2 := Lib.hid (HM1.out.below hb2')
        clear hb2'
        go_wp2_with fail
        refine (HFA.out _ HM2.out).mono ?_
        rintro e w3 ⟨rfl, hb3⟩
        have HB3 := Lib.hid (HB2.out.trans (hb3.mono HB2.out.size))
        have HM3 := Lib.hid (HM2.out.below hb3)
        clear hb3
        go_wp2_with (go_at_call 8; (with_reducible refine (HK.out _ HM3.out).mono ?_); rintro e w5 ⟨rfl, hb5⟩)
        go_ret
        exact ⟨rfl, HB3.out.trans (hb5.mono HB3.out.size)⟩
    · have hF : formA s = ([], (scanA s).2.1) := by unfold formA; rw [if_neg he]
      rw [hF] at hfo
      have he2 : ((scanA s).2.1 != (0 : Int)) = true := by rw [bne_iff_ne]; exact he
      have hfo : ∀ w1, Wd m w1 → Calls Tryz.prog 9 #[.string s] w1 fun e w' => e = .returned (.tuple #[.string ⟨#[]⟩, .int .i64 (scanA s).2.1]) ∧ Below w1.heap.size w1 w' := hfo
      generalize (scanA s).2.1 = E at *
      have HFO := Lib.hid hfo
      clear hfo he hF hbig hs
      go_enter Tryz.func5, Tryz.ntmps5
      go_wp2_with (first
        | (go_at_call 9; (with_reducible refine (HFO.out _ HM.out).mono ?_); rintro e w1 ⟨rfl, hb1⟩; have HB1 := Lib.hid hb1; have HM1 := Lib.hid (HM.out.below hb1); clear hb1)
        | (go_at_call 8; (with_reducible refine (HK.out _ HM1.out).mono ?_); rintro e w5 ⟨rfl, hb5⟩))
      go_ret
      exact ⟨rfl, HB1.out.trans (hb5.mono HB1.out.size)⟩

theorem own : ownKnob Tryz.prog.godebug = none := by kernel_rfl

set_option maxRecDepth 100000 in
theorem lifted (os : Os) (started : os.Started) (H : Type) (enc : TypeId × Value → H) :
    ReturnsInHanded {} Tryz.checked os 5 .any (fun w args => (Rows.normTwiceSpec.pre enc Tryz.prog Tryz.f5 Rows.normTwiceRow.domain false w args ∧ laidMetH Tryz.prog Rows.normTwiceRow.laid w) ∧ sizedMet enc Tryz.prog Tryz.f5 (OpenSpec.ofChange Rows.normTwiceSpec) false w args) (Rows.normTwiceSpec.post enc Tryz.prog Tryz.f5 false true false false) := by
  refine returns_card (C := Tryz.checked) (X := fun w _ => laidMetH Tryz.prog Rows.normTwiceRow.laid w) own started (by kernel_rfl) Tryz.func5
    (ChangeSpec.witness_shaped (enc := enc) (C := Tryz.checked) (os := os) (X := fun w _ => laidMetH Tryz.prog Rows.normTwiceRow.laid w) false (World.laidAll Tryz.prog os Rows.normTwiceRow.laid) #[.string ByteArray.empty] 8 (World.laidAll_os _ _ _)
      (World.shaped_of_ZipB (by kernel_rfl) (by kernel_rfl)) (by kernel_rfl) (by kernel_rfl) (by kernel_rfl)
      (by rw [MakeChecks.laidMetH_plain _ _ _ (by kernel_rfl)]; exact laidMet_laidAll _ (by kernel_rfl) (by kernel_rfl))) ?_
  intro W base args ds gs before hval0 hW hcnd hsz0 hSh _
  have hsz : (DataW.weightsEach Tryz.prog (Tryz.f5.params.toList ++ Rows.normTwiceSpec.plain.varTypes Tryz.prog) (ds ++ gs)).all (· ≤ reachBytes) = true := hsz0
  clear hsz0
  have hval : ∀ (j : Nat) t v, Tryz.f5.params[j]? = some t → args[j]? = some v → Value.okWide Tryz.prog W .any base t v := hval0
  have hW' := hW
  obtain ⟨p, q, hA0, hV, rfl, hfz, hnd⟩ := hW
  have hA : DataW.TrodAll enc Tryz.prog W 0 (fun _ => true) true Tryz.f5.params.toList args.toList ds p := hA0
  rw [Tryz.params5] at hA hval hsz
  obtain ⟨v0, vs0, d0, ds0, p0, q0, hargs, rfl, rfl, h0, r0⟩ := trodAll_cons hA
  obtain ⟨rfl, rfl, rfl⟩ := trodAll_nil r0
  obtain rfl : args = #[v0] := by cases args; simp_all
  obtain ⟨rfl, rfl⟩ := trodVars_none hV
  obtain ⟨a0, rfl, rfl, rfl, m0⟩ := open_string Tryz.underlying9 (hval 0 9 v0 rfl rfl) h0
  clear hA0 hval0
  have s0 : a0.size ≤ 140737488351232 := by
    have := sized_string hsz (j := 0) (t := 9) (bytes := a0.data.toList) rfl rfl
    rw [← Lib.size_eq] at this; unfold reachBytes at this; exact this
  refine (walk a0 s0 W (the_word hSh)).mono fun e W' ⟨he, bel⟩ => ?_
  subst he
  exact ⟨_, rfl, _, _, _, [], _, [], hW', trodAll_mk1 (shut_bool Tryz.underlying4 _), (trodAll_cons_mk (shut_string Tryz.underlying9 m0) trodAll_mk0), rfl, bel.frame _, fun h => by cases h⟩

theorem over : Rows.normTwiceRow.holds Tryz.pinned (OpenSpec.ofChange Rows.normTwiceSpec) :=
  OpenClaim.holds_of_wide 5 Tryz.f5 rfl rfl rfl rfl rfl rfl rfl ⟨rfl, rfl, rfl, rfl, rfl⟩ rfl rfl rfl rfl rfl (by kernel_rfl) Tryz.func5 (by kernel_rfl)
    (of_decide_eq_true (by kernel_rfl)) (by unfold Func.isWrapper; rw [if_neg (by decide +kernel)]; exact ⟨rfl, rfl⟩)
    (fun os started H enc _ => lifted os started H enc)

theorem proved : Rows.NormTwiceCardSaid :=
  Claim7.holds_tied_plain_at .later [] [.data, .data, .data, .data, .sentinel, .sentinel, .pinned] true Rows.normTwiceCard.stood.harness true over (fun _ h => by cases h) (by kernel_rfl) (fun _ h => by cases h) normTwice_row_tie rfl ⟨rfl, rfl⟩ (by kernel_rfl) rfl
    (fun f fn hf hfn => by
      obtain rfl : f = 5 := Option.some.inj ((show Tryz.prog.funcNamed "pontoon/pontoonlaw05.NormTwice" = some 5 by kernel_rfl).symm.trans hf) |>.symm
      obtain rfl : fn = Tryz.f5 := (Option.some.inj (Tryz.func5.symm.trans hfn)).symm
      refine ⟨by kernel_rfl, fun j t ht => ?_⟩
      have hall : (Tryz.f5.params.toList.all fun u => !Tryz.prog.wantsStandIn u) = true := by kernel_rfl
      have hm : t ∈ Tryz.f5.params.toList := Array.mem_toList_iff.2 (Array.mem_of_getElem? ht)
      have := List.all_eq_true.1 hall t hm
      exact (show Tryz.prog.wantsStandIn t = false by simpa using this))
    (by kernel_rfl)
end Go.Proofs.YtgnpkpboilnijaaGreatDoor.normTwice
