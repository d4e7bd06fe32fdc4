/- NormForms (layer 5): for every text and every list of tokens the law returns true and its arguments read as before: the normal form of any text, and of any tokens, is as the document says, or what is wrong. A tied card; no condition but the form's own reach. -/
import Derived.Test.YtgnpkpboilnijaaGreatDoorG26
import Derived.SizedLaws
import Derived.ChangeOld
import Derived.Carry
namespace Go.Proofs.YtgnpkpboilnijaaGreatDoor.normForms
open Go.ChangeShapes Go.WideShapes Go.ChangeAt Go.RowKit
open Go.ChangeMaps (open_string shut_string)
set_option linter.unusedVariables false

set_option maxHeartbeats 4000000 in
set_option maxRecDepth 100000 in
theorem walk (s : ByteArray) (v : Value) (W : World) (hs : s.size ≤ 140737488351232) (hf : FitsT W v) (hw : ∃ m, Wd m W) :
    Calls Tryz.prog 3 #[.string s, v] W fun e w' => e = .returned (.bool true) ∧ Below W.heap.size W w' := by
  obtain ⟨l, hT⟩ := hf
  obtain ⟨m, hm⟩ := hw
  have hkn := fun w1 h1 => known5_any m w1 h1
  have hli := light_any v l W hT
  obtain ⟨a, cap, rfl⟩ := hT.form
  have HT := Lib.hid hT
  have HM := Lib.hid hm
  have HK := Lib.hid hkn
  clear hT hm hkn
  by_cases hbig : 2100 < s.size
  · have hb2 : (2100 : Int) < (s.size : Int) := by omega
    clear hli hbig
    go_enter Tryz.func3, Tryz.ntmps3
    go_wp2_with (go_at_call 8; (with_reducible refine (HK.out _ HM.out).mono ?_); rintro e w5 ⟨rfl, hb⟩)
    go_ret
    exact ⟨rfl, hb⟩
  · have hb2 : ¬ ((2100 : Int) < (s.size : Int)) := by omega
    cases hl : lightL l with
    | false =>
      rw [hl] at hli
      have HLI := Lib.hid hli
      clear hli hl hbig
      go_enter Tryz.func3, Tryz.ntmps3
      go_wp2_with (first
        | (go_at_call 7; (with_reducible refine HLI.out.mono ?_); rintro e w0 ⟨rfl, hw0⟩; obtain rfl := hw0.symm)
        | (go_at_call 8; (with_reducible refine (HK.out _ HM.out).mono ?_); rintro e w5 ⟨rfl, hb⟩))
      go_ret
      exact ⟨rfl, hb⟩
    | true =>
      obtain ⟨z1, z2⟩ := light_yes hl
      rw [hl] at hli
      have hfo := fun w1 h1 => form_any s m w1 h1
      have hrf := fun w1 => rform_any s w1
      have hto := fun w1 h1 h2 => tokens_any (.slice a l.length cap) l m w1 (by omega) (fun t ht => by have := z2 t ht; omega) h1 h2
      have hrt := fun w1 h1 => rtokens_any (.slice a l.length cap) l w1 (by omega) (fun t ht => by have := z2 t ht; omega) h1
      obtain ⟨F1, h1⟩ : ∃ F1, bb (formA s).1 = F1 := ⟨_, rfl⟩
      obtain ⟨F2, h2⟩ : ∃ F2, (formA s).2 = F2 := ⟨_, rfl⟩
      obtain ⟨X, h3⟩ : ∃ X, bb (showL (tokensL l)) = X := ⟨_, rfl⟩
      rw [h1, h2] at hfo hrf
      rw [h3] at hto hrt
      have HLI := Lib.hid hli
      have HFO := Lib.hid hfo
      have HRF := Lib.hid hrf
      have HTO := Lib.hid hto
      have HRT := Lib.hid hrt
      clear hli hfo hrf hto hrt h1 h2 h3 hl z1 z2 hbig hs
      go_enter Tryz.func3, Tryz.ntmps3
      go_wp2_with (first
        | (go_at_call 7; (with_reducible refine HLI.out.mono ?_); rintro e w0 ⟨rfl, hw0⟩; obtain rfl := hw0.symm)
        | (go_at_call 9; (with_reducible refine (HFO.out _ HM.out).mono ?_); rintro e w1 ⟨rfl, hb1⟩; have HB1 := Lib.hid hb1; have HM1 := Lib.hid (HM.out.below hb1); have HT1 := Lib.hid (HT.out.below hb1); clear hb1)
        | (go_at_call 10; (with_reducible refine (HRF.out _).mono ?_); rintro e w2 ⟨rfl, hb2⟩; have HB2 := Lib.hid (HB1.out.trans (hb2.mono HB1.out.size)); have HM2 := Lib.hid (HM1.out.below hb2); have HT2 := Lib.hid (HT1.out.below hb2); clear hb2)
        | (go_at_call 11; (with_reducible refine (HTO.out _ HT2.out HM2.out).mono ?_); rintro e w3 ⟨rfl, hb3⟩; have HB3 := Lib.hid (HB2.out.trans (hb3.mono HB2.out.size)); have HM3 := Lib.hid (HM2.out.below hb3); have HT3 := Lib.hid (HT2.out.below hb3); clear hb3)
        | (go_at_call 12; (with_reducible refine (HRT.out _ HT3.out).mono ?_); rintro e w4 ⟨rfl, hb4⟩; have HB4 := Lib.hid (HB3.out.trans (hb4.mono HB3.out.size)); have HM4 := Lib.hid (HM3.out.below hb4); clear hb4)
        | (go_at_call 8; (with_reducible refine (HK.out _ HM4.out).mono ?_); rintro e w5 ⟨rfl, hb5⟩))
      go_ret
      exact ⟨rfl, HB4.out.trans (hb5.mono HB4.out.size)⟩

theorem own : ownKnob Tryz.prog.godebug = none := by kernel_rfl
theorem laidOut : laidOutB Tryz.prog = true := by kernel_rfl
theorem weights_at {H : Type} {P : Program} {ts : List TypeId} {ds : List (DataW H)} (h : (DataW.weightsEach P ts ds).all (· ≤ reachBytes) = true) (j : Nat) {t : TypeId} {d : DataW H} (ht : ts[j]? = some t) (hd : ds[j]? = some d) : (DataW.weights P t d).all (· ≤ reachBytes) = true :=
  List.all_eq_true.2 fun x hx => List.all_eq_true.1 h x (DataW.weights_mem_each ht hd x hx)

set_option maxRecDepth 100000 in
theorem lifted (os : Os) (started : os.Started) (H : Type) (enc : TypeId × Value → H) :
    ReturnsInHanded {} Tryz.checked os 3 .any (fun w args => (Rows.normFormsSpec.pre enc Tryz.prog Tryz.f3 Rows.normFormsRow.domain false w args ∧ laidMetH Tryz.prog Rows.normFormsRow.laid w) ∧ sizedMet enc Tryz.prog Tryz.f3 (OpenSpec.ofChange Rows.normFormsSpec) false w args) (Rows.normFormsSpec.post enc Tryz.prog Tryz.f3 false true false false) := by
  refine returns_card (C := Tryz.checked) (X := fun w _ => laidMetH Tryz.prog Rows.normFormsRow.laid w) own started (by kernel_rfl) Tryz.func3
    (ChangeSpec.witness_shaped (enc := enc) (C := Tryz.checked) (os := os) (X := fun w _ => laidMetH Tryz.prog Rows.normFormsRow.laid w) false (World.laidAll Tryz.prog os Rows.normFormsRow.laid) #[.string ByteArray.empty, .slice none 0 0] 8 (World.laidAll_os _ _ _)
      (World.shaped_of_ZipB (by kernel_rfl) (by kernel_rfl)) (by kernel_rfl) (by kernel_rfl) (by kernel_rfl)
      (by rw [MakeChecks.laidMetH_plain _ _ _ (by kernel_rfl)]; exact laidMet_laidAll _ (by kernel_rfl) (by kernel_rfl))) ?_
  intro W base args ds gs before hval0 hW hcnd hsz0 hSh _
  have hsz : (DataW.weightsEach Tryz.prog (Tryz.f3.params.toList ++ Rows.normFormsSpec.plain.varTypes Tryz.prog) (ds ++ gs)).all (· ≤ reachBytes) = true := hsz0
  clear hsz0
  have hval : ∀ (j : Nat) t v, Tryz.f3.params[j]? = some t → args[j]? = some v → Value.okWide Tryz.prog W .any base t v := hval0
  have hW' := hW
  obtain ⟨p, q, hA0, hV, rfl, hfz, hnd⟩ := hW
  have hA : DataW.TrodAll enc Tryz.prog W 0 (fun _ => true) true Tryz.f3.params.toList args.toList ds p := hA0
  rw [Tryz.params3] at hA hval hsz
  obtain ⟨v0, vs0, d0, ds0, p0, q0, hargs, rfl, rfl, h0, r0⟩ := trodAll_cons hA
  obtain ⟨v1, vs1, d1, ds1, p1, q1, rfl, rfl, rfl, h1, r1⟩ := trodAll_cons r0
  obtain ⟨rfl, rfl, rfl⟩ := trodAll_nil r1
  obtain rfl : args = #[v0, v1] := by cases args; simp_all
  obtain ⟨rfl, rfl⟩ := trodVars_none hV
  obtain ⟨a0, rfl, rfl, rfl, m0⟩ := open_string Tryz.underlying9 (hval 0 9 v0 rfl rfl) h0
  have k1 := h1
  have lt1 : ∀ x ∈ p1, x.block < W.heap.size := by obtain ⟨m, hm⟩ := k1; exact DataW.trod_lt m _ _ _ hm
  have f1 := opened_toks (hval 1 22 v1 rfl rfl) h1 (weights_at hsz 1 rfl rfl)
  clear hA0 hval0
  have s0 : a0.size ≤ 140737488351232 := by
    have := sized_string hsz (j := 0) (t := 9) (bytes := a0.data.toList) rfl rfl
    rw [← Lib.size_eq] at this; unfold reachBytes at this; exact this
  refine (walk a0 v1 W s0 f1 (the_word hSh)).mono fun e W' ⟨he, bel⟩ => ?_
  subst he
  exact ⟨_, rfl, _, _, _, [], _, [], hW', trodAll_mk1 (shut_bool Tryz.underlying4 _), (trodAll_cons_mk (shut_string Tryz.underlying9 m0) (trodAll_cons_mk (Below.trod laidOut (by kernel_rfl) (of_decide_eq_true (by kernel_rfl)) k1 bel lt1) trodAll_mk0)), rfl, bel.frame _, fun h => by cases h⟩

theorem over : Rows.normFormsRow.holds Tryz.pinned (OpenSpec.ofChange Rows.normFormsSpec) :=
  OpenClaim.holds_of_wide 3 Tryz.f3 rfl rfl rfl rfl rfl rfl rfl ⟨rfl, rfl, rfl, rfl, rfl⟩ rfl rfl rfl rfl rfl (by kernel_rfl) Tryz.func3 (by kernel_rfl)
    (of_decide_eq_true (by kernel_rfl)) (by unfold Func.isWrapper; rw [if_neg (by decide +kernel)]; exact ⟨rfl, rfl⟩)
    (fun os started H enc _ => lifted os started H enc)

theorem proved : Rows.NormFormsCardSaid :=
  Claim7.holds_tied_plain_at .later [] [.data, .data, .data, .data, .sentinel, .sentinel, .pinned] true Rows.normFormsCard.stood.harness true over (fun _ h => by cases h) (by kernel_rfl) (fun _ h => by cases h) normForms_row_tie rfl ⟨rfl, rfl⟩ (by kernel_rfl) rfl
    (fun f fn hf hfn => by
      obtain rfl : f = 3 := Option.some.inj ((show Tryz.prog.funcNamed "pontoon/pontoonlaw05.NormForms" = some 3 by kernel_rfl).symm.trans hf) |>.symm
      obtain rfl : fn = Tryz.f3 := (Option.some.inj (Tryz.func3.symm.trans hfn)).symm
      refine ⟨by kernel_rfl, fun j t ht => ?_⟩
      have hall : (Tryz.f3.params.toList.all fun u => !Tryz.prog.wantsStandIn u) = true := by kernel_rfl
      have hm : t ∈ Tryz.f3.params.toList := Array.mem_toList_iff.2 (Array.mem_of_getElem? ht)
      have := List.all_eq_true.1 hall t hm
      exact (show Tryz.prog.wantsStandIn t = false by simpa using this))
    (by kernel_rfl)
end Go.Proofs.YtgnpkpboilnijaaGreatDoor.normForms
