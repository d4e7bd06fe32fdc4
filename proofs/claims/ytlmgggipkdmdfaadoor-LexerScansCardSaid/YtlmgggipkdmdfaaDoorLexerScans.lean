/- LexerScans (layer 4): for every text the law returns true and its argument reads as before: the tokens of any text, or what is wrong, and where, are as the document says. A tied card; no condition but the form's own reach. -/
import Derived.Test.YtlmgggipkdmdfaaDoorLzr
import Derived.Test.YtlmgggipkdmdfaaDoorCrd
import Derived.SizedLaws
import Derived.ChangeOld
import Derived.Carry
namespace Go.Proofs.YtlmgggipkdmdfaaDoor.lexerScans
open Go.ChangeShapes Go.WideShapes Go.ChangeAt Go.RowKit
open Go.ChangeMaps (open_string shut_string)
set_option linter.unusedVariables false


theorem scan_tr (s : ByteArray) (m : Int) (w : World) (hm : Wd m w) : Calls Tryd.prog 9 #[.string s] w (ScanT w (scanA s)) :=
  (scan_any s m w hm).mono fun e w' ⟨v, h1, h2, h3⟩ => ⟨v, h1, TR.own h2, h3⟩
set_option maxHeartbeats 4000000 in
set_option maxRecDepth 100000 in
theorem walk (s : ByteArray) (hs : s.size ≤ 140737488351232) (w : World) (hw : ∃ m, Wd m w) :
    Calls Tryd.prog 3 #[.string s] w fun e w' => e = .returned (.bool true) ∧ Below w.heap.size w w' := by
  obtain ⟨m, hm⟩ := hw
  have HM := Lib.hid hm
  have hkn := fun w1 h1 => known_any m w1 h1
  have HK := Lib.hid hkn
  clear hm hkn
  by_cases hbig : 2100 < s.size
  · have hb2 : (2100 : Int) < (s.size : Int) := by omega
    go_enter Tryd.func3, Tryd.ntmps3
    go_wp2_with (go_at_call 8; (with_reducible refine (HK.out _ HM.out).mono ?_); rintro e w5 ⟨rfl, hb⟩)
    go_ret
    exact ⟨rfl, hb⟩
  · have hb2 : ¬ ((2100 : Int) < (s.size : Int)) := by omega
    have h1 := fun w1 h => scan_tr s m w1 h
    have h2 := fun w1 => rscan_any s w1
    have hc := scanA_count s
    generalize scanA s = R at *
    obtain ⟨l, er, ap⟩ := R
    have H1 := Lib.hid h1
    have H2 := Lib.hid h2
    have HC := Lib.hid (show l.length ≤ 2000 from hc)
    clear h1 h2 hc
    go_enter Tryd.func3, Tryd.ntmps3
    go_wp2_with fail
    refine (H1.out _ HM.out).mono ?_
    rintro e w1 ⟨v1, rfl, ht1, hb1⟩
    have HT1 := Lib.hid ht1
    have HB1 := Lib.hid hb1
    have HM1 := Lib.hid (HM.out.below hb1)
    clear ht1 hb1
    go_wp2_with fail
    refine (H2.out _).mono ?_
    rintro e w2 ⟨v2, rfl, ht2, hb2'⟩
    have HT2 := Lib.hid ht2
    have HT1' := Lib.hid (HT1.out.below hb2')
    have HB2 := Lib.hid (HB1.out.trans (hb2'.mono HB1.out.size))
    have HM2 := Lib.hid (HM1.out.below hb2')
    clear ht2 hb2'
    go_wp2_with fail
    refine (same_yes v1 v2 l l true _ HT1'.out HT2.out (by have := HC.out; omega) (Alike.refl _ _)).mono ?_
    rintro e w3 ⟨rfl, nq, rfl⟩
    have hbd := below_drewN_ (Below.refl w2.heap.size w2) nq
    have HBD := Lib.hid (HB2.out.trans (hbd.mono HB2.out.size))
    have HM3 := Lib.hid (HM2.out.drewN nq)
    clear hbd
    generalize w2.drewN nq = w3 at *
    go_wp2_with (go_at_call 8; (with_reducible refine (HK.out _ HM3.out).mono ?_); rintro e w5 ⟨rfl, hb⟩)
    go_ret
    exact ⟨rfl, HBD.out.trans (hb.mono HBD.out.size)⟩

theorem own : ownKnob Tryd.prog.godebug = none := by kernel_rfl

set_option maxRecDepth 100000 in
theorem lifted (os : Os) (started : os.Started) (H : Type) (enc : TypeId × Value → H) :
    ReturnsInHanded {} Tryd.checked os 3 .any (fun w args => (Rows.lexerScansSpec.pre enc Tryd.prog Tryd.f3 Rows.lexerScansRow.domain false w args ∧ laidMetH Tryd.prog Rows.lexerScansRow.laid w) ∧ sizedMet enc Tryd.prog Tryd.f3 (OpenSpec.ofChange Rows.lexerScansSpec) false w args) (Rows.lexerScansSpec.post enc Tryd.prog Tryd.f3 false true false false) := by
  refine returns_card (C := Tryd.checked) (X := fun w _ => laidMetH Tryd.prog Rows.lexerScansRow.laid w) own started (by kernel_rfl) Tryd.func3
    (ChangeSpec.witness_shaped (enc := enc) (C := Tryd.checked) (os := os) (X := fun w _ => laidMetH Tryd.prog Rows.lexerScansRow.laid w) false (World.laidAll Tryd.prog os Rows.lexerScansRow.laid) #[.string ByteArray.empty] 8 (World.laidAll_os _ _ _)
      (World.shaped_of_ZipB (by kernel_rfl) (by kernel_rfl)) (by kernel_rfl) (by kernel_rfl) (by kernel_rfl)
      (by rw [MakeChecks.laidMetH_plain _ _ _ (by kernel_rfl)]; exact laidMet_laidAll _ (by kernel_rfl) (by kernel_rfl))) ?_
  intro W base args ds gs before hval0 hW hcnd hsz0 hSh _
  have hsz : (DataW.weightsEach Tryd.prog (Tryd.f3.params.toList ++ Rows.lexerScansSpec.plain.varTypes Tryd.prog) (ds ++ gs)).all (· ≤ reachBytes) = true := hsz0
  clear hsz0
  have hval : ∀ (j : Nat) t v, Tryd.f3.params[j]? = some t → args[j]? = some v → Value.okWide Tryd.prog W .any base t v := hval0
  have hW' := hW
  obtain ⟨p, q, hA0, hV, rfl, hfz, hnd⟩ := hW
  have hA : DataW.TrodAll enc Tryd.prog W 0 (fun _ => true) true Tryd.f3.params.toList args.toList ds p := hA0
  rw [Tryd.params3] at hA hval hsz
  obtain ⟨v0, vs0, d0, ds0, p0, q0, hargs, rfl, rfl, h0, r0⟩ := trodAll_cons hA
  obtain ⟨rfl, rfl, rfl⟩ := trodAll_nil r0
  obtain rfl : args = #[v0] := by cases args; simp_all
  obtain ⟨rfl, rfl⟩ := trodVars_none hV
  obtain ⟨a0, rfl, rfl, rfl, m0⟩ := open_string Tryd.underlying9 (hval 0 9 v0 rfl rfl) h0
  clear hA0 hval0
  have s0 : a0.size ≤ 140737488351232 := by
    have := sized_string hsz (j := 0) (t := 9) (bytes := a0.data.toList) rfl rfl
    rw [← Lib.size_eq] at this; unfold reachBytes at this; exact this
  refine (walk a0 s0 W (the_word hSh)).mono fun e W' ⟨he, bel⟩ => ?_
  subst he
  exact ⟨_, rfl, _, _, _, [], _, [], hW', trodAll_mk1 (shut_bool Tryd.underlying4 _), (trodAll_cons_mk (shut_string Tryd.underlying9 m0) trodAll_mk0), rfl, bel.frame _, fun h => by cases h⟩

theorem over : Rows.lexerScansRow.holds Tryd.pinned (OpenSpec.ofChange Rows.lexerScansSpec) :=
  OpenClaim.holds_of_wide 3 Tryd.f3 rfl rfl rfl rfl rfl rfl rfl ⟨rfl, rfl, rfl, rfl, rfl⟩ rfl rfl rfl rfl rfl (by kernel_rfl) Tryd.func3 (by kernel_rfl)
    (of_decide_eq_true (by kernel_rfl)) (by unfold Func.isWrapper; rw [if_neg (by decide +kernel)]; exact ⟨rfl, rfl⟩)
    (fun os started H enc _ => lifted os started H enc)

theorem proved : Rows.LexerScansCardSaid :=
  Claim7.holds_tied_plain_at .later [] [.data, .pinned] true Rows.lexerScansCard.stood.harness false over (fun _ h => by cases h) (by kernel_rfl) (fun _ h => by cases h) lexerScans_row_tie rfl ⟨rfl, rfl⟩ (by kernel_rfl) rfl
    (fun f fn hf hfn => by
      obtain rfl : f = 3 := Option.some.inj ((show Tryd.prog.funcNamed "pontoon/pontoonlaw04.LexerScans" = some 3 by kernel_rfl).symm.trans hf) |>.symm
      obtain rfl : fn = Tryd.f3 := (Option.some.inj (Tryd.func3.symm.trans hfn)).symm
      refine ⟨by kernel_rfl, fun j t ht => ?_⟩
      have hall : (Tryd.f3.params.toList.all fun u => !Tryd.prog.wantsStandIn u) = true := by kernel_rfl
      have hm : t ∈ Tryd.f3.params.toList := Array.mem_toList_iff.2 (Array.mem_of_getElem? ht)
      have := List.all_eq_true.1 hall t hm
      exact (show Tryd.prog.wantsStandIn t = false by simpa using this))
    (by kernel_rfl)
end Go.Proofs.YtlmgggipkdmdfaaDoor.lexerScans
