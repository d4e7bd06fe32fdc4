/- LexerAhead (layer 4): for every text the law returns true and its argument reads as before: blanks and a remark ahead of a text make no difference, but for places: these are so much farther. A tied card; no condition but the form's own reach. -/
import Derived.Test.YtlmgggipkdmdfaaDoorLzu
import Derived.Test.YtlmgggipkdmdfaaDoorCrd
import Derived.SizedLaws
import Derived.ChangeOld
import Derived.Carry
namespace Go.Proofs.YtlmgggipkdmdfaaDoor.lexerAhead
open Go.ChangeShapes Go.WideShapes Go.ChangeAt Go.RowKit
open Go.ChangeMaps (open_string shut_string)
set_option linter.unusedVariables false


theorem scan_places (s : ByteArray) (a : Nat) (acc : List Tok) (ha : a ≤ s.size) (h : ∀ t ∈ acc, 0 ≤ t.2.2 ∧ t.2.2 ≤ (s.size : Int)) : ∀ t ∈ (scanF s a acc).1, 0 ≤ t.2.2 ∧ t.2.2 ≤ (s.size : Int) :=
  scan_ind s (fun a acc r => (∀ t ∈ acc, 0 ≤ t.2.2 ∧ t.2.2 ≤ (s.size : Int)) → ∀ t ∈ r.1, 0 ≤ t.2.2 ∧ t.2.2 ≤ (s.size : Int)) (fun a acc h h2 => h2) (fun a b acc r h1 h2 h3 => h3) (fun a acc e h1 h2 h3 t ht => by cases ht)
    (fun a acc r hS he h1 h2 h3 h4 => h3 fun t ht => by
      rcases List.mem_append.1 ht with ht | ht
      · exact h4 t ht
      · simp at ht; subst ht; rw [one_place s a he]; have := hS.lt; omega) a acc ha h
/-- the list of tokens whose places are moved back, k of them so far -/
structure MvI (l : List Tok) (g k : Nat) (w1 wr : World) : Prop where
  bel : Below w1.heap.size w1 wr
  cell : ∀ i (hi : i < l.length), wr.cell? ⟨g, i * 3, none⟩ = some (.int .i64 l[i].1) ∧ wr.cell? ⟨g, i * 3 + 1, none⟩ = some (.string l[i].2.1) ∧ wr.cell? ⟨g, i * 3 + 2, none⟩ = some (.int .i64 (if i < k then l[i].2.2 else l[i].2.2 + 10))
  fro : ∀ i (hi : i < l.length), wr.frozen? ⟨g, i * 3 + 2, none⟩ = false
theorem MvI.put {l : List Tok} {g k : Nat} {w1 wr : World} (h : MvI l g k w1 wr) (hg : w1.heap.size ≤ g) (hk : k < l.length) : MvI l g (k + 1) w1 (wr.setCell ⟨g, k * 3 + 2, none⟩ (.int .i64 l[k].2.2)) := by
  refine ⟨h.bel.setCell hg _, fun i hi => ?_, fun i hi => by rw [World.frozen?_setCell]; exact h.fro i hi⟩
  obtain ⟨c0, c1, c2⟩ := h.cell i hi
  refine ⟨?_, ?_, ?_⟩
  · rw [World.cell?_setCell_other _ _ _ _ (by intro h2; simp only [Addr.mk.injEq] at h2; omega)]; exact c0
  · rw [World.cell?_setCell_other _ _ _ _ (by intro h2; simp only [Addr.mk.injEq] at h2; omega)]; exact c1
  · by_cases e : i = k
    · subst e
      rw [World.cell?_setCell_same _ _ _ c2, if_pos (by omega)]
    · rw [World.cell?_setCell_other _ _ _ _ (by intro h2; simp only [Addr.mk.injEq] at h2; omega), c2]
      by_cases e2 : i < k
      · rw [if_pos e2, if_pos (by omega)]
      · rw [if_neg e2, if_neg (by omega)]
theorem MvI.read {l : List Tok} {g cap : Nat} {w1 wr : World} (h : MvI l g l.length w1 wr) (hc : l.length ≤ cap) : TR wr (.slice (some ⟨g, 0, none⟩) l.length cap) l := by
  refine .inr ⟨g, 0, cap, rfl, hc, fun i t ht => ?_⟩
  have hi := (List.getElem?_eq_some_iff.1 ht).1
  have he : l[i] = t := (List.getElem?_eq_some_iff.1 ht).2
  obtain ⟨c0, c1, c2⟩ := h.cell i hi
  rw [if_pos hi] at c2
  subst he
  simp only [Nat.zero_add]
  exact ⟨c0, c1, c2⟩
theorem mv_start (l : List Tok) (hl : l ≠ []) (w1 w2 : World) (B : Nat) (hB : w1.heap.size ≤ B) (v : Value) (h : w2.ownsRow B 30 3 v (l.map (shT 10)).length (tokRow (l.map (shT 10)))) (hb : Below w1.heap.size w1 w2) :
    ∃ g cap, v = .slice (some ⟨g, 0, none⟩) l.length cap ∧ l.length ≤ cap ∧ w1.heap.size ≤ g ∧ MvI l g 0 w1 w2 := by
  rcases h.2 with ⟨_, hz⟩ | ⟨g, cap, cur, rfl, hbg, hh, hc, hm, hs, ht⟩
  · rw [List.length_map] at hz
    exact absurd (List.eq_nil_of_length_eq_zero hz) hl
  · rw [List.length_map] at hc ⊢
    refine ⟨g, cap, rfl, hc, by omega, hb, fun i hi => ?_, fun i hi => Lib.frozen_of_heap hh _⟩
    have hg2 : (l.map (shT 10))[i]? = some (shT 10 l[i]) := by rw [List.getElem?_map, List.getElem?_eq_getElem hi]; rfl
    obtain ⟨a, b, c⟩ := tokRow_get _ i _ hg2
    have hcell := h.cells (g := g) rfl
    have e1 := hcell _ _ a
    have e2 := hcell _ _ b
    have e3 := hcell _ _ c
    rw [Addr.add_lit, Nat.zero_add] at e1 e2 e3
    exact ⟨e1, e2, e3⟩
set_option maxHeartbeats 4000000 in
set_option maxRecDepth 100000 in
theorem walk (s : ByteArray) (hs : s.size ≤ 140737488351232) (w : World) (hw : ∃ m, Wd m w) :
    Calls Tryd.prog 7 #[.string s] w fun e w' => e = .returned (.bool true) ∧ Below w.heap.size w w' := by
  obtain ⟨m, hm⟩ := hw
  have HM := Lib.hid hm
  have hkn := fun w1 h1 => known_any m w1 h1
  have HK := Lib.hid hkn
  clear hm hkn
  by_cases hbig : 1900 < s.size
  · have hb2 : (1900 : Int) < (s.size : Int) := by omega
    go_enter Tryd.func7, Tryd.ntmps7
    go_wp2_with (go_at_call 8; (with_reducible refine (HK.out _ HM.out).mono ?_); rintro e w5 ⟨rfl, hb⟩)
    go_ret
    exact ⟨rfl, hb⟩
  · have hb2 : ¬ ((1900 : Int) < (s.size : Int)) := by omega
    have hasz : (ahead ++ s).size = s.size + 10 := by rw [ByteArray.size_append]; show 10 + s.size = _; omega
    have hF := scanA_F s (by omega)
    have hF2 : scanA (ahead ++ s) = shR 10 (scanA s) := by rw [scanA_F _ (by omega), hF]; exact scan_ahead s
    have hwr := scan_wrong s 0 [] (Nat.zero_le _)
    have hpl := scan_places s 0 [] (Nat.zero_le _) (fun t ht => by cases ht)
    have hct := scanA_count s
    rw [← hF] at hwr hpl
    have h1 := fun w1 h => scan_out s _ rfl m w1 h
    have h2 := fun w1 h => scan_any (ahead ++ s) m w1 h
    rw [hF2] at h2
    generalize scanA s = R at *
    obtain ⟨l, er, ap⟩ := R
    have H1 := Lib.hid (show ∀ w1, Wd m w1 → Calls Tryd.prog 9 #[.string s] w1 fun e w' => ∃ v, e = .returned (.tuple #[v, .int .i64 er, .int .i64 ap]) ∧ ScanQ w1 v l w' from h1)
    have H2 := Lib.hid (show ∀ w1, Wd m w1 → Calls Tryd.prog 9 #[.string (ahead ++ s)] w1 fun e w' => ∃ v, e = .returned (.tuple #[v, .int .i64 er, .int .i64 (if er = 0 then ap else ap + 10)]) ∧ w'.ownsRow (w1.heap.size + 1) 30 3 v (l.map (shT 10)).length (tokRow (l.map (shT 10))) ∧ Below w1.heap.size w1 w' from h2)
    have HWR := Lib.hid hwr
    have HPL := Lib.hid (show ∀ t ∈ l, 0 ≤ t.2.2 ∧ t.2.2 ≤ (s.size : Int) from hpl)
    have HCT := Lib.hid (show l.length ≤ 2000 from hct)
    clear hF hF2 hwr hpl hct h1 h2 hasz
    by_cases he : er = 0
    · subst he
      simp only [if_true] at H2
      by_cases hl : l = []
      · subst hl
        go_enter Tryd.func7, Tryd.ntmps7
        go_wp2_with fail
        refine (H1.out _ HM.out).mono ?_
        rintro e w1 ⟨v1, rfl, ht1, hb1⟩
        obtain ⟨ao1, c1, rfl⟩ := ht1.form
        have HT1 := Lib.hid ht1
        have HB1 := Lib.hid hb1
        have HM1 := Lib.hid (HM.out.below hb1)
        clear ht1 hb1
        go_wp2_with fail
        refine (H2.out _ HM1.out).mono ?_
        rintro e w2 ⟨v2, rfl, hr2, hb2'⟩
        have ht2 : TR w2 v2 [] := TR.own (l := []) hr2
        obtain ⟨ao2, c2, rfl⟩ := ht2.form
        have HT2 := Lib.hid ht2
        have HTA := Lib.hid (HT1.out.below hb2')
        have HB2 := Lib.hid (HB1.out.trans (hb2'.mono HB1.out.size))
        have HM2 := Lib.hid (HM1.out.below hb2')
        clear hr2 hb2' ht2
        go_wp2
        go_loopw [9] (fun i wr => i = .int .i64 0 ∧ wr = w2) (fun _ _ => 0)
        case atStart => exact ⟨rfl, rfl⟩
        case round =>
          obtain ⟨rfl, hwr2⟩ := hrel
          obtain rfl := hwr2.symm
          go_wp2_with fail
          refine (same_yes _ _ [] [] true _ HTA.out HT2.out (by simp) (Alike.refl _ _)).mono ?_
          rintro e w3 ⟨rfl, nq, rfl⟩
          have hbd := below_drewN_ (Below.refl w2.heap.size w2) nq
          have HB3 := Lib.hid (HB2.out.trans (hbd.mono HB2.out.size))
          have HM3 := Lib.hid (HM2.out.drewN nq)
          clear hbd
          generalize w2.drewN nq = w3 at *
          go_wp2_with (go_at_call 8; (with_reducible refine (HK.out _ HM3.out).mono ?_); rintro e w9 ⟨rfl, hb⟩)
          go_ret
          exact ⟨rfl, HB3.out.trans (hb.mono HB3.out.size)⟩
      · have HL := Lib.hid hl
        clear hl
        go_enter Tryd.func7, Tryd.ntmps7
        go_wp2_with fail
        refine (H1.out _ HM.out).mono ?_
        rintro e w1 ⟨v1, rfl, ht1, hb1⟩
        have HT1 := Lib.hid ht1
        have HB1 := Lib.hid hb1
        have HM1 := Lib.hid (HM.out.below hb1)
        clear ht1 hb1
        go_wp2_with fail
        refine (H2.out _ HM1.out).mono ?_
        rintro e w2 ⟨v2, rfl, hr2, hb2'⟩
        obtain ⟨g, cap, rfl, hcap, hg, hI⟩ := mv_start l HL.out w1 w2 _ (Nat.le_succ _) v2 hr2 hb2'
        have HI := Lib.hid hI
        have HG := Lib.hid hg
        clear hr2 hb2' hI hg
        go_wp2
        go_loopw [9] (fun i wr => ∃ k : Nat, k ≤ l.length ∧ i = .int .i64 k ∧ MvI l g k w1 wr) (fun i _ => l.length - (intOf i).toNat)
        case atStart => exact ⟨0, Nat.zero_le _, rfl, HI.out⟩
        case round =>
          obtain ⟨k, hk, rfl, hJ⟩ := hrel
          have HJ := Lib.hid hJ
          have hct := HCT.out
          clear hJ HI
          by_cases hlt : k < l.length
          · obtain ⟨c0, c1, c2⟩ := HJ.out.cell k hlt
            have hfr := HJ.out.fro k hlt
            obtain ⟨p0, p1⟩ := HPL.out l[k] (List.getElem_mem hlt)
            rw [if_neg (by omega)] at c2
            have HP := Lib.hid (HJ.out.put HG.out hlt)
            generalize l[k].2.2 = x at *
            have cw : IntKind.i64.wrap (x + 10 - 10) = x := by rw [show x + 10 - 10 = x by omega]; exact IntWalk.i64_in _ (by omega)
            clear c0 c1
            obtain ⟨y, hy⟩ : ∃ y, x + 10 = y := ⟨_, rfl⟩
            rw [hy] at c2 cw
            clear hy
            go_wp2
            go_roundw
            case rel => exact ⟨k + 1, by omega, by go_num, HP.out⟩
            case measure => simp [intOf]; omega
          · have hkl : k = l.length := by omega
            subst hkl
            have hTB := HJ.out.read hcap
            have hTA := HT1.out.below HJ.out.bel
            have hBB := HB1.out.trans (HJ.out.bel.mono HB1.out.size)
            have hMM := HM1.out.below HJ.out.bel
            have HTB := Lib.hid hTB
            have HTA := Lib.hid hTA
            have HBB := Lib.hid hBB
            have HMM := Lib.hid hMM
            clear hTB hTA hBB hMM HJ
            go_wp2_with fail
            refine (same_yes v1 _ l l true _ HTA.out HTB.out (by omega) (Alike.refl _ _)).mono ?_
            rintro e w3 ⟨rfl, nq, rfl⟩
            have hbd := below_drewN_ (Below.refl wr.heap.size wr) nq
            have HB3 := Lib.hid (HBB.out.trans (hbd.mono HBB.out.size))
            have HM3 := Lib.hid (HMM.out.drewN nq)
            clear hbd
            generalize wr.drewN nq = w3 at *
            go_wp2_with (go_at_call 8; (with_reducible refine (HK.out _ HM3.out).mono ?_); rintro e w9 ⟨rfl, hb⟩)
            go_ret
            exact ⟨rfl, HB3.out.trans (hb.mono HB3.out.size)⟩
    · obtain ⟨hnil, ha0, ha1⟩ := HWR.out he
      have he2 : (er != (0 : Int)) = true := by rw [bne_iff_ne]; exact he
      have he3 : (er != er) = false := by simp
      obtain rfl : l = [] := hnil
      have ha0' : 0 ≤ ap := ha0
      have ha1' : ap ≤ (s.size : Int) := ha1
      simp only [he, if_false] at H2
      obtain ⟨b, hb⟩ : ∃ b, ap + 10 = b := ⟨_, rfl⟩
      rw [hb] at H2
      have cw : IntKind.i64.wrap (ap + 10) = b := by rw [hb]; exact IntWalk.i64_in _ (by omega)
      clear ha0 ha1 he HWR hb
      go_enter Tryd.func7, Tryd.ntmps7
      go_wp2_with fail
      refine (H1.out _ HM.out).mono ?_
      rintro e w1 ⟨v1, rfl, ht1, hb1⟩
      obtain ⟨ao1, c1, rfl⟩ := ht1.form
      have HT1 := Lib.hid ht1
      have HB1 := Lib.hid hb1
      have HM1 := Lib.hid (HM.out.below hb1)
      clear ht1 hb1
      go_wp2_with fail
      refine (H2.out _ HM1.out).mono ?_
      rintro e w2 ⟨v2, rfl, hr2, hb2'⟩
      have ht2 : TR w2 v2 [] := TR.own (l := []) hr2
      obtain ⟨ao2, c2, rfl⟩ := ht2.form
      have HT2 := Lib.hid ht2
      have HTA := Lib.hid (HT1.out.below hb2')
      have HB2 := Lib.hid (HB1.out.trans (hb2'.mono HB1.out.size))
      have HM2 := Lib.hid (HM1.out.below hb2')
      clear hr2 hb2' ht2
      go_wp2
      go_loopw [9] (fun i wr => i = .int .i64 0 ∧ wr = w2) (fun _ _ => 0)
      case atStart => exact ⟨rfl, rfl⟩
      case round =>
        obtain ⟨rfl, hwr2⟩ := hrel
        obtain rfl := hwr2.symm
        go_wp2_with fail
        refine (same_yes _ _ [] [] true _ HTA.out HT2.out (by simp) (Alike.refl _ _)).mono ?_
        rintro e w3 ⟨rfl, nq, rfl⟩
        have hbd := below_drewN_ (Below.refl w2.heap.size w2) nq
        have HB3 := Lib.hid (HB2.out.trans (hbd.mono HB2.out.size))
        have HM3 := Lib.hid (HM2.out.drewN nq)
        clear hbd
        generalize w2.drewN nq = w3 at *
        go_wp2_with (go_at_call 8; (with_reducible refine (HK.out _ HM3.out).mono ?_); rintro e w9 ⟨rfl, hb⟩)
        go_ret
        exact ⟨rfl, HB3.out.trans (hb.mono HB3.out.size)⟩

theorem own : ownKnob Tryd.prog.godebug = none := by kernel_rfl

set_option maxRecDepth 100000 in
theorem lifted (os : Os) (started : os.Started) (H : Type) (enc : TypeId × Value → H) :
    ReturnsInHanded {} Tryd.checked os 7 .any (fun w args => (Rows.lexerAheadSpec.pre enc Tryd.prog Tryd.f7 Rows.lexerAheadRow.domain false w args ∧ laidMetH Tryd.prog Rows.lexerAheadRow.laid w) ∧ sizedMet enc Tryd.prog Tryd.f7 (OpenSpec.ofChange Rows.lexerAheadSpec) false w args) (Rows.lexerAheadSpec.post enc Tryd.prog Tryd.f7 false true false false) := by
  refine returns_card (C := Tryd.checked) (X := fun w _ => laidMetH Tryd.prog Rows.lexerAheadRow.laid w) own started (by kernel_rfl) Tryd.func7
    (ChangeSpec.witness_shaped (enc := enc) (C := Tryd.checked) (os := os) (X := fun w _ => laidMetH Tryd.prog Rows.lexerAheadRow.laid w) false (World.laidAll Tryd.prog os Rows.lexerAheadRow.laid) #[.string ByteArray.empty] 8 (World.laidAll_os _ _ _)
      (World.shaped_of_ZipB (by kernel_rfl) (by kernel_rfl)) (by kernel_rfl) (by kernel_rfl) (by kernel_rfl)
      (by rw [MakeChecks.laidMetH_plain _ _ _ (by kernel_rfl)]; exact laidMet_laidAll _ (by kernel_rfl) (by kernel_rfl))) ?_
  intro W base args ds gs before hval0 hW hcnd hsz0 hSh _
  have hsz : (DataW.weightsEach Tryd.prog (Tryd.f7.params.toList ++ Rows.lexerAheadSpec.plain.varTypes Tryd.prog) (ds ++ gs)).all (· ≤ reachBytes) = true := hsz0
  clear hsz0
  have hval : ∀ (j : Nat) t v, Tryd.f7.params[j]? = some t → args[j]? = some v → Value.okWide Tryd.prog W .any base t v := hval0
  have hW' := hW
  obtain ⟨p, q, hA0, hV, rfl, hfz, hnd⟩ := hW
  have hA : DataW.TrodAll enc Tryd.prog W 0 (fun _ => true) true Tryd.f7.params.toList args.toList ds p := hA0
  rw [Tryd.params7] at hA hval hsz
  obtain ⟨v0, vs0, d0, ds0, p0, q0, hargs, rfl, rfl, h0, r0⟩ := trodAll_cons hA
  obtain ⟨rfl, rfl, rfl⟩ := trodAll_nil r0
  obtain rfl : args = #[v0] := by cases args; simp_all
  obtain ⟨rfl, rfl⟩ := trodVars_none hV
  obtain ⟨a0, rfl, rfl, rfl, m0⟩ := open_string Tryd.underlying9 (hval 0 9 v0 rfl rfl) h0
  clear hA0 hval0
  have s0 : a0.size ≤ 140737488351232 := by
    have := sized_string hsz (j := 0) (t := 9) (bytes := a0.data.toList) rfl rfl
    rw [← Lib.size_eq] at this; unfold reachBytes at this; exact this
  refine (walk a0 s0 W (the_word hSh)).mono fun e W' ⟨he, bel⟩ => ?_
  subst he
  exact ⟨_, rfl, _, _, _, [], _, [], hW', trodAll_mk1 (shut_bool Tryd.underlying4 _), (trodAll_cons_mk (shut_string Tryd.underlying9 m0) trodAll_mk0), rfl, bel.frame _, fun h => by cases h⟩

theorem over : Rows.lexerAheadRow.holds Tryd.pinned (OpenSpec.ofChange Rows.lexerAheadSpec) :=
  OpenClaim.holds_of_wide 7 Tryd.f7 rfl rfl rfl rfl rfl rfl rfl ⟨rfl, rfl, rfl, rfl, rfl⟩ rfl rfl rfl rfl rfl (by kernel_rfl) Tryd.func7 (by kernel_rfl)
    (of_decide_eq_true (by kernel_rfl)) (by unfold Func.isWrapper; rw [if_neg (by decide +kernel)]; exact ⟨rfl, rfl⟩)
    (fun os started H enc _ => lifted os started H enc)

theorem proved : Rows.LexerAheadCardSaid :=
  Claim7.holds_tied_plain_at .later [] [.data, .pinned] true Rows.lexerAheadCard.stood.harness false over (fun _ h => by cases h) (by kernel_rfl) (fun _ h => by cases h) lexerAhead_row_tie rfl ⟨rfl, rfl⟩ (by kernel_rfl) rfl
    (fun f fn hf hfn => by
      obtain rfl : f = 7 := Option.some.inj ((show Tryd.prog.funcNamed "pontoon/pontoonlaw04.LexerAhead" = some 7 by kernel_rfl).symm.trans hf) |>.symm
      obtain rfl : fn = Tryd.f7 := (Option.some.inj (Tryd.func7.symm.trans hfn)).symm
      refine ⟨by kernel_rfl, fun j t ht => ?_⟩
      have hall : (Tryd.f7.params.toList.all fun u => !Tryd.prog.wantsStandIn u) = true := by kernel_rfl
      have hm : t ∈ Tryd.f7.params.toList := Array.mem_toList_iff.2 (Array.mem_of_getElem? ht)
      have := List.all_eq_true.1 hall t hm
      exact (show Tryd.prog.wantsStandIn t = false by simpa using this))
    (by kernel_rfl)
end Go.Proofs.YtlmgggipkdmdfaaDoor.lexerAhead
