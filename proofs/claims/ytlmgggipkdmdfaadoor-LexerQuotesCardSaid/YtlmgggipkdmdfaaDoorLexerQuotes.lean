/- LexerQuotes (layer 4): for every text the law returns true and its argument reads as before: any text in quotes is one token, that has it; so is one in dollars, if it has none. A tied card; no condition but the form's own reach. -/
import Derived.Test.YtlmgggipkdmdfaaDoorLzu
import Derived.Test.YtlmgggipkdmdfaaDoorCrd
import Derived.SizedLaws
import Derived.ChangeOld
import Derived.Carry
namespace Go.Proofs.YtlmgggipkdmdfaaDoor.lexerQuotes
open Go.ChangeShapes Go.WideShapes Go.ChangeAt Go.RowKit
open Go.ChangeMaps (open_string shut_string)
set_option linter.unusedVariables false


theorem one_block (w : World) (k : Int) (s : ByteArray) : (w.alloc (.cells #[.int .i64 k, .string s, .int .i64 0] 30)).heap[w.heap.size]? = some (.cells (tokRow [(k, s, 0)]).toArray 30 (0, 0)) := by
  show (w.heap.push _)[w.heap.size]? = _
  rw [Array.getElem?_push_size]
  rfl
theorem show_one (k : Int) (s : ByteArray) (hs : s.size ≤ 65536) (m : Int) (w : World) (hm : Wd m w) : Calls Tryd.prog 14 #[.slice (some ⟨w.heap.size, 0, none⟩) 1 1] (w.alloc (.cells #[.int .i64 k, .string s, .int .i64 0] 30))
    fun e w' => e = .returned (.string (bb (shownL (k, s, 0)))) ∧ Below w.heap.size w w' := by
  have hb : Below w.heap.size w (w.alloc (.cells #[.int .i64 k, .string s, .int .i64 0] 30)) := (Below.refl _ _).alloc (Nat.le_refl _) _
  refine (show_any _ [(k, s, 0)] m _ (by simp) (fun t ht => by simp at ht; subst ht; exact hs) (TR.block (one_block w k s)) (hm.below hb)).mono ?_
  rintro e w' ⟨rfl, hb2⟩
  refine ⟨?_, hb.trans (hb2.mono hb.size)⟩
  show Ending.returned (.string (bb (showL [(k, s, 0)]))) = _
  rw [show showL [(k, s, 0)] = shownL (k, s, 0) by simp [showL, tailL]]
theorem same_one (k : Int) (s : ByteArray) (v : Value) (w : World) (h : TR w v [(k, s, 0)]) : Calls Tryd.prog 11 #[v, .slice (some ⟨w.heap.size, 0, none⟩) 1 1, .bool true] (w.alloc (.cells #[.int .i64 k, .string s, .int .i64 0] 30))
    fun e w' => e = .returned (.bool true) ∧ Below w.heap.size w w' := by
  have hb : Below w.heap.size w (w.alloc (.cells #[.int .i64 k, .string s, .int .i64 0] 30)) := (Below.refl _ _).alloc (Nat.le_refl _) _
  refine (same_yes v _ [(k, s, 0)] [(k, s, 0)] true _ (h.below hb) (TR.block (one_block w k s)) (by simp) (Alike.refl _ _)).mono ?_
  rintro e w' ⟨rfl, n, rfl⟩
  exact ⟨rfl, hb.trans (below_drewN_ (Below.refl _ _) n |>.mono hb.size)⟩
theorem scan_q (k : Int) (s : ByteArray) (hk : Good k s) (hs : s.size ≤ 900) (m : Int) (w : World) (hm : Wd m w) : Calls Tryd.prog 9 #[.string (bb (shownL (k, s, 0)))] w
    fun e w' => ∃ v, e = .returned (.tuple #[v, .int .i64 0, .int .i64 0]) ∧ TR w' v [(k, s, 0)] ∧ Below w.heap.size w w' := by
  have hz := shown_size (k, s, 0)
  have hsz : (bb (shownL (k, s, 0))).size ≤ 2000 := by rw [bb_size]; simp only at hz; omega
  have e : scanA (bb (shownL (k, s, 0))) = ([(k, s, 0)], 0, 0) := by rw [scanA_F _ hsz]; exact scan_single k s hk
  exact (scan_out _ _ e m w hm).mono fun e w' ⟨v, h1, h2, h3⟩ => ⟨v, h1, h2, h3⟩
theorem dol_eq (s : ByteArray) : (⟨#[36, 113, 36]⟩ : ByteArray) ++ s ++ ⟨#[36, 113, 36]⟩ = bb ([36, 113, 36] ++ s.data.toList ++ [36, 113, 36]) := by apply ByteArray.ext; simp
set_option maxHeartbeats 4000000 in
set_option maxRecDepth 100000 in
theorem walk (s : ByteArray) (hs : s.size ≤ 140737488351232) (w : World) (hw : ∃ m, Wd m w) :
    Calls Tryd.prog 6 #[.string s] w fun e w' => e = .returned (.bool true) ∧ Below w.heap.size w w' := by
  obtain ⟨m, hm⟩ := hw
  have HM := Lib.hid hm
  have hkn := fun w1 h1 => known_any m w1 h1
  have HK := Lib.hid hkn
  clear hm hkn
  by_cases hbig : 300 < s.size
  · have hb2 : (300 : Int) < (s.size : Int) := by omega
    go_enter Tryd.func6, Tryd.ntmps6
    go_wp2_with (go_at_call 8; (with_reducible refine (HK.out _ HM.out).mono ?_); rintro e w5 ⟨rfl, hb⟩)
    go_ret
    exact ⟨rfl, hb⟩
  · have hb2 : ¬ ((300 : Int) < (s.size : Int)) := by omega
    have hs9 : s.size ≤ 900 := by omega
    have HS := Lib.hid hs9
    go_enter Tryd.func6, Tryd.ntmps6
    go_wp2_with fail
    refine (show_one 3 s (by have := HS.out; omega) m w HM.out).mono ?_
    rintro e w1 ⟨rfl, hb1⟩
    have HB1 := Lib.hid hb1
    have HM1 := Lib.hid (HM.out.below hb1)
    clear hb1
    go_wp2_with fail
    refine (scan_q 3 s (good_str s) HS.out m w1 HM1.out).mono ?_
    rintro e w2 ⟨v2, rfl, ht2, hb2'⟩
    have HT2 := Lib.hid ht2
    have HB2 := Lib.hid (HB1.out.trans (hb2'.mono HB1.out.size))
    have HM2 := Lib.hid (HM1.out.below hb2')
    clear ht2 hb2'
    go_wp2_with fail
    refine (show_one 2 s (by have := HS.out; omega) m w2 HM2.out).mono ?_
    rintro e w3 ⟨rfl, hb3⟩
    have HT3 := Lib.hid (HT2.out.below hb3)
    have HB3 := Lib.hid (HB2.out.trans (hb3.mono HB2.out.size))
    have HM3 := Lib.hid (HM2.out.below hb3)
    clear hb3
    go_wp2_with fail
    refine (scan_q 2 s (good_quoted s) HS.out m w3 HM3.out).mono ?_
    rintro e w4 ⟨v4, rfl, ht4, hb4⟩
    have HU4 := Lib.hid ht4
    have HT4 := Lib.hid (HT3.out.below hb4)
    have HB4 := Lib.hid (HB3.out.trans (hb4.mono HB3.out.size))
    have HM4 := Lib.hid (HM3.out.below hb4)
    clear ht4 hb4
    go_wp2_with fail
    refine (same_one 3 s v2 w4 HT4.out).mono ?_
    rintro e w5 ⟨rfl, hb5⟩
    have HU5 := Lib.hid (HU4.out.below hb5)
    have HT5 := Lib.hid (HT4.out.below hb5)
    have HB5 := Lib.hid (HB4.out.trans (hb5.mono HB4.out.size))
    have HM5 := Lib.hid (HM4.out.below hb5)
    clear hb5
    go_wp2_with fail
    refine (same_one 2 s v4 w5 HU5.out).mono ?_
    rintro e w6 ⟨rfl, hb6⟩
    have HT6 := Lib.hid (HT5.out.below hb6)
    have HB6 := Lib.hid (HB5.out.trans (hb6.mono HB5.out.size))
    have HM6 := Lib.hid (HM5.out.below hb6)
    clear hb6
    go_wp2
    go_loopw [9] (fun i wr => ∃ k : Nat, k ≤ s.size ∧ i = .int .i64 k ∧ wr = w6 ∧ ∀ j (hj : j < s.size), j < k → s[j] ≠ 36) (fun i _ => s.size - (intOf i).toNat)
    case atStart => exact ⟨0, Nat.zero_le _, rfl, rfl, fun j hj h => by omega⟩
    case round =>
      obtain ⟨k, hk, rfl, hw6, hno⟩ := hrel
      obtain rfl := hw6.symm
      have HNO := Lib.hid hno
      clear hno
      by_cases hlt : k < s.size
      · have l0 : (0 : Int) ≤ (k : Int) := by omega
        have l1 : (k : Int) < (s.size : Int) := by omega
        obtain ⟨c, hc⟩ : ∃ c, s[k]'hlt = c := ⟨_, rfl⟩
        obtain ⟨z, hz⟩ : ∃ z : Int, (c.toNat : Int) = z := ⟨_, rfl⟩
        have hci : ((s[k]'hlt).toNat : Int) = z := by rw [hc, hz]
        by_cases h36 : z = 36
        · subst h36
          clear hc hz
          go_wp2_with (go_at_call 8; (with_reducible refine (HK.out _ HM6.out).mono ?_); rintro e w7 ⟨rfl, hb⟩)
          go_ret
          exact ⟨rfl, HB6.out.trans (hb.mono HB6.out.size)⟩
        · have e36 : (z == (36 : Int)) = false := by rw [beq_eq_false_iff_ne]; exact h36
          have hn : s[k]'hlt ≠ 36 := by rw [hc]; intro hh; apply h36; rw [← hz, hh]; rfl
          have HN := Lib.hid hn
          clear hc hz h36 hn
          go_wp2
          go_roundw
          case rel =>
            refine ⟨k + 1, by omega, by go_num, by first | rfl | trivial, fun j hj h => ?_⟩
            by_cases hjk : j < k
            · exact HNO.out j hj hjk
            · have : j = k := by omega
              subst this; exact HN.out
          case measure => simp [intOf]; omega
      · have l1 : ¬ ((k : Int) < (s.size : Int)) := by omega
        have hmem : (36 : UInt8) ∉ s.data.toList := by
          intro hm
          obtain ⟨j, hj, he⟩ := List.getElem_of_mem hm
          exact HNO.out j hj (by have e : s.size = s.data.toList.length := rfl
                                 omega) he
        have hsc : scanA ((⟨#[36, 113, 36]⟩ : ByteArray) ++ s ++ ⟨#[36, 113, 36]⟩) = ([(3, s, 0)], 0, 0) := by
          rw [scanA_F]
          · rw [dol_eq]
            exact scan_dol s.data.toList hmem
          · rw [dol_eq, bb_size]
            have e : s.size = s.data.toList.length := rfl
            have := HS.out
            simp only [List.length_append, List.length_cons, List.length_nil]; omega
        have hsc2 := fun w1 h1 => scan_out _ _ hsc m w1 h1
        have HSC := Lib.hid hsc2
        clear HNO hmem hsc hsc2
        go_wp2_with fail
        refine (HSC.out w6 HM6.out).mono ?_
        rintro e w7 ⟨v7, rfl, ht7, hb7⟩
        have HU7 := Lib.hid ht7
        have HT7 := Lib.hid (HT6.out.below hb7)
        have HB7 := Lib.hid (HB6.out.trans (hb7.mono HB6.out.size))
        have HM7 := Lib.hid (HM6.out.below hb7)
        clear ht7 hb7
        go_wp2_with fail
        refine (same_yes v7 v2 [(3, s, 0)] [(3, s, 0)] true _ HU7.out HT7.out (by simp) (Alike.refl _ _)).mono ?_
        rintro e w8 ⟨rfl, nq, rfl⟩
        have hbd := below_drewN_ (Below.refl w7.heap.size w7) nq
        have HBD := Lib.hid (HB7.out.trans (hbd.mono HB7.out.size))
        have HM8 := Lib.hid (HM7.out.drewN nq)
        clear hbd
        generalize w7.drewN nq = w8 at *
        go_wp2_with (go_at_call 8; (with_reducible refine (HK.out _ HM8.out).mono ?_); rintro e w9 ⟨rfl, hb⟩)
        go_ret
        exact ⟨rfl, HBD.out.trans (hb.mono HBD.out.size)⟩

theorem own : ownKnob Tryd.prog.godebug = none := by kernel_rfl

set_option maxRecDepth 100000 in
theorem lifted (os : Os) (started : os.Started) (H : Type) (enc : TypeId × Value → H) :
    ReturnsInHanded {} Tryd.checked os 6 .any (fun w args => (Rows.lexerQuotesSpec.pre enc Tryd.prog Tryd.f6 Rows.lexerQuotesRow.domain false w args ∧ laidMetH Tryd.prog Rows.lexerQuotesRow.laid w) ∧ sizedMet enc Tryd.prog Tryd.f6 (OpenSpec.ofChange Rows.lexerQuotesSpec) false w args) (Rows.lexerQuotesSpec.post enc Tryd.prog Tryd.f6 false true false false) := by
  refine returns_card (C := Tryd.checked) (X := fun w _ => laidMetH Tryd.prog Rows.lexerQuotesRow.laid w) own started (by kernel_rfl) Tryd.func6
    (ChangeSpec.witness_shaped (enc := enc) (C := Tryd.checked) (os := os) (X := fun w _ => laidMetH Tryd.prog Rows.lexerQuotesRow.laid w) false (World.laidAll Tryd.prog os Rows.lexerQuotesRow.laid) #[.string ByteArray.empty] 8 (World.laidAll_os _ _ _)
      (World.shaped_of_ZipB (by kernel_rfl) (by kernel_rfl)) (by kernel_rfl) (by kernel_rfl) (by kernel_rfl)
      (by rw [MakeChecks.laidMetH_plain _ _ _ (by kernel_rfl)]; exact laidMet_laidAll _ (by kernel_rfl) (by kernel_rfl))) ?_
  intro W base args ds gs before hval0 hW hcnd hsz0 hSh _
  have hsz : (DataW.weightsEach Tryd.prog (Tryd.f6.params.toList ++ Rows.lexerQuotesSpec.plain.varTypes Tryd.prog) (ds ++ gs)).all (· ≤ reachBytes) = true := hsz0
  clear hsz0
  have hval : ∀ (j : Nat) t v, Tryd.f6.params[j]? = some t → args[j]? = some v → Value.okWide Tryd.prog W .any base t v := hval0
  have hW' := hW
  obtain ⟨p, q, hA0, hV, rfl, hfz, hnd⟩ := hW
  have hA : DataW.TrodAll enc Tryd.prog W 0 (fun _ => true) true Tryd.f6.params.toList args.toList ds p := hA0
  rw [Tryd.params6] at hA hval hsz
  obtain ⟨v0, vs0, d0, ds0, p0, q0, hargs, rfl, rfl, h0, r0⟩ := trodAll_cons hA
  obtain ⟨rfl, rfl, rfl⟩ := trodAll_nil r0
  obtain rfl : args = #[v0] := by cases args; simp_all
  obtain ⟨rfl, rfl⟩ := trodVars_none hV
  obtain ⟨a0, rfl, rfl, rfl, m0⟩ := open_string Tryd.underlying9 (hval 0 9 v0 rfl rfl) h0
  clear hA0 hval0
  have s0 : a0.size ≤ 140737488351232 := by
    have := sized_string hsz (j := 0) (t := 9) (bytes := a0.data.toList) rfl rfl
    rw [← Lib.size_eq] at this; unfold reachBytes at this; exact this
  refine (walk a0 s0 W (the_word hSh)).mono fun e W' ⟨he, bel⟩ => ?_
  subst he
  exact ⟨_, rfl, _, _, _, [], _, [], hW', trodAll_mk1 (shut_bool Tryd.underlying4 _), (trodAll_cons_mk (shut_string Tryd.underlying9 m0) trodAll_mk0), rfl, bel.frame _, fun h => by cases h⟩

theorem over : Rows.lexerQuotesRow.holds Tryd.pinned (OpenSpec.ofChange Rows.lexerQuotesSpec) :=
  OpenClaim.holds_of_wide 6 Tryd.f6 rfl rfl rfl rfl rfl rfl rfl ⟨rfl, rfl, rfl, rfl, rfl⟩ rfl rfl rfl rfl rfl (by kernel_rfl) Tryd.func6 (by kernel_rfl)
    (of_decide_eq_true (by kernel_rfl)) (by unfold Func.isWrapper; rw [if_neg (by decide +kernel)]; exact ⟨rfl, rfl⟩)
    (fun os started H enc _ => lifted os started H enc)

theorem proved : Rows.LexerQuotesCardSaid :=
  Claim7.holds_tied_plain_at .later [] [.data, .pinned] true Rows.lexerQuotesCard.stood.harness false over (fun _ h => by cases h) (by kernel_rfl) (fun _ h => by cases h) lexerQuotes_row_tie rfl ⟨rfl, rfl⟩ (by kernel_rfl) rfl
    (fun f fn hf hfn => by
      obtain rfl : f = 6 := Option.some.inj ((show Tryd.prog.funcNamed "pontoon/pontoonlaw04.LexerQuotes" = some 6 by kernel_rfl).symm.trans hf) |>.symm
      obtain rfl : fn = Tryd.f6 := (Option.some.inj (Tryd.func6.symm.trans hfn)).symm
      refine ⟨by kernel_rfl, fun j t ht => ?_⟩
      have hall : (Tryd.f6.params.toList.all fun u => !Tryd.prog.wantsStandIn u) = true := by kernel_rfl
      have hm : t ∈ Tryd.f6.params.toList := Array.mem_toList_iff.2 (Array.mem_of_getElem? ht)
      have := List.all_eq_true.1 hall t hm
      exact (show Tryd.prog.wantsStandIn t = false by simpa using this))
    (by kernel_rfl)
end Go.Proofs.YtlmgggipkdmdfaaDoor.lexerQuotes
