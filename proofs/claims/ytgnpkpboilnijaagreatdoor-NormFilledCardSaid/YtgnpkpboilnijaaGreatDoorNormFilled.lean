/- NormFilled (layer 5): for every text and every list of texts the law returns true and its arguments read as before: what is filled has no parameter, and as many tokens; of no parameters nothing changes. A tied card; no condition but the form's own reach. -/
import Derived.Test.YtgnpkpboilnijaaGreatDoorG26
import Derived.Laws.OwnMore
import Derived.SizedLaws
import Derived.ChangeOld
import Derived.Carry
namespace Go.Proofs.YtgnpkpboilnijaaGreatDoor.normFilled
open Go.ChangeShapes Go.WideShapes Go.ChangeAt Go.RowKit
open Go.ChangeMaps (open_string shut_string)
set_option linter.unusedVariables false

theorem cr_own {w : World} {B : Nat} {e : TypeId} {v : Value} {n : Nat} {xs : List Value} (h : w.ownsRow B e 1 v n xs) : CR w v xs := by
  have hl : xs.length = n := by have := h.1; omega
  rcases h.2 with ⟨rfl, hz⟩ | ⟨g, cap, cur, rfl, hb, hh, hc, hm, hs, ht⟩
  · exact .inl ⟨_, _, rfl, List.eq_nil_of_length_eq_zero (by omega)⟩
  · refine .inr ⟨g, 0, cap, by rw [hl], by omega, fun i x hi => ?_⟩
    have := h.cells (g := g) rfl i x hi
    rw [Addr.add_lit] at this
    exact this
theorem infoB : (Tryz.prog.info? 4).map (fun i => (i.zero, i.size, i.bytes)) = some (some (.bool false), 1, 1) := by kernel_rfl
theorem iB_parts : ∃ i, Tryz.prog.info? 4 = some i ∧ i.zero = some (.bool false) ∧ i.size = 1 ∧ i.bytes = 1 := by
  have h := infoB
  cases e : Tryz.prog.info? 4 with
  | none => rw [e] at h; cases h
  | some i =>
    rw [e] at h
    simp only [Option.map_some, Option.some.injEq, Prod.mk.injEq] at h
    exact ⟨i, rfl, h.1, h.2.1, h.2.2⟩
theorem undB : Tryz.prog.underlying 31 = some (.slice 4) := by kernel_rfl
theorem made_false (n : Nat) : (madeCells (Value.bool false).cells (n * 1)).toList = (List.replicate n false).map .bool := by
  unfold madeCells
  apply List.ext_getElem
  · simp
  · intro i h1 h2
    have hz : ∀ k : Nat, ((Value.bool false).cells)[k % (Value.bool false).cells.size]! = Value.bool false := by
      intro k
      show (#[Value.bool false] : Array Value)[k % 1]! = _
      rw [Nat.mod_one]; rfl
    simp [hz]
theorem make_false (w : World) (n : Nat) (hn : n ≤ 65536) : ∃ w', (Instr.makeSlice 31 (.int .i64 (n : Int)) (.int .i64 (n : Int))).run Tryz.prog w = .ok (.slice (some ⟨w.heap.size, 0, none⟩) n n) w' ∧
    CR w' (.slice (some ⟨w.heap.size, 0, none⟩) n n) ((List.replicate n false).map .bool) ∧ Below w.heap.size w w' := by
  obtain ⟨i, hi, hz, hs, hb⟩ := iB_parts
  obtain ⟨w', h1, h2, h3⟩ := run_makeSlice_full (P := Tryz.prog) w w.heap.size 31 4 i (.bool false) 1 undB hi hz hs .i64 .i64 n (by omega) (by rw [hb]; omega) (by unfold maxLen; omega) (Nat.le_refl _)
  refine ⟨w', h1, ?_, (Below.refl _ w).grown h3 (Nat.le_refl _) (fun k hk => by cases hk)⟩
  have := cr_own h2
  rw [made_false] at this
  exact this
set_option maxHeartbeats 4000000 in
set_option maxRecDepth 100000 in
theorem walk (s : ByteArray) (v : Value) (W : World) (hs : s.size ≤ 140737488351232) (hf : FitsS W v) (hw : ∃ m, Wd m W) :
    Calls Tryz.prog 6 #[.string s, v] W fun e w' => e = .returned (.bool true) ∧ Below W.heap.size W w' := by
  obtain ⟨args, hA, hza⟩ := hf
  obtain ⟨m, hm⟩ := hw
  have hkn := fun w1 h1 => known5_any m w1 h1
  obtain ⟨a1, cap1, e1⟩ := hA.form
  rw [List.length_map] at e1
  subst e1
  have HM := Lib.hid hm
  have HK := Lib.hid hkn
  clear hm hkn
  by_cases hbig : 800 < s.size
  · have hb2 : (800 : Int) < (s.size : Int) := by omega
    clear hbig hA hza
    go_enter Tryz.func6, Tryz.ntmps6
    go_wp2_with (go_at_call 8; (with_reducible refine (HK.out _ HM.out).mono ?_); rintro e w5 ⟨rfl, hb⟩)
    go_ret
    exact ⟨rfl, hb⟩
  · have hb2 : ¬ ((800 : Int) < (s.size : Int)) := by omega
    by_cases hmany : 20 < args.length
    · have hb3 : (20 : Int) < (args.length : Int) := by omega
      clear hbig hmany hA hza
      go_enter Tryz.func6, Tryz.ntmps6
      go_wp2_with (go_at_call 8; (with_reducible refine (HK.out _ HM.out).mono ?_); rintro e w5 ⟨rfl, hb⟩)
      go_ret
      exact ⟨rfl, hb⟩
    · have hb3 : ¬ ((20 : Int) < (args.length : Int)) := by omega
      have hsc : ∀ w, Calls Tryz.prog 18 #[.string s] w fun e w' => ∃ v, e = .returned (.tuple #[v, .int .i64 (scanA s).2.1, .int .i64 (scanA s).2.2]) ∧ TR w' v (scanA s).1 ∧ Below w.heap.size w w' := rscan_any s
      have hct := scanA_count s
      have htx := scanA_txt s
      generalize scanA s = R at *
      obtain ⟨l, er, ap⟩ := R
      simp only at hct htx hsc
      obtain ⟨F, hF⟩ : ∃ F, fillA l args (List.replicate args.length false) = F := ⟨_, rfl⟩
      have hfi := fun v1 w1 v2 (h1 : TR w1 v1 l) (h2 : CR w1 (.slice a1 args.length cap1) (args.map .string)) (h3 : CR w1 v2 ((List.replicate args.length false).map .bool)) =>
        fill_any v1 (.slice a1 args.length cap1) v2 l args (List.replicate args.length false) w1 (by omega) (fun t ht => by have := htx t ht; omega) h1 h2 h3 (by omega) (by rw [List.length_replicate]; omega) (fun t ht => by have := hza t ht; omega)
      rw [hF] at hfi
      have hmk := fun w1 => make_false w1 args.length (by omega)
      have HFI := Lib.hid hfi
      have HSC := Lib.hid hsc
      have HMK := Lib.hid hmk
      have HTX := Lib.hid htx
      have HF := Lib.hid hF
      have HA := Lib.hid hA
      have hl1 : l.length ≤ 2000 := hct
      clear hfi hsc hmk htx hF hA hza hct hbig hmany hs
      go_enter Tryz.func6, Tryz.ntmps6
      go_wp2_with fail
      refine (HSC.out _).mono ?_
      rintro e w1 ⟨v1, rfl, ht1, hb1⟩
      obtain ⟨a2, cap2, rfl⟩ := ht1.form
      obtain ⟨w2, hrun, hcr2, hbb2⟩ := HMK.out w1
      have HB2 := Lib.hid (hb1.trans (hbb2.mono hb1.size))
      have HT2 := Lib.hid (ht1.below hbb2)
      have HA2 := Lib.hid (HA.out.below HB2.out)
      have HCR2 := Lib.hid hcr2
      clear ht1 hcr2 hb1 hbb2
      go_wp2_with fail
      refine (HFI.out _ _ _ HT2.out HA2.out HCR2.out).mono ?_
      rintro e w3 ⟨v3, rfl, hr3, hbb3⟩
      have HB3 := Lib.hid (HB2.out.trans (hbb3.mono HB2.out.size))
      have HM3 := Lib.hid (HM.out.below HB3.out)
      have HT3 := Lib.hid (HT2.out.below hbb3)
      have ht3 := TR.own hr3
      clear hr3 hbb3 hrun
      cases hfl : fillL l args (List.replicate args.length false) with
      | none =>
        have hF2 : F = ([], 8) := by
          rw [← HF.out]; unfold fillA
          rw [if_neg (by simp), hfl]
        subst hF2
        obtain ⟨a3, cap3, rfl⟩ := ht3.form
        clear ht3 hfl
        go_wp2_with (go_at_call 8; (with_reducible refine (HK.out _ HM3.out).mono ?_); rintro e w5 ⟨rfl, hb5⟩)
        go_ret
        exact ⟨rfl, HB3.out.trans (hb5.mono HB3.out.size)⟩
      | some r =>
        have hF2 : F = (r, 0) := by
          rw [← HF.out]; unfold fillA
          rw [if_neg (by simp), hfl]
        subst hF2
        obtain ⟨q1, q2, q3, q4, q5⟩ := fill_facts l args _ r hfl
        have hbm : ∀ w4, TR w4 v3 r → Calls Tryz.prog 16 #[v3] w4 fun e w' => e = .returned (.int .i64 0) ∧ Below w4.heap.size w4 w' := by
          intro w4 h4
          have := binds_any v3 r w4 (by omega) (fun t ht h5 => by have := HTX.out t (q5 t ht h5); omega) h4
          rw [binds_fold, binds_zero r 0 q2] at this
          exact this
        have hbl := fun w4 (h4 : TR w4 (.slice a2 l.length cap2) l) => binds_any (.slice a2 l.length cap2) l w4 (by omega) (fun t ht h5 => by have := HTX.out t ht; omega) h4
        have hle : bindsL l ≤ args.length := by rw [binds_fold]; exact binds_le l 0 args.length (Nat.zero_le _) q3
        have hge := (binds_ge l 0).2
        rw [← binds_fold] at hge
        have hsame : bindsL l = 0 → ∀ w4, TR w4 v3 r → TR w4 (.slice a2 l.length cap2) l → Calls Tryz.prog 15 #[.slice a2 l.length cap2, v3, .bool true] w4 fun e w' => e = .returned (.bool true) ∧ ∃ n, w' = w4.drewN n := by
          intro h0 w4 h4 h5
          have hrl : r = l := q4 fun t ht => by have := hge t ht; omega
          subst hrl
          exact same_yes _ _ r r true w4 h5 h4 (by omega) (Alike.refl _ _)
        obtain ⟨a3, cap3, rfl⟩ := ht3.form
        rw [q1] at hbm hsame ht3 ⊢
        obtain ⟨n, hn⟩ : ∃ n, bindsL l = n := ⟨_, rfl⟩
        rw [hn] at hbl hle hsame
        have hle2 : (n : Int) ≤ (args.length : Int) := by omega
        have HBM := Lib.hid hbm
        have HBL := Lib.hid hbl
        have HS := Lib.hid hsame
        have HR3 := Lib.hid ht3
        clear hbm hbl hsame ht3 q1 q2 q3 q4 q5 hge hn hfl hle
        go_wp2_with fail
        refine (HBM.out _ HR3.out).mono ?_
        rintro e w4 ⟨rfl, hb4⟩
        have HB4 := Lib.hid (HB3.out.trans (hb4.mono HB3.out.size))
        have HT4 := Lib.hid (HT3.out.below hb4)
        have HR4 := Lib.hid (HR3.out.below hb4)
        have HM4 := Lib.hid (HM3.out.below hb4)
        clear hb4
        go_wp2_with fail
        refine (HBL.out _ HT4.out).mono ?_
        rintro e w5 ⟨rfl, hb5⟩
        have HB5 := Lib.hid (HB4.out.trans (hb5.mono HB4.out.size))
        have HT5 := Lib.hid (HT4.out.below hb5)
        have HR5 := Lib.hid (HR4.out.below hb5)
        have HM5 := Lib.hid (HM4.out.below hb5)
        clear hb5
        go_wp2_with fail
        refine (HBL.out _ HT5.out).mono ?_
        rintro e w6 ⟨rfl, hb6⟩
        have HB6 := Lib.hid (HB5.out.trans (hb6.mono HB5.out.size))
        have HT6 := Lib.hid (HT5.out.below hb6)
        have HR6 := Lib.hid (HR5.out.below hb6)
        have HM6 := Lib.hid (HM5.out.below hb6)
        clear hb6
        by_cases h0 : n = 0
        · subst h0
          have h00 : ¬ ((0 : Int) < ((0 : Nat) : Int)) := by omega
          go_wp2_with fail
          refine (HS.out trivial _ HR6.out HT6.out).mono ?_
          rintro e w7 ⟨rfl, nq, rfl⟩
          have HB7 := Lib.hid (HB6.out.trans ((below_drewN_ (Below.refl _ _) nq).mono HB6.out.size))
          have HM7 := Lib.hid (HM6.out.drewN nq)
          generalize w6.drewN nq = w7 at *
          go_wp2_with (go_at_call 8; (with_reducible refine (HK.out _ HM7.out).mono ?_); rintro e w8 ⟨rfl, hb8⟩)
          go_ret
          exact ⟨rfl, HB7.out.trans (hb8.mono HB7.out.size)⟩
        · have h00 : (0 : Int) < (n : Int) := by omega
          clear h0
          go_wp2_with (go_at_call 8; (with_reducible refine (HK.out _ HM6.out).mono ?_); rintro e w8 ⟨rfl, hb8⟩)
          go_ret
          exact ⟨rfl, HB6.out.trans (hb8.mono HB6.out.size)⟩

theorem own : ownKnob Tryz.prog.godebug = none := by kernel_rfl
theorem laidOut : laidOutB Tryz.prog = true := by kernel_rfl
theorem weights_at {H : Type} {P : Program} {ts : List TypeId} {ds : List (DataW H)} (h : (DataW.weightsEach P ts ds).all (· ≤ reachBytes) = true) (j : Nat) {t : TypeId} {d : DataW H} (ht : ts[j]? = some t) (hd : ds[j]? = some d) : (DataW.weights P t d).all (· ≤ reachBytes) = true :=
  List.all_eq_true.2 fun x hx => List.all_eq_true.1 h x (DataW.weights_mem_each ht hd x hx)

set_option maxRecDepth 100000 in
theorem lifted (os : Os) (started : os.Started) (H : Type) (enc : TypeId × Value → H) :
    ReturnsInHanded {} Tryz.checked os 6 .any (fun w args => (Rows.normFilledSpec.pre enc Tryz.prog Tryz.f6 Rows.normFilledRow.domain false w args ∧ laidMetH Tryz.prog Rows.normFilledRow.laid w) ∧ sizedMet enc Tryz.prog Tryz.f6 (OpenSpec.ofChange Rows.normFilledSpec) false w args) (Rows.normFilledSpec.post enc Tryz.prog Tryz.f6 false true false false) := by
  refine returns_card (C := Tryz.checked) (X := fun w _ => laidMetH Tryz.prog Rows.normFilledRow.laid w) own started (by kernel_rfl) Tryz.func6
    (ChangeSpec.witness_shaped (enc := enc) (C := Tryz.checked) (os := os) (X := fun w _ => laidMetH Tryz.prog Rows.normFilledRow.laid w) false (World.laidAll Tryz.prog os Rows.normFilledRow.laid) #[.string ByteArray.empty, .slice none 0 0] 8 (World.laidAll_os _ _ _)
      (World.shaped_of_ZipB (by kernel_rfl) (by kernel_rfl)) (by kernel_rfl) (by kernel_rfl) (by kernel_rfl)
      (by rw [MakeChecks.laidMetH_plain _ _ _ (by kernel_rfl)]; exact laidMet_laidAll _ (by kernel_rfl) (by kernel_rfl))) ?_
  intro W base args ds gs before hval0 hW hcnd hsz0 hSh _
  have hsz : (DataW.weightsEach Tryz.prog (Tryz.f6.params.toList ++ Rows.normFilledSpec.plain.varTypes Tryz.prog) (ds ++ gs)).all (· ≤ reachBytes) = true := hsz0
  clear hsz0
  have hval : ∀ (j : Nat) t v, Tryz.f6.params[j]? = some t → args[j]? = some v → Value.okWide Tryz.prog W .any base t v := hval0
  have hW' := hW
  obtain ⟨p, q, hA0, hV, rfl, hfz, hnd⟩ := hW
  have hA : DataW.TrodAll enc Tryz.prog W 0 (fun _ => true) true Tryz.f6.params.toList args.toList ds p := hA0
  rw [Tryz.params6] at hA hval hsz
  obtain ⟨v0, vs0, d0, ds0, p0, q0, hargs, rfl, rfl, h0, r0⟩ := trodAll_cons hA
  obtain ⟨v1, vs1, d1, ds1, p1, q1, rfl, rfl, rfl, h1, r1⟩ := trodAll_cons r0
  obtain ⟨rfl, rfl, rfl⟩ := trodAll_nil r1
  obtain rfl : args = #[v0, v1] := by cases args; simp_all
  obtain ⟨rfl, rfl⟩ := trodVars_none hV
  obtain ⟨a0, rfl, rfl, rfl, m0⟩ := open_string Tryz.underlying9 (hval 0 9 v0 rfl rfl) h0
  have k1 := h1
  have lt1 : ∀ x ∈ p1, x.block < W.heap.size := by obtain ⟨m, hm⟩ := k1; exact DataW.trod_lt m _ _ _ hm
  have f1 := opened_strs (hval 1 30 v1 rfl rfl) h1 (weights_at hsz 1 rfl rfl)
  clear hA0 hval0
  have s0 : a0.size ≤ 140737488351232 := by
    have := sized_string hsz (j := 0) (t := 9) (bytes := a0.data.toList) rfl rfl
    rw [← Lib.size_eq] at this; unfold reachBytes at this; exact this
  refine (walk a0 v1 W s0 f1 (the_word hSh)).mono fun e W' ⟨he, bel⟩ => ?_
  subst he
  exact ⟨_, rfl, _, _, _, [], _, [], hW', trodAll_mk1 (shut_bool Tryz.underlying4 _), (trodAll_cons_mk (shut_string Tryz.underlying9 m0) (trodAll_cons_mk (Below.trod laidOut (by kernel_rfl) (of_decide_eq_true (by kernel_rfl)) k1 bel lt1) trodAll_mk0)), rfl, bel.frame _, fun h => by cases h⟩

theorem over : Rows.normFilledRow.holds Tryz.pinned (OpenSpec.ofChange Rows.normFilledSpec) :=
  OpenClaim.holds_of_wide 6 Tryz.f6 rfl rfl rfl rfl rfl rfl rfl ⟨rfl, rfl, rfl, rfl, rfl⟩ rfl rfl rfl rfl rfl (by kernel_rfl) Tryz.func6 (by kernel_rfl)
    (of_decide_eq_true (by kernel_rfl)) (by unfold Func.isWrapper; rw [if_neg (by decide +kernel)]; exact ⟨rfl, rfl⟩)
    (fun os started H enc _ => lifted os started H enc)

theorem proved : Rows.NormFilledCardSaid :=
  Claim7.holds_tied_plain_at .later [] [.data, .data, .data, .data, .sentinel, .sentinel, .pinned] true Rows.normFilledCard.stood.harness true over (fun _ h => by cases h) (by kernel_rfl) (fun _ h => by cases h) normFilled_row_tie rfl ⟨rfl, rfl⟩ (by kernel_rfl) rfl
    (fun f fn hf hfn => by
      obtain rfl : f = 6 := Option.some.inj ((show Tryz.prog.funcNamed "pontoon/pontoonlaw05.NormFilled" = some 6 by kernel_rfl).symm.trans hf) |>.symm
      obtain rfl : fn = Tryz.f6 := (Option.some.inj (Tryz.func6.symm.trans hfn)).symm
      refine ⟨by kernel_rfl, fun j t ht => ?_⟩
      have hall : (Tryz.f6.params.toList.all fun u => !Tryz.prog.wantsStandIn u) = true := by kernel_rfl
      have hm : t ∈ Tryz.f6.params.toList := Array.mem_toList_iff.2 (Array.mem_of_getElem? ht)
      have := List.all_eq_true.1 hall t hm
      exact (show Tryz.prog.wantsStandIn t = false by simpa using this))
    (by kernel_rfl)
end Go.Proofs.YtgnpkpboilnijaaGreatDoor.normFilled
