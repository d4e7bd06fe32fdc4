/- LexerTells (layer 4): for every list of tokens the law returns true and its argument reads as before: any tokens as text, and the tokens of each statement, are as the document says. A tied card; no condition but the form's own reach. -/
import Derived.Test.YtlmgggipkdmdfaaDoorLyo
import Derived.Test.YtlmgggipkdmdfaaDoorCrd
import Derived.SizedLaws
import Derived.ChangeOld
import Derived.Carry
namespace Go.Proofs.YtlmgggipkdmdfaaDoor.lexerTells
set_option linter.unusedSimpArgs false
open Go.ChangeShapes Go.WideShapes Go.ChangeAt Go.RowKit
open Go.ChangeMaps (open_string shut_string)
set_option linter.unusedVariables false


theorem spF_mem : ∀ (l one : List Tok) (als : List (List Tok)) (N : Nat), one.length + l.length ≤ N → (∀ y ∈ als, y.length ≤ N) → ∀ x ∈ spF l one als, x.length ≤ N := by
  intro l
  induction l with
  | nil =>
    intro one als N h1 h2 x hx
    rw [spF] at hx
    unfold addL at hx
    split at hx
    · exact h2 x hx
    · rcases List.mem_append.1 hx with hx | hx
      · exact h2 x hx
      · simp at hx; subst hx; simp at h1; exact h1
  | cons t r ih =>
    intro one als N h1 h2
    rw [spF]
    rw [List.length_cons] at h1
    split
    · refine ih [] (addL als one) N (by simp; omega) ?_
      unfold addL
      split
      · exact h2
      · intro y hy
        rcases List.mem_append.1 hy with hy | hy
        · exact h2 y hy
        · simp at hy; subst hy; omega
    · exact ih (one ++ [t]) als N (by rw [List.length_append, List.length_singleton]; omega) h2
theorem llr_get {w : World} {v : Value} {als : List (List Tok)} (h : LLR w v als) (hp : 0 < als.length) : ∃ g off cap, v = .slice (some ⟨g, off, none⟩) als.length cap ∧ als.length ≤ cap ∧ ∀ (i : Nat) (hi : i < als.length), ∃ u, w.cell? ⟨g, off + i, none⟩ = some u ∧ TR w u als[i] := by
  rcases h with ⟨A, cap, rfl, rfl⟩ | ⟨g, off, cap, rfl, hc, hx⟩
  · simp at hp
  · exact ⟨g, off, cap, rfl, hc, fun i hi => hx i als[i] (List.getElem?_eq_getElem hi)⟩
set_option maxHeartbeats 4000000 in
set_option maxRecDepth 100000 in
theorem walk (v : Value) (W : World) (hf : FitsT W v) (hw : ∃ m, Wd m W) :
    Calls Tryd.prog 4 #[v] W fun e w' => e = .returned (.bool true) ∧ Below W.heap.size W w' := by
  obtain ⟨l, hT⟩ := hf
  obtain ⟨m, hm⟩ := hw
  obtain ⟨a, cap, rfl, hx⟩ := tr_cells hT
  have HT := Lib.hid hT
  have HX := Lib.hid hx
  have HM := Lib.hid hm
  have hkn := fun w1 h1 => known_any m w1 h1
  have HK := Lib.hid hkn
  clear hT hx hm hkn
  by_cases hbig : 100 < l.length
  · have hb2 : (100 : Int) < (l.length : Int) := by omega
    clear HX
    go_enter Tryd.func4, Tryd.ntmps4
    go_wp2_with (go_at_call 8; (with_reducible refine (HK.out _ HM.out).mono ?_); rintro e w5 ⟨rfl, hb⟩)
    go_ret
    exact ⟨rfl, hb⟩
  · have hb2 : ¬ ((100 : Int) < (l.length : Int)) := by omega
    go_enter Tryd.func4, Tryd.ntmps4
    go_wp2
    go_loop [3] (fun u3 => ∃ k : Nat, k ≤ l.length ∧ u3 = .int .i64 k ∧ ∀ i (hi : i < l.length), i < k → l[i].2.1.size ≤ 200) (fun u3 => l.length - (intOf u3).toNat)
    case atStart => exact ⟨0, Nat.zero_le _, rfl, fun i hi h => by omega⟩
    case round =>
      obtain ⟨k, hk, rfl, hsm⟩ := hrel
      have HSM := Lib.hid hsm
      clear hsm
      by_cases hlt : k < l.length
      · rcases HX.out with h0 | ⟨g, off, rfl, hcap, hx⟩
        · omega
        · obtain ⟨x1, x2, x3⟩ := hx k hlt
          clear hx x1 x3
          have HXX := HX
          by_cases hz : 200 < l[k].2.1.size
          · have hz2 : (200 : Int) < (l[k].2.1.size : Int) := by omega
            clear hz
            generalize l[k].2.1 = tx at *
            clear HXX HX
            go_wp2_with (go_at_call 8; (with_reducible refine (HK.out _ HM.out).mono ?_); rintro e w5 ⟨rfl, hb⟩)
            go_ret
            exact ⟨rfl, hb⟩
          · have hz2 : ¬ ((200 : Int) < (l[k].2.1.size : Int)) := by omega
            have HZ := Lib.hid (show l[k].2.1.size ≤ 200 by omega)
            clear hz
            generalize htx : l[k].2.1 = tx at *
            have HTX := Lib.hid htx
            clear htx
            go_wp2
            go_round
            case rel =>
              refine ⟨k + 1, by omega, by go_num, fun i hi h => ?_⟩
              by_cases hik : i < k
              · exact HSM.out i hi hik
              · have : i = k := by omega
                subst this
                rw [HTX.out]
                exact HZ.out
            case measure => simp [intOf]; omega
      · have hkl : k = l.length := by omega
        subst hkl
        have hz : ∀ t ∈ l, t.2.1.size ≤ 200 := by
          intro t ht
          obtain ⟨i, hi, rfl⟩ := List.getElem_of_mem ht
          exact HSM.out i hi hi
        have HZ := Lib.hid hz
        clear HSM hz HX
        have hin : ∀ x ∈ splitL l, x.length ≤ 100 := spF_mem l [] [] 100 (by simp; omega) (fun y hy => by simp at hy)
        have hRl : (splitL l).length ≤ 102 := by have := spF_le l [] []; simp at this; unfold splitL; omega
        obtain ⟨R, hR⟩ : ∃ R, splitL l = R := ⟨_, rfl⟩
        rw [hR] at hin hRl
        have HIN := Lib.hid hin
        have HR := Lib.hid hR
        have hsp := split_any _ l _ (by omega) (fun t h => Nat.le_trans (HZ.out t h) (by omega)) HT.out _ HR.out.symm
        clear hin hR
        go_wp2_with fail
        refine hsp.mono ?_
        rintro e w1 ⟨v1, rfl, h1, hb1⟩
        have hrs := rsplit_any _ l w1 (by omega) (HT.out.below hb1) _ HR.out.symm
        obtain ⟨a1, c1, rfl⟩ := h1.form
        have HL1 := Lib.hid h1
        have HB1 := Lib.hid hb1
        clear h1 hb1 hsp
        go_wp2_with fail
        refine hrs.mono ?_
        rintro e w2 ⟨v2, rfl, h2, hb2'⟩
        obtain ⟨a2, c2, rfl⟩ := h2.form
        have HL2 := Lib.hid h2
        have HB2 := Lib.hid hb2'
        have HB := Lib.hid (HB1.out.trans (hb2'.mono HB1.out.size))
        have HL12 := Lib.hid (HL1.out.below hb2')
        clear h2 hb2' hrs HL1
        have hss := fun w3 (h3 : Below w2.heap.size w2 w3) => show_any _ l m w3 (by omega) (fun t h => Nat.le_trans (HZ.out t h) (by omega)) ((HT.out.below HB.out).below (show Below _ _ _ from by simpa using h3)) ((HM.out.below HB.out).below h3)
        have hrs := fun w3 (h3 : TR w3 (.slice a l.length cap) l) => rshow_any _ l w3 (by omega) (fun t h => Nat.le_trans (HZ.out t h) (by omega)) h3
        have HSS := Lib.hid hss
        have HRS2 := Lib.hid hrs
        clear hss hrs
        go_wp2
        go_loopw [6] (fun i wr => ∃ k n : Nat, k ≤ R.length ∧ i = .int .i64 k ∧ wr = w2.drewN n) (fun i _ => R.length - (intOf i).toNat)
        case atStart => exact ⟨0, 0, Nat.zero_le _, rfl, rfl⟩
        case round =>
          obtain ⟨k, n, hk, rfl, rfl⟩ := hrel
          by_cases hlt : k < R.length
          · obtain ⟨g1, o1, c1', e1, hc1, hx1⟩ := llr_get HL12.out (by omega)
            obtain ⟨g2, o2, c2', e2, hc2, hx2⟩ := llr_get HL2.out (by omega)
            injection e1 with e1 _ e1'
            injection e2 with e2 _ e2'
            subst e1 e1' e2 e2'
            obtain ⟨u1, y1, ht1⟩ := hx1 k hlt
            obtain ⟨u2, y2, ht2⟩ := hx2 k hlt
            have hsm := fun q => same_yes u1 u2 R[k] R[k] true (w2.drewN q) (ht1.drewN q) (ht2.drewN q) (by have := HIN.out R[k] (List.getElem_mem hlt); omega) (Alike.refl _ _)
            have HSM := Lib.hid hsm
            clear hx1 hx2 ht1 ht2 hsm
            go_wp2
            go_quiet (first | (go_at_call 11; exact quiet_add (HSM.out _)))
            go_wp2
            go_roundw
            case rel => exact ⟨k + 1, _, by omega, by go_num, rfl⟩
            case measure => simp [intOf]; omega
          · have hbd := below_drewN_ (Below.refl w2.heap.size w2) n
            have hsw := HSS.out _ hbd
            have HSW := Lib.hid hsw
            have HBD := Lib.hid (HB.out.trans (hbd.mono HB.out.size))
            have hTd : TR (w2.drewN n) (.slice a l.length cap) l := (HT.out.below HB.out).drewN n
            have HTD := Lib.hid hTd
            have HMD := Lib.hid ((HM.out.below HB.out).drewN n)
            clear hbd hsw hTd
            generalize w2.drewN n = w3 at *
            go_wp2_with (first
              | (go_at_call 14; (with_reducible refine HSW.out.mono ?_); rintro e w4 ⟨rfl, hb4⟩; have HB4 := Lib.hid hb4; have HT4 := Lib.hid (HTD.out.below hb4); have HM4 := Lib.hid (HMD.out.below hb4); clear hb4)
              | (go_at_call 15; (with_reducible refine (HRS2.out _ HT4.out).mono ?_); rintro e w5 ⟨rfl, hw5⟩; obtain rfl := hw5.symm)
              | (go_at_call 8; (with_reducible refine (HK.out _ HM4.out).mono ?_); rintro e w6 ⟨rfl, hb6⟩))
            go_ret
            exact ⟨rfl, (HBD.out.trans (HB4.out.mono HBD.out.size)).trans (hb6.mono (Nat.le_trans HBD.out.size HB4.out.size))⟩

theorem own : ownKnob Tryd.prog.godebug = none := by kernel_rfl
theorem laidOut : laidOutB Tryd.prog = true := by kernel_rfl
theorem weights_at {H : Type} {P : Program} {ts : List TypeId} {ds : List (DataW H)} (h : (DataW.weightsEach P ts ds).all (· ≤ reachBytes) = true) (j : Nat) {t : TypeId} {d : DataW H} (ht : ts[j]? = some t) (hd : ds[j]? = some d) : (DataW.weights P t d).all (· ≤ reachBytes) = true :=
  List.all_eq_true.2 fun x hx => List.all_eq_true.1 h x (DataW.weights_mem_each ht hd x hx)

set_option maxRecDepth 100000 in
theorem lifted (os : Os) (started : os.Started) (H : Type) (enc : TypeId × Value → H) :
    ReturnsInHanded {} Tryd.checked os 4 .any (fun w args => (Rows.lexerTellsSpec.pre enc Tryd.prog Tryd.f4 Rows.lexerTellsRow.domain false w args ∧ laidMetH Tryd.prog Rows.lexerTellsRow.laid w) ∧ sizedMet enc Tryd.prog Tryd.f4 (OpenSpec.ofChange Rows.lexerTellsSpec) false w args) (Rows.lexerTellsSpec.post enc Tryd.prog Tryd.f4 false true false false) := by
  refine returns_card (C := Tryd.checked) (X := fun w _ => laidMetH Tryd.prog Rows.lexerTellsRow.laid w) own started (by kernel_rfl) Tryd.func4
    (ChangeSpec.witness_shaped (enc := enc) (C := Tryd.checked) (os := os) (X := fun w _ => laidMetH Tryd.prog Rows.lexerTellsRow.laid w) false (World.laidAll Tryd.prog os Rows.lexerTellsRow.laid) #[.slice none 0 0] 8 (World.laidAll_os _ _ _)
      (World.shaped_of_ZipB (by kernel_rfl) (by kernel_rfl)) (by kernel_rfl) (by kernel_rfl) (by kernel_rfl)
      (by rw [MakeChecks.laidMetH_plain _ _ _ (by kernel_rfl)]; exact laidMet_laidAll _ (by kernel_rfl) (by kernel_rfl))) ?_
  intro W base args ds gs before hval0 hW hcnd hsz0 hSh _
  have hsz : (DataW.weightsEach Tryd.prog (Tryd.f4.params.toList ++ Rows.lexerTellsSpec.plain.varTypes Tryd.prog) (ds ++ gs)).all (· ≤ reachBytes) = true := hsz0
  clear hsz0
  have hval : ∀ (j : Nat) t v, Tryd.f4.params[j]? = some t → args[j]? = some v → Value.okWide Tryd.prog W .any base t v := hval0
  have hW' := hW
  obtain ⟨p, q, hA0, hV, rfl, hfz, hnd⟩ := hW
  have hA : DataW.TrodAll enc Tryd.prog W 0 (fun _ => true) true Tryd.f4.params.toList args.toList ds p := hA0
  rw [Tryd.params4] at hA hval hsz
  obtain ⟨v0, vs0, d0, ds0, p0, q0, hargs, rfl, rfl, h0, r0⟩ := trodAll_cons hA
  obtain ⟨rfl, rfl, rfl⟩ := trodAll_nil r0
  obtain rfl : args = #[v0] := by cases args; simp_all
  obtain ⟨rfl, rfl⟩ := trodVars_none hV
  have k0 := h0
  have lt0 : ∀ x ∈ p0, x.block < W.heap.size := by obtain ⟨m, hm⟩ := k0; exact DataW.trod_lt m _ _ _ hm
  have f0 := opened_toks (hval 0 23 v0 rfl rfl) h0 (weights_at hsz 0 rfl rfl)
  clear hA0 hval0
  refine (walk v0 W f0 (the_word hSh)).mono fun e W' ⟨he, bel⟩ => ?_
  subst he
  exact ⟨_, rfl, _, _, _, [], _, [], hW', trodAll_mk1 (shut_bool Tryd.underlying4 _), (trodAll_cons_mk (Below.trod laidOut (by kernel_rfl) (of_decide_eq_true (by kernel_rfl)) k0 bel lt0) trodAll_mk0), rfl, bel.frame _, fun h => by cases h⟩

theorem over : Rows.lexerTellsRow.holds Tryd.pinned (OpenSpec.ofChange Rows.lexerTellsSpec) :=
  OpenClaim.holds_of_wide 4 Tryd.f4 rfl rfl rfl rfl rfl rfl rfl ⟨rfl, rfl, rfl, rfl, rfl⟩ rfl rfl rfl rfl rfl (by kernel_rfl) Tryd.func4 (by kernel_rfl)
    (of_decide_eq_true (by kernel_rfl)) (by unfold Func.isWrapper; rw [if_neg (by decide +kernel)]; exact ⟨rfl, rfl⟩)
    (fun os started H enc _ => lifted os started H enc)

theorem proved : Rows.LexerTellsCardSaid :=
  Claim7.holds_tied_plain_at .later [] [.data, .pinned] true Rows.lexerTellsCard.stood.harness false over (fun _ h => by cases h) (by kernel_rfl) (fun _ h => by cases h) lexerTells_row_tie rfl ⟨rfl, rfl⟩ (by kernel_rfl) rfl
    (fun f fn hf hfn => by
      obtain rfl : f = 4 := Option.some.inj ((show Tryd.prog.funcNamed "pontoon/pontoonlaw04.LexerTells" = some 4 by kernel_rfl).symm.trans hf) |>.symm
      obtain rfl : fn = Tryd.f4 := (Option.some.inj (Tryd.func4.symm.trans hfn)).symm
      refine ⟨by kernel_rfl, fun j t ht => ?_⟩
      have hall : (Tryd.f4.params.toList.all fun u => !Tryd.prog.wantsStandIn u) = true := by kernel_rfl
      have hm : t ∈ Tryd.f4.params.toList := Array.mem_toList_iff.2 (Array.mem_of_getElem? ht)
      have := List.all_eq_true.1 hall t hm
      exact (show Tryd.prog.wantsStandIn t = false by simpa using this))
    (by kernel_rfl)
end Go.Proofs.YtlmgggipkdmdfaaDoor.lexerTells
