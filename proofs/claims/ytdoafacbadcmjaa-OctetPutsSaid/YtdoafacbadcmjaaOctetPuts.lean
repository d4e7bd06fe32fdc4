/- The law OctetPuts holds: whatever number or text is put behind whatever text, what comes is as the document says. -/
import Derived.Test.YtdoafacbadcmjaaKno
import Derived.Test.YtdoafacbadcmjaaOrf
import Derived.SizedLaws
import Derived.ChangeOld
import Derived.Carry
namespace Go.Proofs.Ytdoafacbadcmjaa.octetPuts
open Go.ChangeShapes Go.WideShapes Go.ChangeAt Go.RowKit
open Go.ChangeMaps (open_string shut_string)
set_option linter.unusedVariables false

theorem walk (a0 : ByteArray) (a1 : ByteArray) (a2 : Int) (s0 : a0.size ≤ 140737488351232) (s1 : a1.size ≤ 140737488351232) (w2 : (Lit.int .i64 a2).wf = true) (w : World) :
    Calls Try.prog 3 #[.string a0, .string a1, .int .i64 a2] w fun e w' => e = .returned (.bool true) ∧ Below w.heap.size w w' := by
  have S0 : a0.size ≤ 281474976710656 := by omega
  have S1 : a1.size ≤ 281474976710656 := by omega
  obtain ⟨X, hX⟩ : ∃ X, X = put16 a0 a2 := ⟨_, rfl⟩
  obtain ⟨Y, hY⟩ : ∃ Y, Y = put32 a0 a2 := ⟨_, rfl⟩
  obtain ⟨Z, hZ⟩ : ∃ Z, Z = putText a0 a1 := ⟨_, rfl⟩
  have c1 := put16_any a0 a2 S0; rw [← hX] at c1
  have c2 := rput16_any a0 a2 S0; rw [← hX] at c2
  have c3 := put32_any a0 a2 S0; rw [← hY] at c3
  have c4 := rput32_any a0 a2 S0; rw [← hY] at c4
  have c5 := fun w => putText_any a0 a1 w S0 S1; rw [← hZ] at c5
  have c6 := fun w => rputText_any a0 a1 w S0 S1; rw [← hZ] at c6
  clear hX hY hZ
  have hB := Below.refl w.heap.size w
  go_enter Try.func3, Try.ntmps3
  go_wp2_with (first
    | (go_at_call 8; refine (c1 _).mono ?_; rintro e w' ⟨rfl, hb⟩; replace hB := step _ _ _ hB hb; clear hb)
    | (go_at_call 9; refine (c2 _).mono ?_; rintro e w' ⟨rfl, hb⟩; replace hB := step _ _ _ hB hb; clear hb)
    | (go_at_call 10; refine (c3 _).mono ?_; rintro e w' ⟨rfl, hb⟩; replace hB := step _ _ _ hB hb; clear hb)
    | (go_at_call 11; refine (c4 _).mono ?_; rintro e w' ⟨rfl, hb⟩; replace hB := step _ _ _ hB hb; clear hb)
    | (go_at_call 12; refine (c5 _).mono ?_; rintro e w' ⟨rfl, hb⟩; replace hB := step _ _ _ hB hb; clear hb)
    | (go_at_call 13; refine (c6 _).mono ?_; rintro e w' ⟨rfl, rfl⟩)
    | (go_at_call 14; refine (known_any _).mono ?_; rintro e w' ⟨rfl, hb⟩; replace hB := step _ _ _ hB hb; clear hb))
  go_ret
  exact ⟨rfl, hB⟩

theorem own : ownKnob Try.prog.godebug = none := by kernel_rfl

set_option maxRecDepth 100000 in
theorem lifted (os : Os) (started : os.Started) (H : Type) (enc : TypeId × Value → H) :
    ReturnsInHanded {} Try.checked os 3 .any (Rows.octetPutsSpec.pre6 enc Try.prog Try.f3 Rows.octetPutsRow.domain false) (Rows.octetPutsSpec.post enc Try.prog Try.f3 false true false false) := by
  refine returnsInHanded_of_change_sized (C := Try.checked) own started (by kernel_rfl) Try.func3
    (ChangeSpec.witness6 (enc := enc) (C := Try.checked) false ⟨#[], #[.string ByteArray.empty, .string ByteArray.empty, .int .i64 0], []⟩ 8 (by kernel_rfl) (by kernel_rfl) (by kernel_rfl) (by kernel_rfl)) ?_
  intro W base args ds gs before hval0 hW hcnd hsz0 _
  have hsz : (DataW.weightsEach Try.prog (Try.f3.params.toList ++ Rows.octetPutsSpec.plain.varTypes Try.prog) (ds ++ gs)).all (· ≤ reachBytes) = true := hsz0
  clear hsz0
  have hval : ∀ (j : Nat) t v, Try.f3.params[j]? = some t → args[j]? = some v → Value.okWide Try.prog W .any base t v := hval0
  have hW' := hW
  obtain ⟨p, q, hA0, hV, rfl, hfz, hnd⟩ := hW
  have hA : DataW.TrodAll enc Try.prog W 0 (fun _ => true) true Try.f3.params.toList args.toList ds p := hA0
  rw [Try.params3] at hA hval hsz
  obtain ⟨v0, vs0, d0, ds0, p0, q0, hargs, rfl, rfl, h0, r0⟩ := trodAll_cons hA
  obtain ⟨v1, vs1, d1, ds1, p1, q1, rfl, rfl, rfl, h1, r1⟩ := trodAll_cons r0
  obtain ⟨v2, vs2, d2, ds2, p2, q2, rfl, rfl, rfl, h2, r2⟩ := trodAll_cons r1
  obtain ⟨rfl, rfl, rfl⟩ := trodAll_nil r2
  obtain rfl : args = #[v0, v1, v2] := by cases args; simp_all
  obtain ⟨rfl, rfl⟩ := trodVars_none hV
  obtain ⟨a0, rfl, rfl, rfl, m0⟩ := open_string Try.underlying9 (hval 0 9 v0 rfl rfl) h0
  obtain ⟨a1, rfl, rfl, rfl, m1⟩ := open_string Try.underlying9 (hval 1 9 v1 rfl rfl) h1
  obtain ⟨a2, rfl, rfl, rfl, w2⟩ := open_int Try.underlying3 (hval 2 3 v2 rfl rfl) h2
  clear hA0 hval0
  have s0 : a0.size ≤ 140737488351232 := by
    have := sized_string hsz (j := 0) (t := 9) (bytes := a0.data.toList) rfl rfl
    rw [← Lib.size_eq] at this; unfold reachBytes at this; exact this
  have s1 : a1.size ≤ 140737488351232 := by
    have := sized_string hsz (j := 1) (t := 9) (bytes := a1.data.toList) rfl rfl
    rw [← Lib.size_eq] at this; unfold reachBytes at this; exact this
  refine (walk a0 a1 a2 s0 s1 w2 W).mono fun e W' ⟨he, bel⟩ => ?_
  subst he
  exact ⟨_, rfl, _, _, _, [], _, [], hW', trodAll_mk1 (shut_bool Try.underlying4 _), (trodAll_cons_mk (shut_string Try.underlying9 m0) (trodAll_cons_mk (shut_string Try.underlying9 m1) (trodAll_cons_mk (shut_int Try.underlying3 w2) trodAll_mk0))), rfl, bel.frame _, fun h => by cases h⟩

theorem over : Rows.octetPutsRow.holds Try.pinned (OpenSpec.ofChange Rows.octetPutsSpec) :=
  OpenClaim.holds_of_wide 3 Try.f3 rfl rfl rfl rfl rfl rfl rfl ⟨rfl, rfl, rfl, rfl, rfl⟩ rfl rfl rfl rfl rfl (by kernel_rfl) Try.func3 (by kernel_rfl)
    (of_decide_eq_true (by kernel_rfl)) (by unfold Func.isWrapper; rw [if_neg (by decide +kernel)]; exact ⟨rfl, rfl⟩)
    (fun os started H enc _ => lifted os started H enc)

theorem proved : Rows.OctetPutsSaid := over
end Go.Proofs.Ytdoafacbadcmjaa.octetPuts
