/- The law OctetGets holds: what is got of whatever bytes, from whatever place on, or what is wrong, is as the document says. -/
import Derived.Test.YtdoafacbadcmjaaKno
import Derived.Test.YtdoafacbadcmjaaOrf
import Derived.SizedLaws
import Derived.ChangeOld
import Derived.Carry
namespace Go.Proofs.Ytdoafacbadcmjaa.octetGets
open Go.ChangeShapes Go.WideShapes Go.ChangeAt Go.RowKit
open Go.ChangeMaps (open_string shut_string)
set_option linter.unusedVariables false

theorem walk (a0 : ByteArray) (a1 a2 : Int) (s0 : a0.size ≤ 140737488351232) (w1 : (Lit.int .i64 a1).wf = true) (w2 : (Lit.int .i64 a2).wf = true) (w : World) :
    Calls Try.prog 4 #[.string a0, .int .i64 a1, .int .i64 a2] w fun e w' => e = .returned (.bool true) ∧ Below w.heap.size w w' := by
  have S0 : a0.size ≤ 281474976710656 := by omega
  obtain ⟨x1, y1, z1, h1⟩ : ∃ x y z, g16 a0 a1 = (x, y, z) := ⟨_, _, _, rfl⟩
  obtain ⟨x2, y2, z2, h2⟩ : ∃ x y z, g32 a0 a1 = (x, y, z) := ⟨_, _, _, rfl⟩
  obtain ⟨x3, y3, z3, h3⟩ : ∃ x y z, gText a0 a1 = (x, y, z) := ⟨_, _, _, rfl⟩
  obtain ⟨x4, y4, z4, h4⟩ : ∃ x y z, gBytes a0 a1 a2 = (x, y, z) := ⟨_, _, _, rfl⟩
  have c1 := fun w => get16_any a0 a1 w S0; rw [h1, show int3 (x1, y1, z1) = .tuple #[.int .i64 x1, .int .i64 y1, .int .i64 z1] from rfl] at c1
  have c2 := fun w => rget16_any a0 a1 w S0; rw [h1, show int3 (x1, y1, z1) = .tuple #[.int .i64 x1, .int .i64 y1, .int .i64 z1] from rfl] at c2
  have c3 := fun w => get32_any a0 a1 w S0; rw [h2, show int3 (x2, y2, z2) = .tuple #[.int .i64 x2, .int .i64 y2, .int .i64 z2] from rfl] at c3
  have c4 := fun w => rget32_any a0 a1 w S0; rw [h2, show int3 (x2, y2, z2) = .tuple #[.int .i64 x2, .int .i64 y2, .int .i64 z2] from rfl] at c4
  have c5 := fun w => getText_any a0 a1 w S0; rw [h3, show res3 (x3, y3, z3) = .tuple #[.string x3, .int .i64 y3, .int .i64 z3] from rfl] at c5
  have c6 := fun w => rgetText_any a0 a1 w S0; rw [h3, show res3 (x3, y3, z3) = .tuple #[.string x3, .int .i64 y3, .int .i64 z3] from rfl] at c6
  have c7 := fun w => getBytes_any a0 a1 a2 w S0; rw [h4, show res3 (x4, y4, z4) = .tuple #[.string x4, .int .i64 y4, .int .i64 z4] from rfl] at c7
  have c8 := fun w => rgetBytes_any a0 a1 a2 w S0; rw [h4, show res3 (x4, y4, z4) = .tuple #[.string x4, .int .i64 y4, .int .i64 z4] from rfl] at c8
  clear h1 h2 h3 h4
  have hB := Below.refl w.heap.size w
  go_enter Try.func4, Try.ntmps4
  go_wp2_with (first
    | (go_at_call 15; refine (c1 _).mono ?_; rintro e w' ⟨rfl, hb⟩; replace hB := step _ _ _ hB hb; clear hb)
    | (go_at_call 16; refine (c2 _).mono ?_; rintro e w' ⟨rfl, hb⟩; replace hB := step _ _ _ hB hb; clear hb)
    | (go_at_call 17; refine (c3 _).mono ?_; rintro e w' ⟨rfl, hb⟩; replace hB := step _ _ _ hB hb; clear hb)
    | (go_at_call 18; refine (c4 _).mono ?_; rintro e w' ⟨rfl, hb⟩; replace hB := step _ _ _ hB hb; clear hb)
    | (go_at_call 19; refine (c5 _).mono ?_; rintro e w' ⟨rfl, hb⟩; replace hB := step _ _ _ hB hb; clear hb)
    | (go_at_call 20; refine (c6 _).mono ?_; rintro e w' ⟨rfl, rfl⟩)
    | (go_at_call 21; refine (c7 _).mono ?_; rintro e w' ⟨rfl, hb⟩; replace hB := step _ _ _ hB hb; clear hb)
    | (go_at_call 22; refine (c8 _).mono ?_; rintro e w' ⟨rfl, rfl⟩)
    | (go_at_call 14; refine (known_any _).mono ?_; rintro e w' ⟨rfl, hb⟩; replace hB := step _ _ _ hB hb; clear hb))
  go_ret
  exact ⟨rfl, hB⟩

theorem own : ownKnob Try.prog.godebug = none := by kernel_rfl

set_option maxRecDepth 100000 in
theorem lifted (os : Os) (started : os.Started) (H : Type) (enc : TypeId × Value → H) :
    ReturnsInHanded {} Try.checked os 4 .any (Rows.octetGetsSpec.pre6 enc Try.prog Try.f4 Rows.octetGetsRow.domain false) (Rows.octetGetsSpec.post enc Try.prog Try.f4 false true false false) := by
  refine returnsInHanded_of_change_sized (C := Try.checked) own started (by kernel_rfl) Try.func4
    (ChangeSpec.witness6 (enc := enc) (C := Try.checked) false ⟨#[], #[.string ByteArray.empty, .int .i64 0, .int .i64 0], []⟩ 8 (by kernel_rfl) (by kernel_rfl) (by kernel_rfl) (by kernel_rfl)) ?_
  intro W base args ds gs before hval0 hW hcnd hsz0 _
  have hsz : (DataW.weightsEach Try.prog (Try.f4.params.toList ++ Rows.octetGetsSpec.plain.varTypes Try.prog) (ds ++ gs)).all (· ≤ reachBytes) = true := hsz0
  clear hsz0
  have hval : ∀ (j : Nat) t v, Try.f4.params[j]? = some t → args[j]? = some v → Value.okWide Try.prog W .any base t v := hval0
  have hW' := hW
  obtain ⟨p, q, hA0, hV, rfl, hfz, hnd⟩ := hW
  have hA : DataW.TrodAll enc Try.prog W 0 (fun _ => true) true Try.f4.params.toList args.toList ds p := hA0
  rw [Try.params4] at hA hval hsz
  obtain ⟨v0, vs0, d0, ds0, p0, q0, hargs, rfl, rfl, h0, r0⟩ := trodAll_cons hA
  obtain ⟨v1, vs1, d1, ds1, p1, q1, rfl, rfl, rfl, h1, r1⟩ := trodAll_cons r0
  obtain ⟨v2, vs2, d2, ds2, p2, q2, rfl, rfl, rfl, h2, r2⟩ := trodAll_cons r1
  obtain ⟨rfl, rfl, rfl⟩ := trodAll_nil r2
  obtain rfl : args = #[v0, v1, v2] := by cases args; simp_all
  obtain ⟨rfl, rfl⟩ := trodVars_none hV
  obtain ⟨a0, rfl, rfl, rfl, m0⟩ := open_string Try.underlying9 (hval 0 9 v0 rfl rfl) h0
  obtain ⟨a1, rfl, rfl, rfl, w1⟩ := open_int Try.underlying3 (hval 1 3 v1 rfl rfl) h1
  obtain ⟨a2, rfl, rfl, rfl, w2⟩ := open_int Try.underlying3 (hval 2 3 v2 rfl rfl) h2
  clear hA0 hval0
  have s0 : a0.size ≤ 140737488351232 := by
    have := sized_string hsz (j := 0) (t := 9) (bytes := a0.data.toList) rfl rfl
    rw [← Lib.size_eq] at this; unfold reachBytes at this; exact this
  refine (walk a0 a1 a2 s0 w1 w2 W).mono fun e W' ⟨he, bel⟩ => ?_
  subst he
  exact ⟨_, rfl, _, _, _, [], _, [], hW', trodAll_mk1 (shut_bool Try.underlying4 _), (trodAll_cons_mk (shut_string Try.underlying9 m0) (trodAll_cons_mk (shut_int Try.underlying3 w1) (trodAll_cons_mk (shut_int Try.underlying3 w2) trodAll_mk0))), rfl, bel.frame _, fun h => by cases h⟩

theorem over : Rows.octetGetsRow.holds Try.pinned (OpenSpec.ofChange Rows.octetGetsSpec) :=
  OpenClaim.holds_of_wide 4 Try.f4 rfl rfl rfl rfl rfl rfl rfl ⟨rfl, rfl, rfl, rfl, rfl⟩ rfl rfl rfl rfl rfl (by kernel_rfl) Try.func4 (by kernel_rfl)
    (of_decide_eq_true (by kernel_rfl)) (by unfold Func.isWrapper; rw [if_neg (by decide +kernel)]; exact ⟨rfl, rfl⟩)
    (fun os started H enc _ => lifted os started H enc)

theorem proved : Rows.OctetGetsSaid := over
end Go.Proofs.Ytdoafacbadcmjaa.octetGets
