/- The law OctetJoins holds: what is put behind a text is that text and what is put behind none, and its length says which. -/
import Derived.Test.YtdoafacbadcmjaaKno
import Derived.SizedLaws
import Derived.ChangeOld
import Derived.Carry
namespace Go.Proofs.Ytdoafacbadcmjaa.octetJoins
open Go.ChangeShapes Go.WideShapes Go.ChangeAt Go.RowKit
open Go.ChangeMaps (open_string shut_string)
set_option linter.unusedVariables false

theorem emp_app (b : ByteArray) : (⟨#[]⟩ : ByteArray) ++ b = b := by
  apply ByteArray.ext; simp [ByteArray.data_append]

theorem walk (a0 : ByteArray) (a1 : ByteArray) (a2 : Int) (s0 : a0.size ≤ 140737488351232) (s1 : a1.size ≤ 140737488351232) (w2 : (Lit.int .i64 a2).wf = true) (w : World) :
    Calls Try.prog 7 #[.string a0, .string a1, .int .i64 a2] w fun e w' => e = .returned (.bool true) ∧ Below w.heap.size w w' := by
  have S0 : a0.size ≤ 281474976710656 := by omega
  have S1 : a1.size ≤ 281474976710656 := by omega
  have S0 : a0.size ≤ 281474976710656 := by omega
  have S1 : a1.size ≤ 281474976710656 := by omega
  have S0 : a0.size ≤ 281474976710656 := by omega
  have S1 : a1.size ≤ 281474976710656 := by omega
  have S0 : a0.size ≤ 281474976710656 := by omega
  have S1 : a1.size ≤ 281474976710656 := by omega
  obtain ⟨X, hX⟩ : ∃ X, X = (⟨#[byt (a2 / 256), byt a2]⟩ : ByteArray) := ⟨_, rfl⟩
  obtain ⟨Y, hY⟩ : ∃ Y, Y = (⟨#[byt (a2 / 16777216), byt (a2 / 65536), byt (a2 / 256), byt a2]⟩ : ByteArray) := ⟨_, rfl⟩
  obtain ⟨Z, hZ⟩ : ∃ Z, Z = head0 a1 ++ ⟨#[0]⟩ := ⟨_, rfl⟩
  have xs : X.size = 2 := by rw [hX]; rfl
  have ys : Y.size = 4 := by rw [hY]; rfl
  have zs : Z.size ≤ 140737488351233 := by rw [hZ]; have := head0_size a1; have := zix_le a1; simp [ByteArray.size_append]; show _ + 1 ≤ _; omega
  have c1 : ∀ w, Calls Try.prog 8 #[.string a0, .int .i64 a2] w fun e w' => e = .returned (.string (a0 ++ X)) ∧ Below w.heap.size w w' := fun w => by
    have h := put16_any a0 a2 S0 w; unfold put16 at h; rw [hX]; exact h
  have c2 : ∀ w, Calls Try.prog 8 #[.string ⟨#[]⟩, .int .i64 a2] w fun e w' => e = .returned (.string X) ∧ Below w.heap.size w w' := fun w => by
    have h := put16_any ⟨#[]⟩ a2 (by decide) w; unfold put16 at h; rw [hX, ← emp_app ⟨#[byt (a2 / 256), byt a2]⟩]; exact h
  have c3 : ∀ w, Calls Try.prog 10 #[.string a0, .int .i64 a2] w fun e w' => e = .returned (.string (a0 ++ Y)) ∧ Below w.heap.size w w' := fun w => by
    have h := put32_any a0 a2 S0 w; unfold put32 at h; rw [hY]; exact h
  have c4 : ∀ w, Calls Try.prog 10 #[.string ⟨#[]⟩, .int .i64 a2] w fun e w' => e = .returned (.string Y) ∧ Below w.heap.size w w' := fun w => by
    have h := put32_any ⟨#[]⟩ a2 (by decide) w; unfold put32 at h; rw [hY, ← emp_app ⟨#[byt (a2 / 16777216), byt (a2 / 65536), byt (a2 / 256), byt a2]⟩]; exact h
  have c5 : ∀ w, Calls Try.prog 12 #[.string a0, .string a1] w fun e w' => e = .returned (.string (a0 ++ Z)) ∧ Below w.heap.size w w' := fun w => by
    have h := putText_any a0 a1 w S0 S1; unfold putText at h; rw [hZ, ← ByteArray.append_assoc]; exact h
  have c6 : ∀ w, Calls Try.prog 12 #[.string ⟨#[]⟩, .string a1] w fun e w' => e = .returned (.string Z) ∧ Below w.heap.size w w' := fun w => by
    have h := putText_any ⟨#[]⟩ a1 w (by decide) S1; unfold putText at h; rw [emp_app] at h; rw [hZ]; exact h
  clear hX hY hZ
  have hB := Below.refl w.heap.size w
  go_enter Try.func7, Try.ntmps7
  go_wp2_with (first
    | (go_at_call 8; (first | (with_reducible refine (c1 _).mono ?_) | (with_reducible refine (c2 _).mono ?_)); rintro e w' ⟨rfl, hb⟩; replace hB := step _ _ _ hB hb; clear hb)
    | (go_at_call 10; (first | (with_reducible refine (c3 _).mono ?_) | (with_reducible refine (c4 _).mono ?_)); rintro e w' ⟨rfl, hb⟩; replace hB := step _ _ _ hB hb; clear hb)
    | (go_at_call 12; (first | (with_reducible refine (c5 _).mono ?_) | (with_reducible refine (c6 _).mono ?_)); rintro e w' ⟨rfl, hb⟩; replace hB := step _ _ _ hB hb; clear hb)
    | (go_at_call 14; refine (known_any _).mono ?_; rintro e w' ⟨rfl, hb⟩; replace hB := step _ _ _ hB hb; clear hb))
  go_ret
  exact ⟨rfl, hB⟩

theorem own : ownKnob Try.prog.godebug = none := by kernel_rfl

set_option maxRecDepth 100000 in
theorem lifted (os : Os) (started : os.Started) (H : Type) (enc : TypeId × Value → H) :
    ReturnsInHanded {} Try.checked os 7 .any (Rows.octetJoinsSpec.pre6 enc Try.prog Try.f7 Rows.octetJoinsRow.domain false) (Rows.octetJoinsSpec.post enc Try.prog Try.f7 false true false false) := by
  refine returnsInHanded_of_change_sized (C := Try.checked) own started (by kernel_rfl) Try.func7
    (ChangeSpec.witness6 (enc := enc) (C := Try.checked) false ⟨#[], #[.string ByteArray.empty, .string ByteArray.empty, .int .i64 0], []⟩ 8 (by kernel_rfl) (by kernel_rfl) (by kernel_rfl) (by kernel_rfl)) ?_
  intro W base args ds gs before hval0 hW hcnd hsz0 _
  have hsz : (DataW.weightsEach Try.prog (Try.f7.params.toList ++ Rows.octetJoinsSpec.plain.varTypes Try.prog) (ds ++ gs)).all (· ≤ reachBytes) = true := hsz0
  clear hsz0
  have hval : ∀ (j : Nat) t v, Try.f7.params[j]? = some t → args[j]? = some v → Value.okWide Try.prog W .any base t v := hval0
  have hW' := hW
  obtain ⟨p, q, hA0, hV, rfl, hfz, hnd⟩ := hW
  have hA : DataW.TrodAll enc Try.prog W 0 (fun _ => true) true Try.f7.params.toList args.toList ds p := hA0
  rw [Try.params7] at hA hval hsz
  obtain ⟨v0, vs0, d0, ds0, p0, q0, hargs, rfl, rfl, h0, r0⟩ := trodAll_cons hA
  obtain ⟨v1, vs1, d1, ds1, p1, q1, rfl, rfl, rfl, h1, r1⟩ := trodAll_cons r0
  obtain ⟨v2, vs2, d2, ds2, p2, q2, rfl, rfl, rfl, h2, r2⟩ := trodAll_cons r1
  obtain ⟨rfl, rfl, rfl⟩ := trodAll_nil r2
  obtain rfl : args = #[v0, v1, v2] := by cases args; simp_all
  obtain ⟨rfl, rfl⟩ := trodVars_none hV
  obtain ⟨a0, rfl, rfl, rfl, m0⟩ := open_string Try.underlying9 (hval 0 9 v0 rfl rfl) h0
  obtain ⟨a1, rfl, rfl, rfl, m1⟩ := open_string Try.underlying9 (hval 1 9 v1 rfl rfl) h1
  obtain ⟨a2, rfl, rfl, rfl, w2⟩ := open_int Try.underlying3 (hval 2 3 v2 rfl rfl) h2
  clear hA0 hval0
  have s0 : a0.size ≤ 140737488351232 := by
    have := sized_string hsz (j := 0) (t := 9) (bytes := a0.data.toList) rfl rfl
    rw [← Lib.size_eq] at this; unfold reachBytes at this; exact this
  have s1 : a1.size ≤ 140737488351232 := by
    have := sized_string hsz (j := 1) (t := 9) (bytes := a1.data.toList) rfl rfl
    rw [← Lib.size_eq] at this; unfold reachBytes at this; exact this
  refine (walk a0 a1 a2 s0 s1 w2 W).mono fun e W' ⟨he, bel⟩ => ?_
  subst he
  exact ⟨_, rfl, _, _, _, [], _, [], hW', trodAll_mk1 (shut_bool Try.underlying4 _), (trodAll_cons_mk (shut_string Try.underlying9 m0) (trodAll_cons_mk (shut_string Try.underlying9 m1) (trodAll_cons_mk (shut_int Try.underlying3 w2) trodAll_mk0))), rfl, bel.frame _, fun h => by cases h⟩

theorem over : Rows.octetJoinsRow.holds Try.pinned (OpenSpec.ofChange Rows.octetJoinsSpec) :=
  OpenClaim.holds_of_wide 7 Try.f7 rfl rfl rfl rfl rfl rfl rfl ⟨rfl, rfl, rfl, rfl, rfl⟩ rfl rfl rfl rfl rfl (by kernel_rfl) Try.func7 (by kernel_rfl)
    (of_decide_eq_true (by kernel_rfl)) (by unfold Func.isWrapper; rw [if_neg (by decide +kernel)]; exact ⟨rfl, rfl⟩)
    (fun os started H enc _ => lifted os started H enc)

theorem proved : Rows.OctetJoinsSaid := over
end Go.Proofs.Ytdoafacbadcmjaa.octetJoins
