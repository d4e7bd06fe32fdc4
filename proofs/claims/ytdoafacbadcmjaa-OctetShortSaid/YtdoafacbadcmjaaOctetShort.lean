/- The law OctetShort holds: from a place with too few bytes behind it nothing is got; beyond the end, and ahead of the beginning, neither. -/
import Derived.Test.YtdoafacbadcmjaaKno
import Derived.SizedLaws
import Derived.ChangeOld
import Derived.Carry
namespace Go.Proofs.Ytdoafacbadcmjaa.octetShort
open Go.ChangeShapes Go.WideShapes Go.ChangeAt Go.RowKit
open Go.ChangeMaps (open_string shut_string)
set_option linter.unusedVariables false

theorem walk (a0 : ByteArray) (s0 : a0.size ≤ 140737488351232) (w : World) :
    Calls Try.prog 6 #[.string a0] w fun e w' => e = .returned (.bool true) ∧ Below w.heap.size w w' := by
  have S0 : a0.size ≤ 281474976710656 := by omega
  have c1 : ∀ w, Calls Try.prog 15 #[.string a0, .int .i64 (max ((a0.size : Int) - 1) 0)] w fun e w' => e = .returned (.tuple #[.int .i64 0, .int .i64 0, .int .i64 3]) ∧ Below w.heap.size w w' := fun w => by
    have h := get16_any a0 (max ((a0.size : Int) - 1) 0) w S0
    rw [show g16 a0 (max ((a0.size : Int) - 1) 0) = (0, 0, 3) by unfold g16 insB; rw [if_neg (by rw [decide_eq_false_iff_not]; omega), if_pos (by omega)]] at h; exact h
  have c2 : ∀ w, Calls Try.prog 17 #[.string a0, .int .i64 (max ((a0.size : Int) - 3) 0)] w fun e w' => e = .returned (.tuple #[.int .i64 0, .int .i64 0, .int .i64 3]) ∧ Below w.heap.size w w' := fun w => by
    have h := get32_any a0 (max ((a0.size : Int) - 3) 0) w S0
    rw [show g32 a0 (max ((a0.size : Int) - 3) 0) = (0, 0, 3) by unfold g32 insB; rw [if_neg (by rw [decide_eq_false_iff_not]; omega), if_pos (by omega)]] at h; exact h
  have c3 : ∀ w, Calls Try.prog 21 #[.string a0, .int .i64 (a0.size : Int), .int .i64 1] w fun e w' => e = .returned (.tuple #[.string ⟨#[]⟩, .int .i64 0, .int .i64 3]) ∧ Below w.heap.size w w' := fun w => by
    have h := getBytes_any a0 (a0.size : Int) 1 w S0
    rw [show gBytes a0 (a0.size : Int) 1 = (⟨#[]⟩, 0, 3) by unfold gBytes insB; rw [if_neg (by decide), if_neg (by rw [decide_eq_false_iff_not]; omega), if_pos (by omega)]] at h; exact h
  have c4 : ∀ w, Calls Try.prog 15 #[.string a0, .int .i64 ((a0.size : Int) + 1)] w fun e w' => e = .returned (.tuple #[.int .i64 0, .int .i64 0, .int .i64 1]) ∧ Below w.heap.size w w' := fun w => by
    have h := get16_any a0 ((a0.size : Int) + 1) w S0
    rw [show g16 a0 ((a0.size : Int) + 1) = (0, 0, 1) by unfold g16 insB; rw [if_pos (by rw [decide_eq_false_iff_not]; omega)]] at h; exact h
  have c5 : ∀ w, Calls Try.prog 19 #[.string a0, .int .i64 (-1)] w fun e w' => e = .returned (.tuple #[.string ⟨#[]⟩, .int .i64 0, .int .i64 1]) ∧ Below w.heap.size w w' := fun w => by
    have h := getText_any a0 (-1) w S0
    rw [show gText a0 (-1) = (⟨#[]⟩, 0, 1) by unfold gText insB; rw [if_pos (by rw [decide_eq_false_iff_not]; omega)]] at h; exact h
  have c6 : ∀ w, Calls Try.prog 21 #[.string a0, .int .i64 (a0.size : Int), .int .i64 0] w fun e w' => e = .returned (.tuple #[.string ⟨#[]⟩, .int .i64 (a0.size : Int), .int .i64 0]) ∧ Below w.heap.size w w' := fun w => by
    have h := getBytes_any a0 (a0.size : Int) 0 w S0
    rw [show gBytes a0 (a0.size : Int) 0 = (⟨#[]⟩, (a0.size : Int), 0) by
      unfold gBytes insB
      rw [if_neg (by decide), if_neg (by rw [decide_eq_false_iff_not]; omega), if_neg (by omega), Int.add_zero]
      refine congrArg (fun x => (x, (a0.size : Int), (0 : Int))) ?_
      apply ByteArray.ext; simp] at h; exact h
  have hB := Below.refl w.heap.size w
  go_enter Try.func6, Try.ntmps6
  go_wp2_with (first
    | (go_at_call 15; (first | (with_reducible refine (c1 _).mono ?_) | (with_reducible refine (c4 _).mono ?_)); rintro e w' ⟨rfl, hb⟩; replace hB := step _ _ _ hB hb; clear hb)
    | (go_at_call 17; refine (c2 _).mono ?_; rintro e w' ⟨rfl, hb⟩; replace hB := step _ _ _ hB hb; clear hb)
    | (go_at_call 19; refine (c5 _).mono ?_; rintro e w' ⟨rfl, hb⟩; replace hB := step _ _ _ hB hb; clear hb)
    | (go_at_call 21; (first | (with_reducible refine (c3 _).mono ?_) | (with_reducible refine (c6 _).mono ?_)); rintro e w' ⟨rfl, hb⟩; replace hB := step _ _ _ hB hb; clear hb)
    | (go_at_call 14; refine (known_any _).mono ?_; rintro e w' ⟨rfl, hb⟩; replace hB := step _ _ _ hB hb; clear hb))
  go_ret
  exact ⟨rfl, hB⟩

theorem own : ownKnob Try.prog.godebug = none := by kernel_rfl

set_option maxRecDepth 100000 in
theorem lifted (os : Os) (started : os.Started) (H : Type) (enc : TypeId × Value → H) :
    ReturnsInHanded {} Try.checked os 6 .any (Rows.octetShortSpec.pre6 enc Try.prog Try.f6 Rows.octetShortRow.domain false) (Rows.octetShortSpec.post enc Try.prog Try.f6 false true false false) := by
  refine returnsInHanded_of_change_sized (C := Try.checked) own started (by kernel_rfl) Try.func6
    (ChangeSpec.witness6 (enc := enc) (C := Try.checked) false ⟨#[], #[.string ByteArray.empty], []⟩ 8 (by kernel_rfl) (by kernel_rfl) (by kernel_rfl) (by kernel_rfl)) ?_
  intro W base args ds gs before hval0 hW hcnd hsz0 _
  have hsz : (DataW.weightsEach Try.prog (Try.f6.params.toList ++ Rows.octetShortSpec.plain.varTypes Try.prog) (ds ++ gs)).all (· ≤ reachBytes) = true := hsz0
  clear hsz0
  have hval : ∀ (j : Nat) t v, Try.f6.params[j]? = some t → args[j]? = some v → Value.okWide Try.prog W .any base t v := hval0
  have hW' := hW
  obtain ⟨p, q, hA0, hV, rfl, hfz, hnd⟩ := hW
  have hA : DataW.TrodAll enc Try.prog W 0 (fun _ => true) true Try.f6.params.toList args.toList ds p := hA0
  rw [Try.params6] at hA hval hsz
  obtain ⟨v0, vs0, d0, ds0, p0, q0, hargs, rfl, rfl, h0, r0⟩ := trodAll_cons hA
  obtain ⟨rfl, rfl, rfl⟩ := trodAll_nil r0
  obtain rfl : args = #[v0] := by cases args; simp_all
  obtain ⟨rfl, rfl⟩ := trodVars_none hV
  obtain ⟨a0, rfl, rfl, rfl, m0⟩ := open_string Try.underlying9 (hval 0 9 v0 rfl rfl) h0
  clear hA0 hval0
  have s0 : a0.size ≤ 140737488351232 := by
    have := sized_string hsz (j := 0) (t := 9) (bytes := a0.data.toList) rfl rfl
    rw [← Lib.size_eq] at this; unfold reachBytes at this; exact this
  refine (walk a0 s0 W).mono fun e W' ⟨he, bel⟩ => ?_
  subst he
  exact ⟨_, rfl, _, _, _, [], _, [], hW', trodAll_mk1 (shut_bool Try.underlying4 _), (trodAll_cons_mk (shut_string Try.underlying9 m0) trodAll_mk0), rfl, bel.frame _, fun h => by cases h⟩

theorem over : Rows.octetShortRow.holds Try.pinned (OpenSpec.ofChange Rows.octetShortSpec) :=
  OpenClaim.holds_of_wide 6 Try.f6 rfl rfl rfl rfl rfl rfl rfl ⟨rfl, rfl, rfl, rfl, rfl⟩ rfl rfl rfl rfl rfl (by kernel_rfl) Try.func6 (by kernel_rfl)
    (of_decide_eq_true (by kernel_rfl)) (by unfold Func.isWrapper; rw [if_neg (by decide +kernel)]; exact ⟨rfl, rfl⟩)
    (fun os started H enc _ => lifted os started H enc)

theorem proved : Rows.OctetShortSaid := over
end Go.Proofs.Ytdoafacbadcmjaa.octetShort
