/- FrameNil (layer 2): for every text the law returns true and its argument reads as before: a reader that is not there, or that New did not give, reads nothing. No condition but the form's own reach. -/
import Derived.Test.YthajnfmbgmmncaaFrk
import Derived.SizedLaws
import Derived.ChangeOld
import Derived.Carry
namespace Go.Proofs.Ythajnfmbgmmncaa.frameNil
open Go.ChangeShapes Go.WideShapes Go.ChangeAt Go.RowKit
open Go.ChangeMaps (open_string shut_string)
set_option linter.unusedVariables false

set_option maxHeartbeats 1000000 in
set_option maxRecDepth 100000 in
theorem walk (s : ByteArray) (hs : s.size ≤ 140737488351232) (w : World) :
    Calls Try.prog 7 #[.string s] w fun e w' => e = .returned (.bool true) ∧ Below w.heap.size w w' := by
  have z0 := (Blk.new w 47 #[.pointer none, .bool false, .slice none 0 0, .int .i64 0]).cell 0
  have z : (w.alloc (.cells #[.pointer none, .bool false, .slice none 0 0, .int .i64 0] 47)).cell? ⟨w.heap.size, 0, none⟩ = some (.pointer none) := z0
  have Z := Lib.hid z
  clear z0 z
  go_enter Try.func7, Try.ntmps7
  go_wp2_with (first
    | (go_at_call 11; (first | (with_reducible refine (feed_nil _ _).mono ?_) | (with_reducible refine (feed_zero _ _ _ Z.out).mono ?_)); rintro e w1 ⟨rfl, rfl⟩)
    | (go_at_call 14; (first | (with_reducible refine (rest_nil _).mono ?_) | (with_reducible refine (rest_zero _ _ Z.out).mono ?_)); rintro e w1 ⟨rfl, rfl⟩)
    | (go_at_call 15; (first | (with_reducible refine (bad_nil _).mono ?_) | (with_reducible refine (bad_zero _ _ Z.out).mono ?_)); rintro e w1 ⟨rfl, rfl⟩)
    | (go_at_call 10; (first | (with_reducible refine (copy_nil _).mono ?_) | (with_reducible refine (copy_zero _ _ Z.out).mono ?_)); rintro e w1 ⟨rfl, rfl⟩)
    | (go_at_call 8; refine (known_any _).mono ?_; rintro e w2 ⟨rfl, hb⟩))
  go_ret
  exact ⟨rfl, bel hb⟩

theorem own : ownKnob Try.prog.godebug = none := by kernel_rfl

set_option maxRecDepth 100000 in
theorem lifted (os : Os) (started : os.Started) (H : Type) (enc : TypeId × Value → H) :
    ReturnsInHanded {} Try.checked os 7 .any (Rows.frameNilSpec.pre6 enc Try.prog Try.f7 Rows.frameNilRow.domain false) (Rows.frameNilSpec.post enc Try.prog Try.f7 false true false false) := by
  refine returnsInHanded_of_change_sized (C := Try.checked) own started (by kernel_rfl) Try.func7
    (ChangeSpec.witness6 (enc := enc) (C := Try.checked) false ⟨#[], #[.string ByteArray.empty], []⟩ 8 (by kernel_rfl) (by kernel_rfl) (by kernel_rfl) (by kernel_rfl)) ?_
  intro W base args ds gs before hval0 hW hcnd hsz0 _
  have hsz : (DataW.weightsEach Try.prog (Try.f7.params.toList ++ Rows.frameNilSpec.plain.varTypes Try.prog) (ds ++ gs)).all (· ≤ reachBytes) = true := hsz0
  clear hsz0
  have hval : ∀ (j : Nat) t v, Try.f7.params[j]? = some t → args[j]? = some v → Value.okWide Try.prog W .any base t v := hval0
  have hW' := hW
  obtain ⟨p, q, hA0, hV, rfl, hfz, hnd⟩ := hW
  have hA : DataW.TrodAll enc Try.prog W 0 (fun _ => true) true Try.f7.params.toList args.toList ds p := hA0
  rw [Try.params7] at hA hval hsz
  obtain ⟨v0, vs0, d0, ds0, p0, q0, hargs, rfl, rfl, h0, r0⟩ := trodAll_cons hA
  obtain ⟨rfl, rfl, rfl⟩ := trodAll_nil r0
  obtain rfl : args = #[v0] := by cases args; simp_all
  obtain ⟨rfl, rfl⟩ := trodVars_none hV
  obtain ⟨a0, rfl, rfl, rfl, m0⟩ := open_string Try.underlying9 (hval 0 9 v0 rfl rfl) h0
  clear hA0 hval0
  have s0 : a0.size ≤ 140737488351232 := by
    have := sized_string hsz (j := 0) (t := 9) (bytes := a0.data.toList) rfl rfl
    rw [← Lib.size_eq] at this; unfold reachBytes at this; exact this
  refine (walk a0 s0 W).mono fun e W' ⟨he, bel⟩ => ?_
  subst he
  exact ⟨_, rfl, _, _, _, [], _, [], hW', trodAll_mk1 (shut_bool Try.underlying4 _), (trodAll_cons_mk (shut_string Try.underlying9 m0) trodAll_mk0), rfl, bel.frame _, fun h => by cases h⟩

theorem over : Rows.frameNilRow.holds Try.pinned (OpenSpec.ofChange Rows.frameNilSpec) :=
  OpenClaim.holds_of_wide 7 Try.f7 rfl rfl rfl rfl rfl rfl rfl ⟨rfl, rfl, rfl, rfl, rfl⟩ rfl rfl rfl rfl rfl (by kernel_rfl) Try.func7 (by kernel_rfl)
    (of_decide_eq_true (by kernel_rfl)) (by unfold Func.isWrapper; rw [if_neg (by decide +kernel)]; exact ⟨rfl, rfl⟩)
    (fun os started H enc _ => lifted os started H enc)

theorem proved : Rows.FrameNilSaid := over
end Go.Proofs.Ythajnfmbgmmncaa.frameNil
