/- SlruNil (layer 10): for every key the law returns true and its argument reads as before: a store that is not there, or that New did not give, has nothing. No condition but the form's own reach. -/
import Derived.Test.YtgiajbpeiebkhaaSlk
import Derived.OpenShut
import Derived.SizedLaws
import Derived.ChangeOld
import Derived.Carry
namespace Go.Proofs.Ytgiajbpeiebkhaa.slruNil
open Go.ChangeShapes Go.WideShapes Go.ChangeAt Go.RowKit
open Go.ChangeMaps (open_string shut_string)
open Go.Proofs.Ytgiajbpeiebkhaa.SL
set_option linter.unusedVariables false

theorem has_nil (w : World) (k : ByteArray) :
    Calls Try.prog 18 #[.pointer none, .string k] w fun e w' => e = .returned (.tuple #[.int .i64 0, .bool false]) ∧ w = w' := by
  go_enter Try.func18, Try.ntmps18
  go_wp2_with (go_at_call 31; refine (find_nil _ _).mono ?_; rintro e w' ⟨rfl, rfl⟩)
  go_ret2
  exact ⟨rfl, rfl⟩
set_option maxHeartbeats 2000000 in
set_option maxRecDepth 100000 in
theorem walk (s : ByteArray) (hs : s.size ≤ 140737488351232) (w : World) :
    Calls Try.prog 6 #[.string s] w fun e w' => e = .returned (.bool true) ∧ Below w.heap.size w w' := by
  have z0 := (Bk.new w 63 #[.pointer none, .int .i64 0, .int .i64 0, .int .i64 0, .pointer none, .int .i64 0, .pointer none, .int .i64 0, .map none]).cell 0
  go_enter Try.func6, Try.ntmps6
  go_wp2_with fail
  obtain ⟨W, hW⟩ : ∃ W, w.alloc (.cells #[.pointer none, .int .i64 0, .int .i64 0, .int .i64 0, .pointer none, .int .i64 0, .pointer none, .int .i64 0, .map none] 63) = W := ⟨_, rfl⟩
  have hB : Below w.heap.size w W := by rw [← hW]; exact (Below.refl _ _).alloc (Nat.le_refl _) _
  rw [hW] at z0 ⊢
  have z : W.cell? ⟨w.heap.size, 0, none⟩ = some (.pointer none) := z0
  have HB := Lib.hid hB
  have Z := Lib.hid z
  clear hW hB z0 z
  refine (put_nil _ _ _).mono ?_
  rintro e w' ⟨rfl, rfl⟩
  go_wp2_with (first
    | (go_at_call 10; (with_reducible refine (put_zero _ _ _ _ Z.out).mono ?_); rintro e w1 ⟨rfl, rfl⟩)
    | (go_at_call 13; (first | (with_reducible refine (touch_nil _ _).mono ?_) | (with_reducible refine (touch_zero _ _ _ Z.out).mono ?_)); rintro e w1 ⟨rfl, rfl⟩)
    | (go_at_call 18; (with_reducible refine (has_nil _ _).mono ?_); rintro e w1 ⟨rfl, rfl⟩)
    | (go_at_call 15; (first | (with_reducible refine (drop_nil _ _).mono ?_) | (with_reducible refine (drop_zero _ _ _ Z.out).mono ?_)); rintro e w1 ⟨rfl, rfl⟩)
    | (go_at_call 20; (first | (with_reducible refine (keys_nil _ _).mono ?_) | (with_reducible refine (keys_zero _ _ _ Z.out).mono ?_)); rintro e w1 ⟨rfl, rfl⟩)
    | (go_at_call 22; (first | (with_reducible refine (bytes_nil _ _).mono ?_) | (with_reducible refine (bytes_zero _ _ _ Z.out).mono ?_)); rintro e w1 ⟨rfl, rfl⟩)
    | (go_at_call 17; (first | (with_reducible refine (copy_nil _).mono ?_) | (with_reducible refine (copy_zero _ _ Z.out).mono ?_)); rintro e w1 ⟨rfl, rfl⟩)
    | (go_at_call 24; refine (known_any _).mono ?_; rintro e w2 ⟨rfl, hb⟩; have HK := Lib.hid hb; clear hb))
  go_ret
  exact ⟨rfl, HB.out.trans (HK.out.mono HB.out.size)⟩

theorem own : ownKnob Try.prog.godebug = none := by kernel_rfl

set_option maxRecDepth 100000 in
theorem lifted (os : Os) (started : os.Started) (H : Type) (enc : TypeId × Value → H) :
    ReturnsInHanded {} Try.checked os 6 .any (Rows.slruNilSpec.pre6 enc Try.prog Try.f6 Rows.slruNilRow.domain false) (Rows.slruNilSpec.post enc Try.prog Try.f6 false true false false) := by
  refine returnsInHanded_of_change_sized (C := Try.checked) own started (by kernel_rfl) Try.func6
    (ChangeSpec.witness6 (enc := enc) (C := Try.checked) false ⟨#[], #[.string ByteArray.empty], []⟩ 8 (by kernel_rfl) (by kernel_rfl) (by kernel_rfl) (by kernel_rfl)) ?_
  intro W base args ds gs before hval0 hW hcnd hsz0 _
  have hsz : (DataW.weightsEach Try.prog (Try.f6.params.toList ++ Rows.slruNilSpec.plain.varTypes Try.prog) (ds ++ gs)).all (· ≤ reachBytes) = true := hsz0
  clear hsz0
  have hval : ∀ (j : Nat) t v, Try.f6.params[j]? = some t → args[j]? = some v → Value.okWide Try.prog W .any base t v := hval0
  have hW' := hW
  obtain ⟨p, q, hA0, hV, rfl, hfz, hnd⟩ := hW
  have hA : DataW.TrodAll enc Try.prog W 0 (fun _ => true) true Try.f6.params.toList args.toList ds p := hA0
  rw [Try.params6] at hA hval hsz
  obtain ⟨v0, vs0, d0, ds0, p0, q0, hargs, rfl, rfl, h0, r0⟩ := trodAll_cons hA
  obtain ⟨rfl, rfl, rfl⟩ := trodAll_nil r0
  obtain rfl : args = #[v0] := by cases args; simp_all
  obtain ⟨rfl, rfl⟩ := trodVars_none hV
  obtain ⟨a0, rfl, rfl, rfl, m0⟩ := open_string Try.underlying9 (hval 0 9 v0 rfl rfl) h0
  clear hA0 hval0
  have s0 : a0.size ≤ 140737488351232 := by
    have := sized_string hsz (j := 0) (t := 9) (bytes := a0.data.toList) rfl rfl
    rw [← Lib.size_eq] at this; unfold reachBytes at this; exact this
  refine (walk a0 s0 W).mono fun e W' ⟨he, bel⟩ => ?_
  subst he
  exact ⟨_, rfl, _, _, _, [], _, [], hW', trodAll_mk1 (shut_bool Try.underlying4 _), (trodAll_cons_mk (shut_string Try.underlying9 m0) trodAll_mk0), rfl, bel.frame _, fun h => by cases h⟩

theorem over : Rows.slruNilRow.holds Try.pinned (OpenSpec.ofChange Rows.slruNilSpec) :=
  OpenClaim.holds_of_wide 6 Try.f6 rfl rfl rfl rfl rfl rfl rfl ⟨rfl, rfl, rfl, rfl, rfl⟩ rfl rfl rfl rfl rfl (by kernel_rfl) Try.func6 (by kernel_rfl)
    (of_decide_eq_true (by kernel_rfl)) (by unfold Func.isWrapper; rw [if_neg (by decide +kernel)]; exact ⟨rfl, rfl⟩)
    (fun os started H enc _ => lifted os started H enc)

theorem proved : Rows.SlruNilSaid := over
end Go.Proofs.Ytgiajbpeiebkhaa.slruNil
