/- FrontDecodes (layer 3): for every message the law returns true and its argument reads as before: what it asks, or what is wrong, is as the document's own Decode says. No condition but the form's own reach. -/
import Derived.Test.YtojgeilihoilnaaM26
import Derived.SizedLaws
import Derived.ChangeOld
import Derived.Carry
namespace Go.Proofs.Ytojgeilihoilnaa.frontDecodes
open Go.ChangeShapes Go.WideShapes Go.ChangeAt Go.RowKit
open Go.ChangeMaps (open_string shut_string)
set_option linter.unusedVariables false
set_option linter.unusedSimpArgs false

theorem rdec_any (k : UInt8) (s : ByteArray) (hs : s.size ≤ 6000) (w : World) : Calls Try.prog 10 #[.agg #[.int .u8 (k.toNat : Int), .string s]] w (RDecP (decP k s.data.toList).1 (decP k s.data.toList).2 w) := by
  cases hk : kd k with
  | none =>
    have e : decP k s.data.toList = ({}, 5) := by unfold decP; rw [hk]
    rw [e]
    have ne : ∀ x : UInt8, (kd x).isSome = true → ((k.toNat : Int) == (x.toNat : Int)) = false := fun x hx => u8_ne k x (fun e => by rw [e] at hk; rw [hk] at hx; cases hx)
    exact rdec_kind _ s hs w (ne 0 rfl) (ne 112 rfl) (ne 81 rfl) (ne 80 rfl) (ne 66 rfl) (ne 68 rfl) (ne 67 rfl) (ne 69 rfl) (ne 88 rfl) (ne 83 rfl) (ne 72 rfl)
  | some d =>
    refine rdec_some _ s hs w k (Lib.hid rfl) (Lib.hid (by rw [hk]; rfl)) (Lib.hid ?_)
    rcases kd_inv k with h | ⟨rfl, _⟩ | ⟨rfl | rfl, _⟩ | ⟨rfl | rfl | rfl, _⟩ | ⟨rfl, _⟩ | ⟨rfl, _⟩ | ⟨rfl | rfl, _⟩ | ⟨rfl, _⟩
    · rw [hk] at h; cases h
    all_goals decide
theorem few_none : Few {} := ⟨by simp, by simp, by simp, by simp, by simp, by simp, by simp, by simp, by simp, by simp, by simp⟩
theorem few_dec (k : UInt8) (l : Tx) : Few (decP k l).1 := by
  by_cases h : (decP k l).2 = 0
  · obtain ⟨h1, _, _⟩ := dec_inv h
    have h1' := right_short h1
    unfold shortB at h1'
    obtain ⟨c1, c2, c3, c4, c5⟩ := of_decide_eq_true h1'
    have hn := h1.1.null
    exact ⟨by omega, by omega, by omega, by omega, by omega, by omega, by omega, by omega, fun t ht => by have := sumT_has _ t ht; omega, fun t ht => by have := sumT_has _ t ht; omega, fun t ht => by have := sumT_has _ t ht; omega⟩
  · rw [dec_no h]; exact few_none

set_option maxHeartbeats 2000000 in
set_option maxRecDepth 100000 in
theorem walk_l (n : Int) (s : ByteArray) (w : World) (hl : 6000 < s.size) :
    Calls Try.prog 3 #[.agg #[.int .u8 n, .string s]] w fun e w' => e = .returned (.bool true) ∧ Below w.heap.size w w' := by
  have hB := bel_alloc w (.cells #[.int .u8 n, .string s] 23)
  have bm := Blk.new w 23 #[.int .u8 n, .string s]
  go_enter Try.func3, Try.ntmps3
  go_upto_region 1 with fail
  refine wp_region_lit ?_
  change wpList _ _ _ _ _ (w.alloc (.cells #[.int .u8 n, .string s] 23))
  generalize w.alloc (.cells #[.int .u8 n, .string s] 23) = W at *
  have m0 : W.cell? ⟨w.heap.size, 0, none⟩ = some (.int .u8 n) := bm.cell 0
  have m1 : W.cell? ⟨w.heap.size, 1, none⟩ = some (.string s) := bm.cell 1
  go_wp2_with (first
    | (go_at_call 8; refine (known_any _).mono ?_; rintro e wk ⟨rfl, hbz⟩; replace hB := grow_ hB hbz; clear hbz))
  go_ret
  exact ⟨rfl, hB⟩
set_option maxHeartbeats 2000000 in
set_option maxRecDepth 100000 in
theorem walk_s (n : Int) (s : ByteArray) (w : World) (hl : s.size ≤ 6000) (r : Ask) (c : Int) (HF : Hid (Few r)) (H1 : Hid (∀ W : World, Calls Try.prog 9 #[.agg #[.int .u8 n, .string s]] W fun e w' => ∃ v, e = .returned (.tuple #[.agg v, .int .i64 c]) ∧ AR (fun b => b < w'.heap.size) w' (.agg v) r ∧ Below W.heap.size W w')) (H2 : Hid (∀ W : World, Calls Try.prog 10 #[.agg #[.int .u8 n, .string s]] W fun e w' => ∃ v, e = .returned (.tuple #[.agg v, .int .i64 c]) ∧ AR (fun b => b < w'.heap.size) w' (.agg v) r ∧ Below W.heap.size W w')) :
    Calls Try.prog 3 #[.agg #[.int .u8 n, .string s]] w fun e w' => e = .returned (.bool true) ∧ Below w.heap.size w w' := by
  have hB := bel_alloc w (.cells #[.int .u8 n, .string s] 23)
  have bm := Blk.new w 23 #[.int .u8 n, .string s]
  go_enter Try.func3, Try.ntmps3
  go_upto_region 1 with fail
  refine wp_region_lit ?_
  change wpList _ _ _ _ _ (w.alloc (.cells #[.int .u8 n, .string s] 23))
  generalize w.alloc (.cells #[.int .u8 n, .string s] 23) = W at *
  have m0 : W.cell? ⟨w.heap.size, 0, none⟩ = some (.int .u8 n) := bm.cell 0
  have m1 : W.cell? ⟨w.heap.size, 1, none⟩ = some (.string s) := bm.cell 1
  go_wp2_with (first
    | (go_at_call 9; (with_reducible refine (H1.out _).mono ?_); rintro e w1 ⟨v1, rfl, har1, hbz⟩; replace bm := bm.below hbz bm.lt; replace hB := grow_ hB hbz; clear hbz; have m0 : w1.cell? ⟨w.heap.size, 0, none⟩ = some (.int .u8 n) := bm.cell 0; have m1 : w1.cell? ⟨w.heap.size, 1, none⟩ = some (.string s) := bm.cell 1)
    | ((with_reducible refine store_box (op := ⟨none, .store 29 (.tmp 3) (.tmp 15), _, _, _, _⟩) 3 15 _ _ _ ?_ rfl rfl ?_ ?_ har1 ?_); (· rfl); (· rfl); (· rfl); (intro W3 bx3 hbz; replace bm := bm.below hbz bm.lt; replace hB := grow_ hB hbz; clear hbz; have m0 : W3.cell? ⟨w.heap.size, 0, none⟩ = some (.int .u8 n) := bm.cell 0; have m1 : W3.cell? ⟨w.heap.size, 1, none⟩ = some (.string s) := bm.cell 1; clear har1))
    | (go_at_call 10; (with_reducible refine (H2.out _).mono ?_); rintro e w2 ⟨v2, rfl, har2, hbz⟩; replace bx3 := bx3.below hbz; replace bm := bm.below hbz bm.lt; replace hB := grow_ hB hbz; clear hbz; have m0 : w2.cell? ⟨w.heap.size, 0, none⟩ = some (.int .u8 n) := bm.cell 0; have m1 : w2.cell? ⟨w.heap.size, 1, none⟩ = some (.string s) := bm.cell 1)
    | ((with_reducible refine store_box (op := ⟨none, .store 29 (.tmp 5) (.tmp 20), _, _, _, _⟩) 5 20 _ _ _ ?_ rfl rfl ?_ ?_ har2 ?_); (· rfl); (· rfl); (· rfl); (intro W5 bx5 hbz; replace bx3 := bx3.below hbz; replace bm := bm.below hbz bm.lt; replace hB := grow_ hB hbz; clear hbz; have m0 : W5.cell? ⟨w.heap.size, 0, none⟩ = some (.int .u8 n) := bm.cell 0; have m1 : W5.cell? ⟨w.heap.size, 1, none⟩ = some (.string s) := bm.cell 1; clear har2))
    | ((with_reducible refine load_box (op := ⟨some 22, .load 29 (.tmp 3), _, _, _, _⟩) 3 _ _ ?_ rfl ?_ bx3 ?_); (· rfl); (· rfl); (intro kv22 vv22 av22 nv22 fv22 har22))
    | ((with_reducible refine load_box (op := ⟨some 23, .load 29 (.tmp 5), _, _, _, _⟩) 5 _ _ ?_ rfl ?_ bx5 ?_); (· rfl); (· rfl); (intro kv23 vv23 av23 nv23 fv23 har23))
    | (go_at_call 11; refine (alike_yes _ r _ _ har22 har23 HF.out.lens).mono ?_; rintro e wq ⟨rfl, hbz⟩; replace hB := grow_ hB hbz; clear hbz har22 har23)
    | (go_at_call 8; refine (known_any _).mono ?_; rintro e wk ⟨rfl, hbz⟩; replace hB := grow_ hB hbz; clear hbz))
  go_ret
  exact ⟨rfl, hB⟩
theorem walk (v1 : Value) {W : World} (h1 : FitsM W v1) : Calls Try.prog 3 #[v1] W fun e w' => e = .returned (.bool true) ∧ Below W.heap.size W w' := by
  obtain ⟨k, s, rfl, hs⟩ := h1
  by_cases hl : 6000 < s.size
  · exact walk_l _ s W hl
  · have hl : s.size ≤ 6000 := by omega
    exact walk_s _ s W hl (decP k s.data.toList).1 (decP k s.data.toList).2 (Lib.hid (few_dec k _)) (Lib.hid fun w => dec_lit k _ s _ _ rfl rfl (by omega) w) (Lib.hid fun w => rdec_any k s hl w)

theorem own : ownKnob Try.prog.godebug = none := by kernel_rfl
theorem laidOut : laidOutB Try.prog = true := by kernel_rfl
theorem weights_at {H : Type} {P : Program} {ts : List TypeId} {ds : List (DataW H)} (h : (DataW.weightsEach P ts ds).all (· ≤ reachBytes) = true) (j : Nat) {t : TypeId} {d : DataW H} (ht : ts[j]? = some t) (hd : ds[j]? = some d) : (DataW.weights P t d).all (· ≤ reachBytes) = true :=
  List.all_eq_true.2 fun x hx => List.all_eq_true.1 h x (DataW.weights_mem_each ht hd x hx)

set_option maxRecDepth 100000 in
theorem lifted (os : Os) (started : os.Started) (H : Type) (enc : TypeId × Value → H) :
    ReturnsInHanded {} Try.checked os 3 .any (Rows.frontDecodesSpec.pre6 enc Try.prog Try.f3 Rows.frontDecodesRow.domain false) (Rows.frontDecodesSpec.post enc Try.prog Try.f3 false true false false) := by
  refine returnsInHanded_of_change_sized (C := Try.checked) own started (by kernel_rfl) Try.func3
    (ChangeSpec.witness6 (enc := enc) (C := Try.checked) false ⟨#[], #[.agg #[.int .u8 0, .string ByteArray.empty]], []⟩ 8 (by kernel_rfl) (by kernel_rfl) (by kernel_rfl) (by kernel_rfl)) ?_
  intro W base args ds gs before hval0 hW hcnd hsz0 _
  have hsz : (DataW.weightsEach Try.prog (Try.f3.params.toList ++ Rows.frontDecodesSpec.plain.varTypes Try.prog) (ds ++ gs)).all (· ≤ reachBytes) = true := hsz0
  clear hsz0
  have hval : ∀ (j : Nat) t v, Try.f3.params[j]? = some t → args[j]? = some v → Value.okWide Try.prog W .any base t v := hval0
  have hW' := hW
  obtain ⟨p, q, hA0, hV, rfl, hfz, hnd⟩ := hW
  have hA : DataW.TrodAll enc Try.prog W 0 (fun _ => true) true Try.f3.params.toList args.toList ds p := hA0
  rw [Try.params3] at hA hval hsz
  obtain ⟨v0, vs0, d0, ds0, p0, q0, hargs, rfl, rfl, h0, r0⟩ := trodAll_cons hA
  obtain ⟨rfl, rfl, rfl⟩ := trodAll_nil r0
  obtain rfl : args = #[v0] := by cases args; simp_all
  obtain ⟨rfl, rfl⟩ := trodVars_none hV
  have k0 := h0
  have lt0 : ∀ x ∈ p0, x.block < W.heap.size := by obtain ⟨m, hm⟩ := k0; exact DataW.trod_lt m _ _ _ hm
  have f0 := openedM (hval 0 23 v0 rfl rfl) h0 (weights_at hsz 0 rfl rfl)
  clear hA0 hval0
  refine (walk v0 f0).mono fun e W' ⟨he, bel⟩ => ?_
  subst he
  exact ⟨_, rfl, _, _, _, [], _, [], hW', trodAll_mk1 (shut_bool Try.underlying4 _), (trodAll_cons_mk (Below.trod laidOut (by kernel_rfl) (of_decide_eq_true (by kernel_rfl)) k0 bel lt0) trodAll_mk0), rfl, bel.frame _, fun h => by cases h⟩

theorem over : Rows.frontDecodesRow.holds Try.pinned (OpenSpec.ofChange Rows.frontDecodesSpec) :=
  OpenClaim.holds_of_wide 3 Try.f3 rfl rfl rfl rfl rfl rfl rfl ⟨rfl, rfl, rfl, rfl, rfl⟩ rfl rfl rfl rfl rfl (by kernel_rfl) Try.func3 (by kernel_rfl)
    (of_decide_eq_true (by kernel_rfl)) (by unfold Func.isWrapper; rw [if_neg (by decide +kernel)]; exact ⟨rfl, rfl⟩)
    (fun os started H enc _ => lifted os started H enc)

theorem proved : Rows.FrontDecodesSaid := over
end Go.Proofs.Ytojgeilihoilnaa.frontDecodes
