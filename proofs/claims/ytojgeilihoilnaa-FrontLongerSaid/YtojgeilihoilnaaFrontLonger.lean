/- FrontLonger (layer 3): for every ask the law returns true and its argument reads as before: a message with one byte 7 more at its end, or its last byte less, is none that can be asked; just X, S and H have no byte. No condition but the form's own reach. -/
import Derived.Test.YtojgeilihoilnaaM16
import Derived.SizedLaws
import Derived.ChangeOld
import Derived.Carry
namespace Go.Proofs.Ytojgeilihoilnaa.frontLonger
open Go.ChangeShapes Go.WideShapes Go.ChangeAt Go.RowKit
open Go.ChangeMaps (open_string shut_string)
set_option linter.unusedVariables false
set_option linter.unusedSimpArgs false

theorem enc_s (a : Ask) (v : Value) (w : World) (f : Few a) (har : AR (fun i => i < w.heap.size) w v a) (h : RightP a) (n : Int) (s : ByteArray) (hn : (a.kind.toNat : Int) = n) (hs : ba (body a) = s) :
    Calls Try.prog 13 #[v] w fun e w' => e = .returned (.tuple #[.agg #[.int .u8 n, .string s], .int .i64 0]) ∧ Below w.heap.size w w' := by
  subst hn hs
  exact enc_yes a v w f har h
theorem dec_four (k : UInt8) (n : Int) (s : ByteArray) (hk : (k.toNat : Int) = n) (e : decP k s.data.toList = ({}, 4)) (hs : s.size ≤ 1099511627776) (w : World) :
    Calls Try.prog 9 #[.agg #[.int .u8 n, .string s]] w fun e w' => ∃ v, e = .returned (.tuple #[.agg v, .int .i64 4]) ∧ AR (fun b => b < w'.heap.size) w' (.agg v) {} ∧ Below w.heap.size w w' :=
  dec_lit k n s {} 4 hk e hs w

set_option maxHeartbeats 2000000 in
set_option maxRecDepth 100000 in
theorem walk_n (v1 : Value) (w : World) (a : Ask) (ha : AR (fun i => i < w.heap.size) w v1 a) (sa : Sz a) (h : ¬ RightP a) :
    Calls Try.prog 6 #[v1] w fun e w' => e = .returned (.bool true) ∧ Below w.heap.size w w' := by
  obtain ⟨kv, vv, av, nv, fv, rfl, _⟩ := ha.ex
  have hB := bel_alloc w (.cells (askV a kv vv av nv fv) 29)
  have bxa := bx_new w a _ ha
  clear ha
  go_enter Try.func6, Try.ntmps6
  go_upto_region 1 with fail
  refine wp_region_lit ?_
  change wpList _ _ _ _ _ (w.alloc (.cells (askV a kv vv av nv fv) 29))
  generalize w.alloc (.cells (askV a kv vv av nv fv) 29) = W at *
  go_wp2_with (first
    | ((with_reducible refine load_box (op := ⟨some 11, .load 29 (.tmp 1), _, _, _, _⟩) 1 _ _ ?_ rfl ?_ bxa ?_); (· rfl); (· rfl); (intro kv11 vv11 av11 nv11 fv11 har11))
    | ((with_reducible refine load_box (op := ⟨some 15, .load 29 (.tmp 1), _, _, _, _⟩) 1 _ _ ?_ rfl ?_ bxa ?_); (· rfl); (· rfl); (intro kv15 vv15 av15 nv15 fv15 har15))
    | (go_at_call 12; refine (light_any _ a _ har11 sa).mono ?_; rintro e wl ⟨bl, rfl, hfa, hbz⟩; replace bxa := bxa.below hbz; replace hB := grow_ hB hbz; clear hbz; clear har11; cases bl)
    | (go_at_call 15; refine (right_no a _ _ (hfa (by simp)) har15 h).mono ?_; rintro e wr ⟨rfl, hbz⟩; replace bxa := bxa.below hbz; replace hB := grow_ hB hbz; clear hbz; clear har15)
    | (go_at_call 8; refine (known_any _).mono ?_; rintro e wk ⟨rfl, hbz⟩; replace hB := grow_ (by first | exact hB | exact grow_ hB (bel_alloc _ _)) hbz; clear hbz))
  all_goals
    go_ret
    exact ⟨rfl, hB⟩
theorem bx_kind {w : World} {g : Nat} {a : Ask} (h : Bx w g a) : w.cell? ⟨g, 0, none⟩ = some (.int .u8 (a.kind.toNat : Int)) := by
  obtain ⟨kv, vv, av, nv, fv, q, _⟩ := h
  exact q.cell 0
set_option maxHeartbeats 2000000 in
set_option maxRecDepth 100000 in
theorem walk_0 (v1 : Value) (w : World) (a : Ask) (ha : AR (fun i => i < w.heap.size) w v1 a) (sa : Sz a) (h : RightP a) (n : Int) (s : ByteArray) (hn : (a.kind.toNat : Int) = n) (hs : ba (body a) = s) (hz : s.size = 0) (hd : ∀ W, Calls Try.prog 9 #[.agg #[.int .u8 n, .string (s ++ ⟨#[7]⟩)]] W fun e w1 => ∃ v, e = .returned (.tuple #[.agg v, .int .i64 4]) ∧ AR (fun b => b < w1.heap.size) w1 (.agg v) {} ∧ Below W.heap.size W w1) (h3 : n = 88 ∨ n = 83 ∨ n = 72) :
    Calls Try.prog 6 #[v1] w fun e w' => e = .returned (.bool true) ∧ Below w.heap.size w w' := by
  have hsz : s.size ≤ 30000 := by omega
  obtain ⟨kv, vv, av, nv, fv, rfl, _⟩ := ha.ex
  have hB := bel_alloc w (.cells (askV a kv vv av nv fv) 29)
  have bxa := bx_new w a _ ha
  clear ha
  go_enter Try.func6, Try.ntmps6
  go_upto_region 1 with fail
  refine wp_region_lit ?_
  change wpList _ _ _ _ _ (w.alloc (.cells (askV a kv vv av nv fv) 29))
  generalize w.alloc (.cells (askV a kv vv av nv fv) 29) = W at *
  go_wp2_with (first
    | ((with_reducible refine load_box (op := ⟨some 11, .load 29 (.tmp 1), _, _, _, _⟩) 1 _ _ ?_ rfl ?_ bxa ?_); (· rfl); (· rfl); (intro kv11 vv11 av11 nv11 fv11 har11))
    | ((with_reducible refine load_box (op := ⟨some 15, .load 29 (.tmp 1), _, _, _, _⟩) 1 _ _ ?_ rfl ?_ bxa ?_); (· rfl); (· rfl); (intro kv15 vv15 av15 nv15 fv15 har15))
    | ((with_reducible refine load_box (op := ⟨some 21, .load 29 (.tmp 1), _, _, _, _⟩) 1 _ _ ?_ rfl ?_ bxa ?_); (· rfl); (· rfl); (intro kv21 vv21 av21 nv21 fv21 har21))
    | (go_at_call 12; refine (light_any _ a _ har11 sa).mono ?_; rintro e wl ⟨bl, rfl, hfa, hbz⟩; replace bxa := bxa.below hbz; replace hB := grow_ hB hbz; clear hbz; clear har11; cases bl)
    | (go_at_call 15; refine (right_yes a _ _ (hfa (by simp)) har15 h).mono ?_; rintro e wr ⟨rfl, hbz⟩; replace bxa := bxa.below hbz; replace hB := grow_ hB hbz; clear hbz; clear har15)
    | (go_at_call 8; refine (known_any _).mono ?_; rintro e wk ⟨rfl, hbz⟩; replace hB := grow_ (by first | exact hB | exact grow_ hB (bel_alloc _ _)) hbz; clear hbz)
    | (go_at_call 13; refine (enc_s a _ _ (hfa (by simp)) har21 h n s hn hs).mono ?_; rintro e we ⟨rfl, hbz⟩; replace bxa := bxa.below hbz; replace hB := grow_ hB hbz; clear hbz; clear har21)
    | (go_at_call 9; have b3 := (Blk.new we 23 #[.int .u8 n, .string s]).alloc (.cells #[.int .u8 n, .string (s ++ ⟨#[7]⟩)] 23); have hbz := grow_ (bel_alloc we (.cells #[.int .u8 n, .string s] 23)) (bel_alloc _ (.cells #[.int .u8 n, .string (s ++ ⟨#[7]⟩)] 23)); replace bxa := bxa.below hbz; replace hB := grow_ hB hbz; clear hbz; with_reducible refine (hd _).mono ?_; rintro e w5 ⟨v5, rfl, har5, hbz⟩; replace bxa := bxa.below hbz; replace b3 := b3.below hbz b3.lt; replace hB := grow_ hB hbz; clear hbz)
    | ((with_reducible refine store_box (op := ⟨none, .store 29 (.tmp 6) (.tmp 33), _, _, _, _⟩) 6 33 _ _ _ ?_ rfl rfl ?_ ?_ har5 ?_); (· rfl); (· rfl); (· rfl); (intro W6 bx6 hbz; replace bxa := bxa.below hbz; replace b3 := b3.below hbz b3.lt; replace hB := grow_ hB hbz; clear hbz; have c30 : W6.cell? ⟨we.heap.size, 0, none⟩ = some (.int .u8 n) := b3.cell 0; have c31 : W6.cell? ⟨we.heap.size, 1, none⟩ = some (.string s) := b3.cell 1; have ca : W6.cell? ⟨w.heap.size, 0, none⟩ = some (.int .u8 n) := hn ▸ bx_kind bxa; clear har5 bx6)))
  all_goals first
    | (go_ret; exact ⟨rfl, hB⟩)
    | (exfalso; omega)
set_option maxHeartbeats 2000000 in
set_option maxRecDepth 100000 in
theorem walk_1 (v1 : Value) (w : World) (a : Ask) (ha : AR (fun i => i < w.heap.size) w v1 a) (sa : Sz a) (h : RightP a) (n : Int) (s : ByteArray) (hn : (a.kind.toNat : Int) = n) (hs : ba (body a) = s) (hz : 0 < s.size) (hsz : s.size ≤ 30000) (hd : ∀ W, Calls Try.prog 9 #[.agg #[.int .u8 n, .string (s ++ ⟨#[7]⟩)]] W fun e w1 => ∃ v, e = .returned (.tuple #[.agg v, .int .i64 4]) ∧ AR (fun b => b < w1.heap.size) w1 (.agg v) {} ∧ Below W.heap.size W w1) (hd2 : ∀ W, Calls Try.prog 9 #[.agg #[.int .u8 n, .string (s.extract 0 (s.size - 1))]] W fun e w1 => ∃ v, e = .returned (.tuple #[.agg v, .int .i64 4]) ∧ AR (fun b => b < w1.heap.size) w1 (.agg v) {} ∧ Below W.heap.size W w1) :
    Calls Try.prog 6 #[v1] w fun e w' => e = .returned (.bool true) ∧ Below w.heap.size w w' := by
  obtain ⟨kv, vv, av, nv, fv, rfl, _⟩ := ha.ex
  have hB := bel_alloc w (.cells (askV a kv vv av nv fv) 29)
  have bxa := bx_new w a _ ha
  clear ha
  go_enter Try.func6, Try.ntmps6
  go_upto_region 1 with fail
  refine wp_region_lit ?_
  change wpList _ _ _ _ _ (w.alloc (.cells (askV a kv vv av nv fv) 29))
  generalize w.alloc (.cells (askV a kv vv av nv fv) 29) = W at *
  go_wp2_with (first
    | ((with_reducible refine load_box (op := ⟨some 11, .load 29 (.tmp 1), _, _, _, _⟩) 1 _ _ ?_ rfl ?_ bxa ?_); (· rfl); (· rfl); (intro kv11 vv11 av11 nv11 fv11 har11))
    | ((with_reducible refine load_box (op := ⟨some 15, .load 29 (.tmp 1), _, _, _, _⟩) 1 _ _ ?_ rfl ?_ bxa ?_); (· rfl); (· rfl); (intro kv15 vv15 av15 nv15 fv15 har15))
    | ((with_reducible refine load_box (op := ⟨some 21, .load 29 (.tmp 1), _, _, _, _⟩) 1 _ _ ?_ rfl ?_ bxa ?_); (· rfl); (· rfl); (intro kv21 vv21 av21 nv21 fv21 har21))
    | (go_at_call 12; refine (light_any _ a _ har11 sa).mono ?_; rintro e wl ⟨bl, rfl, hfa, hbz⟩; replace bxa := bxa.below hbz; replace hB := grow_ hB hbz; clear hbz; clear har11; cases bl)
    | (go_at_call 15; refine (right_yes a _ _ (hfa (by simp)) har15 h).mono ?_; rintro e wr ⟨rfl, hbz⟩; replace bxa := bxa.below hbz; replace hB := grow_ hB hbz; clear hbz; clear har15)
    | (go_at_call 8; refine (known_any _).mono ?_; rintro e wk ⟨rfl, hbz⟩; replace hB := grow_ (by first | exact hB | exact grow_ hB (bel_alloc _ _)) hbz; clear hbz)
    | (go_at_call 13; refine (enc_s a _ _ (hfa (by simp)) har21 h n s hn hs).mono ?_; rintro e we ⟨rfl, hbz⟩; replace bxa := bxa.below hbz; replace hB := grow_ hB hbz; clear hbz; clear har21)
    | (go_at_call 9; with_reducible refine (hd2 _).mono ?_; rintro e w8 ⟨v8, rfl, har8, hbz⟩; replace hB := grow_ (grow_ hB (bel_alloc W6 (.cells #[.int .u8 n, .string (s.extract 0 (s.size - 1))] 23))) hbz; clear hbz)
    | (go_at_call 9; have b3 := (Blk.new we 23 #[.int .u8 n, .string s]).alloc (.cells #[.int .u8 n, .string (s ++ ⟨#[7]⟩)] 23); have hbz := grow_ (bel_alloc we (.cells #[.int .u8 n, .string s] 23)) (bel_alloc _ (.cells #[.int .u8 n, .string (s ++ ⟨#[7]⟩)] 23)); replace bxa := bxa.below hbz; replace hB := grow_ hB hbz; clear hbz; with_reducible refine (hd _).mono ?_; rintro e w5 ⟨v5, rfl, har5, hbz⟩; replace bxa := bxa.below hbz; replace b3 := b3.below hbz b3.lt; replace hB := grow_ hB hbz; clear hbz)
    | ((with_reducible refine store_box (op := ⟨none, .store 29 (.tmp 6) (.tmp 33), _, _, _, _⟩) 6 33 _ _ _ ?_ rfl rfl ?_ ?_ har5 ?_); (· rfl); (· rfl); (· rfl); (intro W6 bx6 hbz; replace bxa := bxa.below hbz; replace b3 := b3.below hbz b3.lt; replace hB := grow_ hB hbz; clear hbz; have c30 : W6.cell? ⟨we.heap.size, 0, none⟩ = some (.int .u8 n) := b3.cell 0; have c31 : W6.cell? ⟨we.heap.size, 1, none⟩ = some (.string s) := b3.cell 1; have d31 : (W6.alloc (.cells #[.int .u8 n, .string s] 23)).cell? ⟨we.heap.size, 1, none⟩ = some (.string s) := (b3.alloc _).cell 1; clear har5 bx6))
    | ((with_reducible refine store_box (op := ⟨none, .store 29 (.tmp 9) (.tmp 69), _, _, _, _⟩) 9 69 _ _ _ ?_ rfl rfl ?_ ?_ har8 ?_); (· rfl); (· rfl); (· rfl); (intro W9 bx9 hbz; replace hB := grow_ hB hbz; clear hbz; clear har8 bx9)))
  all_goals
    go_ret
    exact ⟨rfl, hB⟩
theorem walk (v1 : Value) {W : World} (h1 : FitsA W v1) : Calls Try.prog 6 #[v1] W fun e w' => e = .returned (.bool true) ∧ Below W.heap.size W w' := by
  obtain ⟨a, ha, sa⟩ := h1
  by_cases h : RightP a
  · have hl := h.len
    have e1 : (ba (body a) ++ (⟨#[7]⟩ : ByteArray)).data.toList = body a ++ [7] := by
      show (ba (body a) ++ ba [7]).data.toList = _
      rw [ba_append, ba_list]
    have hd : ∀ W, Calls Try.prog 9 #[.agg #[.int .u8 (a.kind.toNat : Int), .string (ba (body a) ++ ⟨#[7]⟩)]] W fun e w1 => ∃ v, e = .returned (.tuple #[.agg v, .int .i64 4]) ∧ AR (fun b => b < w1.heap.size) w1 (.agg v) {} ∧ Below W.heap.size W w1 :=
      dec_four a.kind _ _ rfl (by rw [e1]; exact longer h 7) (by rw [Lib.size_eq, e1]; simp; omega)
    by_cases hn : body a = []
    · refine walk_0 v1 W a ha sa h _ _ rfl rfl (by rw [Lib.size_eq, ba_list, hn]; rfl) hd ?_
      rcases body_nil h hn with e | e | e
      · exact .inl (by rw [e]; rfl)
      · exact .inr (.inl (by rw [e]; rfl))
      · exact .inr (.inr (by rw [e]; rfl))
    · have hp : 0 < (body a).length := List.length_pos_iff.2 hn
      have e2 : ((ba (body a)).extract 0 ((ba (body a)).size - 1)).data.toList = (body a).dropLast := by
        rw [ba_extract, ba_list, List.drop_zero, Nat.sub_zero, Lib.size_eq, ba_list, List.dropLast_eq_take]
      refine walk_1 v1 W a ha sa h _ _ rfl rfl (by rw [Lib.size_eq, ba_list]; exact hp) (by rw [Lib.size_eq, ba_list]; omega) hd ?_
      exact dec_four a.kind _ _ rfl (by rw [e2]; exact shorter h hn) (by rw [Lib.size_eq, e2]; simp; omega)
  · exact walk_n v1 W a ha sa h

theorem own : ownKnob Try.prog.godebug = none := by kernel_rfl
theorem laidOut : laidOutB Try.prog = true := by kernel_rfl
theorem weights_at {H : Type} {P : Program} {ts : List TypeId} {ds : List (DataW H)} (h : (DataW.weightsEach P ts ds).all (· ≤ reachBytes) = true) (j : Nat) {t : TypeId} {d : DataW H} (ht : ts[j]? = some t) (hd : ds[j]? = some d) : (DataW.weights P t d).all (· ≤ reachBytes) = true :=
  List.all_eq_true.2 fun x hx => List.all_eq_true.1 h x (DataW.weights_mem_each ht hd x hx)

set_option maxRecDepth 100000 in
theorem lifted (os : Os) (started : os.Started) (H : Type) (enc : TypeId × Value → H) :
    ReturnsInHanded {} Try.checked os 6 .any (Rows.frontLongerSpec.pre6 enc Try.prog Try.f6 Rows.frontLongerRow.domain false) (Rows.frontLongerSpec.post enc Try.prog Try.f6 false true false false) := by
  refine returnsInHanded_of_change_sized (C := Try.checked) own started (by kernel_rfl) Try.func6
    (ChangeSpec.witness6 (enc := enc) (C := Try.checked) false ⟨#[], #[.agg #[.int .u8 0, .string ByteArray.empty, .string ByteArray.empty, .string ByteArray.empty, .slice none 0 0, .slice none 0 0, .slice none 0 0, .slice none 0 0, .slice none 0 0, .int .i64 0, .int .u8 0, .bool false, .int .i64 0, .int .i64 0]], []⟩ 8 (by kernel_rfl) (by kernel_rfl) (by kernel_rfl) (by kernel_rfl)) ?_
  intro W base args ds gs before hval0 hW hcnd hsz0 _
  have hsz : (DataW.weightsEach Try.prog (Try.f6.params.toList ++ Rows.frontLongerSpec.plain.varTypes Try.prog) (ds ++ gs)).all (· ≤ reachBytes) = true := hsz0
  clear hsz0
  have hval : ∀ (j : Nat) t v, Try.f6.params[j]? = some t → args[j]? = some v → Value.okWide Try.prog W .any base t v := hval0
  have hW' := hW
  obtain ⟨p, q, hA0, hV, rfl, hfz, hnd⟩ := hW
  have hA : DataW.TrodAll enc Try.prog W 0 (fun _ => true) true Try.f6.params.toList args.toList ds p := hA0
  rw [Try.params6] at hA hval hsz
  obtain ⟨v0, vs0, d0, ds0, p0, q0, hargs, rfl, rfl, h0, r0⟩ := trodAll_cons hA
  obtain ⟨rfl, rfl, rfl⟩ := trodAll_nil r0
  obtain rfl : args = #[v0] := by cases args; simp_all
  obtain ⟨rfl, rfl⟩ := trodVars_none hV
  have k0 := h0
  have lt0 : ∀ x ∈ p0, x.block < W.heap.size := by obtain ⟨m, hm⟩ := k0; exact DataW.trod_lt m _ _ _ hm
  have f0 := openedA (hval 0 29 v0 rfl rfl) h0 (weights_at hsz 0 rfl rfl)
  clear hA0 hval0
  refine (walk v0 f0).mono fun e W' ⟨he, bel⟩ => ?_
  subst he
  exact ⟨_, rfl, _, _, _, [], _, [], hW', trodAll_mk1 (shut_bool Try.underlying4 _), (trodAll_cons_mk (Below.trod laidOut (by kernel_rfl) (of_decide_eq_true (by kernel_rfl)) k0 bel lt0) trodAll_mk0), rfl, bel.frame _, fun h => by cases h⟩

theorem over : Rows.frontLongerRow.holds Try.pinned (OpenSpec.ofChange Rows.frontLongerSpec) :=
  OpenClaim.holds_of_wide 6 Try.f6 rfl rfl rfl rfl rfl rfl rfl ⟨rfl, rfl, rfl, rfl, rfl⟩ rfl rfl rfl rfl rfl (by kernel_rfl) Try.func6 (by kernel_rfl)
    (of_decide_eq_true (by kernel_rfl)) (by unfold Func.isWrapper; rw [if_neg (by decide +kernel)]; exact ⟨rfl, rfl⟩)
    (fun os started H enc _ => lifted os started H enc)

theorem proved : Rows.FrontLongerSaid := over
end Go.Proofs.Ytojgeilihoilnaa.frontLonger
