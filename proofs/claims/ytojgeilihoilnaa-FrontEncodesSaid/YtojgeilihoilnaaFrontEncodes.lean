/- FrontEncodes (layer 3): for every ask the law returns true and its argument reads as before: whether it can be asked, and its message, is as the document's own Right and Encode say. No condition but the form's own reach. -/
import Derived.Test.YtojgeilihoilnaaM23
import Derived.Deep.RegionHeld3
import Derived.SizedLaws
import Derived.ChangeOld
import Derived.Carry
namespace Go.Proofs.Ytojgeilihoilnaa.frontEncodes
open Go.ChangeShapes Go.WideShapes Go.ChangeAt Go.RowKit
open Go.ChangeMaps (open_string shut_string)
set_option linter.unusedVariables false
set_option linter.unusedSimpArgs false

/-- what the ask gives, by the code and by the document: encoded, right -/
structure AskIs (a : Ask) (y : Bool) (K : Int) (T : ByteArray) (c : Int) : Prop where
  enc : ∀ (v : Value) (w : World), Few a → AR (fun i => i < w.heap.size) w v a → Calls Try.prog 13 #[v] w fun e w' => e = .returned (.tuple #[.agg #[.int .u8 K, .string T], .int .i64 c]) ∧ Below w.heap.size w w'
  right : ∀ (v : Value) (w : World), Few a → AR (fun i => i < w.heap.size) w v a → Calls Try.prog 15 #[v] w fun e w' => e = .returned (.bool y) ∧ Below w.heap.size w w'
  renc : ∀ (v : Value) (w : World), Few a → AR (fun i => i < w.heap.size) w v a → Calls Try.prog 14 #[v] w fun e w' => e = .returned (.tuple #[.agg #[.int .u8 K, .string T], .int .i64 c]) ∧ Below w.heap.size w w'
  rright : ∀ (v : Value) (w : World), Few a → AR (fun i => i < w.heap.size) w v a → Calls Try.prog 16 #[v] w fun e w' => e = .returned (.bool y) ∧ Below w.heap.size w w'
theorem ask_yes {a : Ask} (h : RightP a) : AskIs a true (a.kind.toNat : Int) (ba (body a)) 0 := ⟨fun v w f har => enc_yes a v w f har h, fun v w f har => right_yes a v w f har h, fun v w f har => renc_yes a v w f har h, fun v w f har => rr_yes w a v f har h⟩
theorem ask_no {a : Ask} (h : ¬ RightP a) : AskIs a false 0 ⟨#[]⟩ 4 := ⟨fun v w f har => enc_no a v w f har h, fun v w f har => right_no a v w f har h, fun v w f har => renc_no a v w f har h, fun v w f har => rr_not w a v f har h⟩

set_option maxHeartbeats 2000000 in
set_option maxRecDepth 100000 in
theorem walk_a (v1 : Value) (w : World) (a : Ask) (ha : AR (fun i => i < w.heap.size) w v1 a) (sa : Sz a) (y : Bool) (K : Int) (T : ByteArray) (c : Int) (HA : Hid (AskIs a y K T c)) :
    Calls Try.prog 4 #[v1] w fun e w' => e = .returned (.bool true) ∧ Below w.heap.size w w' := by
  obtain ⟨kv, vv, av, nv, fv, rfl, _⟩ := ha.ex
  have hB := bel_alloc w (.cells (askV a kv vv av nv fv) 29)
  have bxa := bx_new w a _ ha
  have q0 := Blk.new w 29 (askV a kv vv av nv fv)
  have HAR := Lib.hid ha
  clear ha
  go_enter Try.func4, Try.ntmps4
  go_upto_region 1 with fail
  refine wp_region_lit ?_
  change wpList _ _ _ _ _ (w.alloc (.cells (askV a kv vv av nv fv) 29))
  generalize w.alloc (.cells (askV a kv vv av nv fv) 29) = W at *
  go_wp2_with (first
    | ((with_reducible refine load_box (op := ⟨some 7, .load 29 (.tmp 1), _, _, _, _⟩) 1 _ _ ?_ rfl ?_ bxa ?_); (· rfl); (· rfl); (intro kv7 vv7 av7 nv7 fv7 har7))
    | ((with_reducible refine load_box (op := ⟨some 12, .load 29 (.tmp 1), _, _, _, _⟩) 1 _ _ ?_ rfl ?_ bxa ?_); (· rfl); (· rfl); (intro kv12 vv12 av12 nv12 fv12 har12))
    | (go_at_call 12; refine (light_any _ a _ har7 sa).mono ?_; rintro e wl ⟨bl, rfl, hfa, hbz⟩; replace bxa := bxa.below hbz; replace q0 := q0.below hbz q0.lt; replace hB := grow_ hB hbz; clear hbz; clear har7; cases bl)
    | (go_at_call 8; refine (known_any _).mono ?_; rintro e wk ⟨rfl, hbz⟩; replace hB := grow_ (by first | exact hB | exact grow_ hB (bel_alloc _ _)) hbz; clear hbz)
    | (go_at_call 13; refine (HA.out.enc _ _ (hfa (by simp)) har12).mono ?_; rintro e we ⟨rfl, hbz⟩; replace bxa := bxa.below hbz; replace q0 := q0.below hbz q0.lt; replace hB := grow_ hB hbz; clear hbz; clear har12)
    | ((with_reducible refine load_box (op := ⟨some 17, .load 29 (.tmp 1), _, _, _, _⟩) 1 _ _ ?_ rfl ?_ (bxa.below (bel_alloc _ _)) ?_); (· rfl); (· rfl); (intro kv17 vv17 av17 nv17 fv17 har17); (have b3 := Blk.new we 23 #[.int .u8 K, .string T]; have hbz := bel_alloc we (.cells #[.int .u8 K, .string T] 23); replace bxa := bxa.below hbz; replace q0 := q0.below hbz q0.lt; replace hB := grow_ hB hbz; clear hbz))
    | (go_at_call 14; refine (HA.out.renc _ _ (hfa (by simp)) har17).mono ?_; rintro e wf ⟨rfl, hbz⟩; replace b3 := b3.below hbz b3.lt; replace bxa := bxa.below hbz; replace q0 := q0.below hbz q0.lt; replace hB := grow_ hB hbz; clear hbz; clear har17))
  all_goals try (go_ret; exact ⟨rfl, hB⟩)
  have b5 := Blk.new wf 23 #[.int .u8 K, .string T]
  have hbz := bel_alloc wf (.cells #[.int .u8 K, .string T] 23)
  replace b3 := b3.below hbz b3.lt
  replace bxa := bxa.below hbz
  replace q0 := q0.below hbz q0.lt
  replace hB := grow_ hB hbz
  clear hbz
  generalize wf.alloc (.cells #[.int .u8 K, .string T] 23) = W7 at *
  have q30 : W7.cell? ⟨we.heap.size, 0, none⟩ = some (.int .u8 K) := b3.cell 0
  have q31 : W7.cell? ⟨we.heap.size, 1, none⟩ = some (.string T) := b3.cell 1
  have q50 : W7.cell? ⟨wf.heap.size, 0, none⟩ = some (.int .u8 K) := b5.cell 0
  have q51 : W7.cell? ⟨wf.heap.size, 1, none⟩ = some (.string T) := b5.cell 1
  have l3 := b3.lt
  have l5 := b5.lt
  have HF := Lib.hid (hfa (by simp))
  clear hfa
  refine wp_region_held_drew (S := (fun w' => (w'.cell? ⟨we.heap.size, 0, none⟩ = some (.int .u8 K) ∧ w'.cell? ⟨we.heap.size, 1, none⟩ = some (.string T) ∧ w'.cell? ⟨wf.heap.size, 0, none⟩ = some (.int .u8 K) ∧ w'.cell? ⟨wf.heap.size, 1, none⟩ = some (.string T)) ∧ Blk w' w.heap.size 29 (askV a kv vv av nv fv) ∧ Below W7.heap.size W7 w' ∧ Below w.heap.size w w')) (by kernel_rfl) ?_ (fun hS => ?_)
  · exact ⟨⟨q30, q31, q50, q51⟩, q0.drew_, bel_drew _, grow_ hB (bel_drew _)⟩
  try dsimp only at hS
  refine wpAnyH_take (i := 0) (v := ?_) rfl (by kernel_rfl) (by kernel_rfl) (by kernel_rfl) (fun _ _ _ h => h) (Or.inl ⟨by kernel_rfl, ?_⟩) hS ?_
  rotate_left
  · intro wz hSz; try dsimp only at hSz
    go_simp
    all_goals with_reducible rfl
  try simp only [Act.put, List.getElem_toArray, List.getElem_cons_succ, List.getElem_cons_zero, List.setIfInBounds_toArray, List.set_cons_zero, List.set_cons_succ]
  refine wpAnyH_take (i := 1) (v := ?_) rfl (by kernel_rfl) (by kernel_rfl) (by kernel_rfl) (fun _ _ _ h => h) (Or.inl ⟨by kernel_rfl, ?_⟩) hS ?_
  rotate_left
  · intro wz hSz; try dsimp only at hSz
    go_simp
    all_goals with_reducible rfl
  try simp only [Act.put, List.getElem_toArray, List.getElem_cons_succ, List.getElem_cons_zero, List.setIfInBounds_toArray, List.set_cons_zero, List.set_cons_succ]
  refine wpAnyH_take (i := 2) (v := ?_) rfl (by kernel_rfl) (by kernel_rfl) (by kernel_rfl) (fun _ _ _ h => h) (Or.inl ⟨by kernel_rfl, ?_⟩) hS ?_
  rotate_left
  · intro wz hSz; try dsimp only at hSz
    go_simp
    all_goals with_reducible rfl
  try simp only [Act.put, List.getElem_toArray, List.getElem_cons_succ, List.getElem_cons_zero, List.setIfInBounds_toArray, List.set_cons_zero, List.set_cons_succ]
  refine wpAnyH_take (i := 3) (v := ?_) rfl (by kernel_rfl) (by kernel_rfl) (by kernel_rfl) (fun _ _ _ h => h) (Or.inl ⟨by kernel_rfl, ?_⟩) hS ?_
  rotate_left
  · intro wz hSz; try dsimp only at hSz
    go_simp
    all_goals with_reducible rfl
  try simp only [Act.put, List.getElem_toArray, List.getElem_cons_succ, List.getElem_cons_zero, List.setIfInBounds_toArray, List.set_cons_zero, List.set_cons_succ]
  refine wpAnyH_take (i := 4) (v := ?_) rfl (by kernel_rfl) (by kernel_rfl) (by kernel_rfl) (fun _ _ _ h => h) (Or.inl ⟨by kernel_rfl, ?_⟩) hS ?_
  rotate_left
  · intro wz hSz; try dsimp only at hSz
    go_simp
    all_goals with_reducible rfl
  try simp only [Act.put, List.getElem_toArray, List.getElem_cons_succ, List.getElem_cons_zero, List.setIfInBounds_toArray, List.set_cons_zero, List.set_cons_succ]
  refine wpAnyH_take (i := 5) (v := ?_) rfl (by kernel_rfl) (by kernel_rfl) (by kernel_rfl) (fun _ _ _ h => h) (Or.inl ⟨by kernel_rfl, ?_⟩) hS ?_
  rotate_left
  · intro wz hSz; try dsimp only at hSz
    go_simp
    all_goals with_reducible rfl
  try simp only [Act.put, List.getElem_toArray, List.getElem_cons_succ, List.getElem_cons_zero, List.setIfInBounds_toArray, List.set_cons_zero, List.set_cons_succ]
  refine wpAnyH_take (i := 6) (v := ?_) rfl (by kernel_rfl) (by kernel_rfl) (by kernel_rfl) (fun _ _ _ h => h) (Or.inl ⟨by kernel_rfl, ?_⟩) hS ?_
  rotate_left
  · intro wz hSz; try dsimp only at hSz
    go_simp
    all_goals with_reducible rfl
  try simp only [Act.put, List.getElem_toArray, List.getElem_cons_succ, List.getElem_cons_zero, List.setIfInBounds_toArray, List.set_cons_zero, List.set_cons_succ]
  refine wpAnyH_take (i := 7) (v := ?_) rfl (by kernel_rfl) (by kernel_rfl) (by kernel_rfl) (fun _ _ _ h => h) (Or.inl ⟨by kernel_rfl, ?_⟩) hS ?_
  rotate_left
  · intro wz hSz; try dsimp only at hSz
    go_simp
    all_goals with_reducible rfl
  try simp only [Act.put, List.getElem_toArray, List.getElem_cons_succ, List.getElem_cons_zero, List.setIfInBounds_toArray, List.set_cons_zero, List.set_cons_succ]
  refine wpAnyH_take (i := 8) (v := ?_) rfl (by kernel_rfl) (by kernel_rfl) (by kernel_rfl) (fun _ _ _ h => h) (Or.inl ⟨by kernel_rfl, ?_⟩) hS ?_
  rotate_left
  · intro wz hSz; try dsimp only at hSz
    go_simp
    all_goals with_reducible rfl
  try simp only [Act.put, List.getElem_toArray, List.getElem_cons_succ, List.getElem_cons_zero, List.setIfInBounds_toArray, List.set_cons_zero, List.set_cons_succ]
  refine wpAnyH_take (i := 9) (v := ?_) rfl (by kernel_rfl) (by kernel_rfl) (by kernel_rfl) (fun _ _ _ h => h) (Or.inl ⟨by kernel_rfl, ?_⟩) hS ?_
  rotate_left
  · intro wz hSz; try dsimp only at hSz
    simp only [List.getElem_toArray, List.getElem_cons_succ, List.getElem_cons_zero]
    refine lask_ _ _ _ hSz.2.1 rfl ?_
    rfl
  try simp only [Act.put, List.getElem_toArray, List.getElem_cons_succ, List.getElem_cons_zero, List.setIfInBounds_toArray, List.set_cons_zero, List.set_cons_succ]
  refine wpAnyH_take (i := 11) (v := ?_) rfl (by kernel_rfl) (by kernel_rfl) (by kernel_rfl) (fun _ _ _ h => h) (Or.inl ⟨by kernel_rfl, ?_⟩) hS ?_
  rotate_left
  · intro wz hSz; try dsimp only at hSz
    simp only [List.getElem_toArray, List.getElem_cons_succ, List.getElem_cons_zero]
    refine lask_ _ _ _ hSz.2.1 rfl ?_
    rfl
  try simp only [Act.put, List.getElem_toArray, List.getElem_cons_succ, List.getElem_cons_zero, List.setIfInBounds_toArray, List.set_cons_zero, List.set_cons_succ]
  refine wpAnyH_ready (rs := [10]) (by kernel_rfl) (by simp) (AllReadyH.cons rfl (fun K hK => ?_) AllReadyH.nil)
  go_simp
  (go_at_call 15; refine (HA.out.right _ _ HF.out (HAR.out.grow hS.2.2.2)).mono ?_; rintro e wq ⟨rfl, hb⟩)
  refine hK.out _ _ ?_ (fun hSn => ?_)
  · exact ⟨⟨((bcell hb).1 _ _ (Nat.lt_of_lt_of_le l3 hS.2.2.1.size)).trans hS.1.1, ((bcell hb).1 _ _ (Nat.lt_of_lt_of_le l3 hS.2.2.1.size)).trans hS.1.2.1, ((bcell hb).1 _ _ (Nat.lt_of_lt_of_le l5 hS.2.2.1.size)).trans hS.1.2.2.1, ((bcell hb).1 _ _ (Nat.lt_of_lt_of_le l5 hS.2.2.1.size)).trans hS.1.2.2.2⟩, hS.2.1.below hb hS.2.1.lt, grow_ hS.2.2.1 hb, grow_ hS.2.2.2 hb⟩
  clear hK K hS
  have hS := hSn
  clear hSn
  try dsimp only at hS
  try simp only [Act.put, List.getElem_toArray, List.getElem_cons_succ, List.getElem_cons_zero, List.setIfInBounds_toArray, List.set_cons_zero, List.set_cons_succ]
  refine wpAnyH_ready (rs := [12]) (by kernel_rfl) (by simp) (AllReadyH.cons rfl (fun K hK => ?_) AllReadyH.nil)
  go_simp
  (go_at_call 16; refine (HA.out.rright _ _ HF.out (HAR.out.grow hS.2.2.2)).mono ?_; rintro e wq ⟨rfl, hb⟩)
  refine hK.out _ _ ?_ (fun hSn => ?_)
  · exact ⟨⟨((bcell hb).1 _ _ (Nat.lt_of_lt_of_le l3 hS.2.2.1.size)).trans hS.1.1, ((bcell hb).1 _ _ (Nat.lt_of_lt_of_le l3 hS.2.2.1.size)).trans hS.1.2.1, ((bcell hb).1 _ _ (Nat.lt_of_lt_of_le l5 hS.2.2.1.size)).trans hS.1.2.2.1, ((bcell hb).1 _ _ (Nat.lt_of_lt_of_le l5 hS.2.2.1.size)).trans hS.1.2.2.2⟩, hS.2.1.below hb hS.2.1.lt, grow_ hS.2.2.1 hb, grow_ hS.2.2.2 hb⟩
  clear hK K hS
  have hS := hSn
  clear hSn
  try dsimp only at hS
  try simp only [Act.put, List.getElem_toArray, List.getElem_cons_succ, List.getElem_cons_zero, List.setIfInBounds_toArray, List.set_cons_zero, List.set_cons_succ]
  refine wpAnyH_take (i := 13) (v := ?_) rfl (by kernel_rfl) (by kernel_rfl) (by kernel_rfl) (fun _ _ _ h => h) (Or.inl ⟨by kernel_rfl, ?_⟩) hS ?_
  rotate_left
  · intro wz hSz; try dsimp only at hSz
    go_simp
    all_goals with_reducible rfl
  try simp only [Act.put, List.getElem_toArray, List.getElem_cons_succ, List.getElem_cons_zero, List.setIfInBounds_toArray, List.set_cons_zero, List.set_cons_succ]
  refine wpAnyH_take (i := 14) (v := ?_) rfl (by kernel_rfl) (by kernel_rfl) (by kernel_rfl) (fun _ _ _ h => h) (Or.inl ⟨by kernel_rfl, ?_⟩) hS ?_
  rotate_left
  · intro wz hSz; try dsimp only at hSz
    go_simp
    all_goals with_reducible rfl
  try simp only [Act.put, List.getElem_toArray, List.getElem_cons_succ, List.getElem_cons_zero, List.setIfInBounds_toArray, List.set_cons_zero, List.set_cons_succ]
  refine wpAnyH_take (i := 15) (v := ?_) rfl (by kernel_rfl) (by kernel_rfl) (by kernel_rfl) (fun _ _ _ h => h) (Or.inl ⟨by kernel_rfl, ?_⟩) hS ?_
  rotate_left
  · intro wz hSz; try dsimp only at hSz
    go_simp
    all_goals with_reducible rfl
  try simp only [Act.put, List.getElem_toArray, List.getElem_cons_succ, List.getElem_cons_zero, List.setIfInBounds_toArray, List.set_cons_zero, List.set_cons_succ]
  refine wpAnyH_ready (rs := [16]) (by kernel_rfl) (by simp) (AllReadyH.cons rfl (fun K hK => ?_) AllReadyH.nil)
  go_simp
  (go_at_call 8; refine (known_any _).mono ?_; rintro e wk ⟨rfl, hb⟩)
  refine hK.out _ _ ?_ (fun hSn => ?_)
  · exact ⟨⟨((bcell hb).1 _ _ (Nat.lt_of_lt_of_le l3 hS.2.2.1.size)).trans hS.1.1, ((bcell hb).1 _ _ (Nat.lt_of_lt_of_le l3 hS.2.2.1.size)).trans hS.1.2.1, ((bcell hb).1 _ _ (Nat.lt_of_lt_of_le l5 hS.2.2.1.size)).trans hS.1.2.2.1, ((bcell hb).1 _ _ (Nat.lt_of_lt_of_le l5 hS.2.2.1.size)).trans hS.1.2.2.2⟩, hS.2.1.below hb hS.2.1.lt, grow_ hS.2.2.1 hb, grow_ hS.2.2.2 hb⟩
  clear hK K hS
  have hS := hSn
  clear hSn
  try dsimp only at hS
  try simp only [Act.put, List.getElem_toArray, List.getElem_cons_succ, List.getElem_cons_zero, List.setIfInBounds_toArray, List.set_cons_zero, List.set_cons_succ]
  refine wpAnyH_take (i := 17) (v := ?_) rfl (by kernel_rfl) (by kernel_rfl) (by kernel_rfl) (fun _ _ _ h => h) (Or.inl ⟨by kernel_rfl, ?_⟩) hS ?_
  rotate_left
  · intro wz hSz; try dsimp only at hSz
    go_simp
    all_goals with_reducible rfl
  try simp only [Act.put, List.getElem_toArray, List.getElem_cons_succ, List.getElem_cons_zero, List.setIfInBounds_toArray, List.set_cons_zero, List.set_cons_succ]
  refine wpAnyH_take (i := 18) (v := ?_) rfl (by kernel_rfl) (by kernel_rfl) (by kernel_rfl) (fun _ _ _ h => h) (Or.inl ⟨by kernel_rfl, ?_⟩) hS ?_
  rotate_left
  · intro wz hSz; try dsimp only at hSz
    go_simp
    all_goals with_reducible rfl
  try simp only [Act.put, List.getElem_toArray, List.getElem_cons_succ, List.getElem_cons_zero, List.setIfInBounds_toArray, List.set_cons_zero, List.set_cons_succ]
  refine wpAnyH_done (by kernel_rfl) ?_ _
  go_wp2
  go_ret
  exact ⟨rfl, hS.2.2.2⟩
theorem walk (v1 : Value) {W : World} (h1 : FitsA W v1) : Calls Try.prog 4 #[v1] W fun e w' => e = .returned (.bool true) ∧ Below W.heap.size W w' := by
  obtain ⟨a, ha, sa⟩ := h1
  by_cases h : RightP a
  · exact walk_a v1 W a ha sa _ _ _ _ (Lib.hid (ask_yes h))
  · exact walk_a v1 W a ha sa _ _ _ _ (Lib.hid (ask_no h))

theorem own : ownKnob Try.prog.godebug = none := by kernel_rfl
theorem laidOut : laidOutB Try.prog = true := by kernel_rfl
theorem weights_at {H : Type} {P : Program} {ts : List TypeId} {ds : List (DataW H)} (h : (DataW.weightsEach P ts ds).all (· ≤ reachBytes) = true) (j : Nat) {t : TypeId} {d : DataW H} (ht : ts[j]? = some t) (hd : ds[j]? = some d) : (DataW.weights P t d).all (· ≤ reachBytes) = true :=
  List.all_eq_true.2 fun x hx => List.all_eq_true.1 h x (DataW.weights_mem_each ht hd x hx)

set_option maxRecDepth 100000 in
theorem lifted (os : Os) (started : os.Started) (H : Type) (enc : TypeId × Value → H) :
    ReturnsInHanded {} Try.checked os 4 .any (Rows.frontEncodesSpec.pre6 enc Try.prog Try.f4 Rows.frontEncodesRow.domain false) (Rows.frontEncodesSpec.post enc Try.prog Try.f4 false true false false) := by
  refine returnsInHanded_of_change_sized (C := Try.checked) own started (by kernel_rfl) Try.func4
    (ChangeSpec.witness6 (enc := enc) (C := Try.checked) false ⟨#[], #[.agg #[.int .u8 0, .string ByteArray.empty, .string ByteArray.empty, .string ByteArray.empty, .slice none 0 0, .slice none 0 0, .slice none 0 0, .slice none 0 0, .slice none 0 0, .int .i64 0, .int .u8 0, .bool false, .int .i64 0, .int .i64 0]], []⟩ 8 (by kernel_rfl) (by kernel_rfl) (by kernel_rfl) (by kernel_rfl)) ?_
  intro W base args ds gs before hval0 hW hcnd hsz0 _
  have hsz : (DataW.weightsEach Try.prog (Try.f4.params.toList ++ Rows.frontEncodesSpec.plain.varTypes Try.prog) (ds ++ gs)).all (· ≤ reachBytes) = true := hsz0
  clear hsz0
  have hval : ∀ (j : Nat) t v, Try.f4.params[j]? = some t → args[j]? = some v → Value.okWide Try.prog W .any base t v := hval0
  have hW' := hW
  obtain ⟨p, q, hA0, hV, rfl, hfz, hnd⟩ := hW
  have hA : DataW.TrodAll enc Try.prog W 0 (fun _ => true) true Try.f4.params.toList args.toList ds p := hA0
  rw [Try.params4] at hA hval hsz
  obtain ⟨v0, vs0, d0, ds0, p0, q0, hargs, rfl, rfl, h0, r0⟩ := trodAll_cons hA
  obtain ⟨rfl, rfl, rfl⟩ := trodAll_nil r0
  obtain rfl : args = #[v0] := by cases args; simp_all
  obtain ⟨rfl, rfl⟩ := trodVars_none hV
  have k0 := h0
  have lt0 : ∀ x ∈ p0, x.block < W.heap.size := by obtain ⟨m, hm⟩ := k0; exact DataW.trod_lt m _ _ _ hm
  have f0 := openedA (hval 0 29 v0 rfl rfl) h0 (weights_at hsz 0 rfl rfl)
  clear hA0 hval0
  refine (walk v0 f0).mono fun e W' ⟨he, bel⟩ => ?_
  subst he
  exact ⟨_, rfl, _, _, _, [], _, [], hW', trodAll_mk1 (shut_bool Try.underlying4 _), (trodAll_cons_mk (Below.trod laidOut (by kernel_rfl) (of_decide_eq_true (by kernel_rfl)) k0 bel lt0) trodAll_mk0), rfl, bel.frame _, fun h => by cases h⟩

theorem over : Rows.frontEncodesRow.holds Try.pinned (OpenSpec.ofChange Rows.frontEncodesSpec) :=
  OpenClaim.holds_of_wide 4 Try.f4 rfl rfl rfl rfl rfl rfl rfl ⟨rfl, rfl, rfl, rfl, rfl⟩ rfl rfl rfl rfl rfl (by kernel_rfl) Try.func4 (by kernel_rfl)
    (of_decide_eq_true (by kernel_rfl)) (by unfold Func.isWrapper; rw [if_neg (by decide +kernel)]; exact ⟨rfl, rfl⟩)
    (fun os started H enc _ => lifted os started H enc)

theorem proved : Rows.FrontEncodesSaid := over
end Go.Proofs.Ytojgeilihoilnaa.frontEncodes
