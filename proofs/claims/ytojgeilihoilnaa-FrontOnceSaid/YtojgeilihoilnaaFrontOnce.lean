/- FrontOnce (layer 3): for every two asks the law returns true and its arguments read as before: two things that can be asked have one message just if they are the same. No condition but the form's own reach. -/
import Derived.Test.YtojgeilihoilnaaM16
import Derived.Deep.RegionHeld3
import Derived.SizedLaws
import Derived.ChangeOld
import Derived.Carry
namespace Go.Proofs.Ytojgeilihoilnaa.frontOnce
open Go.ChangeShapes Go.WideShapes Go.ChangeAt Go.RowKit
open Go.ChangeMaps (open_string shut_string)
set_option linter.unusedVariables false
set_option linter.unusedSimpArgs false

set_option maxHeartbeats 2000000 in
set_option maxRecDepth 100000 in
theorem walk_n (v1 v2 : Value) (w : World) (a b : Ask) (ha : AR (fun i => i < w.heap.size) w v1 a) (hb : AR (fun i => i < w.heap.size) w v2 b) (sa : Sz a) (sb : Sz b) (h : ¬ RightP a) :
    Calls Try.prog 7 #[v1, v2] w fun e w' => e = .returned (.bool true) ∧ Below w.heap.size w w' := by
  obtain ⟨kv, vv, av, nv, fv, rfl, _⟩ := ha.ex
  obtain ⟨kv2, vv2, av2, nv2, fv2, rfl, _⟩ := hb.ex
  have hb0 := bel_alloc w (.cells (askV a kv vv av nv fv) 29)
  have bxa := bx_new w a _ ha
  have bxb := bx_new _ b _ (hb.grow hb0)
  have hb1 := bel_alloc (w.alloc (.cells (askV a kv vv av nv fv) 29)) (.cells (askV b kv2 vv2 av2 nv2 fv2) 29)
  replace bxa := bxa.below hb1
  have hB := grow_ hb0 hb1
  rw [show (w.alloc (.cells (askV a kv vv av nv fv) 29)).heap.size = w.heap.size + 1 by simp] at bxb
  clear hb0 hb1 ha hb
  go_enter Try.func7, Try.ntmps7
  go_upto_region 1 with fail
  refine wp_region_lit ?_
  change wpList _ _ _ _ _ ((w.alloc (.cells (askV a kv vv av nv fv) 29)).alloc (.cells (askV b kv2 vv2 av2 nv2 fv2) 29))
  generalize (w.alloc (.cells (askV a kv vv av nv fv) 29)).alloc (.cells (askV b kv2 vv2 av2 nv2 fv2) 29) = W at *
  go_wp2_with (first
    | ((with_reducible refine load_box (op := ⟨some 9, .load 29 (.tmp 2), _, _, _, _⟩) 2 _ _ ?_ rfl ?_ bxa ?_); (· rfl); (· rfl); (intro kv9 vv9 av9 nv9 fv9 har9))
    | ((with_reducible refine load_box (op := ⟨some 13, .load 29 (.tmp 3), _, _, _, _⟩) 3 _ _ ?_ rfl ?_ bxb ?_); (· rfl); (· rfl); (intro kv13 vv13 av13 nv13 fv13 har13))
    | ((with_reducible refine load_box (op := ⟨some 19, .load 29 (.tmp 2), _, _, _, _⟩) 2 _ _ ?_ rfl ?_ bxa ?_); (· rfl); (· rfl); (intro kv19 vv19 av19 nv19 fv19 har19))
    | (go_at_call 12; refine (light_any _ a _ har9 sa).mono ?_; rintro e wl ⟨bl, rfl, hfa, hbz⟩; replace bxa := bxa.below hbz; replace bxb := bxb.below hbz; replace hB := grow_ hB hbz; clear hbz; clear har9; cases bl)
    | (go_at_call 12; refine (light_any _ b _ har13 sb).mono ?_; rintro e wl ⟨bl, rfl, hfb, hbz⟩; replace bxa := bxa.below hbz; replace bxb := bxb.below hbz; replace hB := grow_ hB hbz; clear hbz; clear har13; cases bl)
    | (go_at_call 8; refine (known_any _).mono ?_; rintro e wk ⟨rfl, hbz⟩; replace hB := grow_ (by first | exact hB | exact grow_ hB (bel_alloc _ _)) hbz; clear hbz)
    | (go_at_call 13; refine (enc_no a _ _ (hfa (by simp)) har19 h).mono ?_; rintro e we ⟨rfl, hbz⟩;  replace bxa := bxa.below hbz; replace bxb := bxb.below hbz; replace hB := grow_ hB hbz; clear hbz; clear har19)
    | ((with_reducible refine load_box (op := ⟨some 24, .load 29 (.tmp 3), _, _, _, _⟩) 3 _ _ ?_ rfl ?_ (bxb.below (bel_alloc _ _)) ?_); (· rfl); (· rfl); (intro kv24 vv24 av24 nv24 fv24 har24); (have b5 := Blk.new we 23 #[.int .u8 0, .string ⟨#[]⟩]; have hbz := bel_alloc we (.cells #[.int .u8 0, .string ⟨#[]⟩] 23); replace bxa := bxa.below hbz; replace bxb := bxb.below hbz; replace hB := grow_ hB hbz; clear hbz))
    | (go_at_call 13; refine (enc_some b _ _ (hfb (by simp)) har24).mono ?_; rintro e wf ⟨eN, eS, eC, rfl, hbz⟩; replace b5 := b5.below hbz b5.lt; have c50 : wf.cell? ⟨we.heap.size, 0, none⟩ = some (.int .u8 0) := b5.cell 0; have c51 : wf.cell? ⟨we.heap.size, 1, none⟩ = some (.string ⟨#[]⟩) := b5.cell 1; have n5 := Nat.ne_of_lt b5.lt; have d50 : (wf.alloc (.cells #[.int .u8 eN, .string eS] 23)).cell? ⟨we.heap.size, 0, none⟩ = some (.int .u8 0) := (b5.alloc _).cell 0; have d51 : (wf.alloc (.cells #[.int .u8 eN, .string eS] 23)).cell? ⟨we.heap.size, 1, none⟩ = some (.string ⟨#[]⟩) := (b5.alloc _).cell 1; replace bxa := bxa.below hbz; replace bxb := bxb.below hbz; replace hB := grow_ hB hbz; clear hbz; clear har24))
  all_goals try (go_ret; exact ⟨rfl, hB⟩)
  trace_state
  all_goals
    go_ret
    exact ⟨rfl, hB⟩
set_option maxHeartbeats 2000000 in
set_option maxRecDepth 100000 in
theorem walk_m (v1 v2 : Value) (w : World) (a b : Ask) (ha : AR (fun i => i < w.heap.size) w v1 a) (hb : AR (fun i => i < w.heap.size) w v2 b) (sa : Sz a) (sb : Sz b) (h : RightP a) (k : ¬ RightP b) :
    Calls Try.prog 7 #[v1, v2] w fun e w' => e = .returned (.bool true) ∧ Below w.heap.size w w' := by
  obtain ⟨kv, vv, av, nv, fv, rfl, _⟩ := ha.ex
  obtain ⟨kv2, vv2, av2, nv2, fv2, rfl, _⟩ := hb.ex
  have hb0 := bel_alloc w (.cells (askV a kv vv av nv fv) 29)
  have bxa := bx_new w a _ ha
  have bxb := bx_new _ b _ (hb.grow hb0)
  have hb1 := bel_alloc (w.alloc (.cells (askV a kv vv av nv fv) 29)) (.cells (askV b kv2 vv2 av2 nv2 fv2) 29)
  replace bxa := bxa.below hb1
  have hB := grow_ hb0 hb1
  rw [show (w.alloc (.cells (askV a kv vv av nv fv) 29)).heap.size = w.heap.size + 1 by simp] at bxb
  clear hb0 hb1 ha hb
  go_enter Try.func7, Try.ntmps7
  go_upto_region 1 with fail
  refine wp_region_lit ?_
  change wpList _ _ _ _ _ ((w.alloc (.cells (askV a kv vv av nv fv) 29)).alloc (.cells (askV b kv2 vv2 av2 nv2 fv2) 29))
  generalize (w.alloc (.cells (askV a kv vv av nv fv) 29)).alloc (.cells (askV b kv2 vv2 av2 nv2 fv2) 29) = W at *
  go_wp2_with (first
    | ((with_reducible refine load_box (op := ⟨some 9, .load 29 (.tmp 2), _, _, _, _⟩) 2 _ _ ?_ rfl ?_ bxa ?_); (· rfl); (· rfl); (intro kv9 vv9 av9 nv9 fv9 har9))
    | ((with_reducible refine load_box (op := ⟨some 13, .load 29 (.tmp 3), _, _, _, _⟩) 3 _ _ ?_ rfl ?_ bxb ?_); (· rfl); (· rfl); (intro kv13 vv13 av13 nv13 fv13 har13))
    | ((with_reducible refine load_box (op := ⟨some 19, .load 29 (.tmp 2), _, _, _, _⟩) 2 _ _ ?_ rfl ?_ bxa ?_); (· rfl); (· rfl); (intro kv19 vv19 av19 nv19 fv19 har19))
    | (go_at_call 12; refine (light_any _ a _ har9 sa).mono ?_; rintro e wl ⟨bl, rfl, hfa, hbz⟩; replace bxa := bxa.below hbz; replace bxb := bxb.below hbz; replace hB := grow_ hB hbz; clear hbz; clear har9; cases bl)
    | (go_at_call 12; refine (light_any _ b _ har13 sb).mono ?_; rintro e wl ⟨bl, rfl, hfb, hbz⟩; replace bxa := bxa.below hbz; replace bxb := bxb.below hbz; replace hB := grow_ hB hbz; clear hbz; clear har13; cases bl)
    | (go_at_call 8; refine (known_any _).mono ?_; rintro e wk ⟨rfl, hbz⟩; replace hB := grow_ (by first | exact hB | exact grow_ hB (bel_alloc _ _)) hbz; clear hbz)
    | (go_at_call 13; refine (enc_yes a _ _ (hfa (by simp)) har19 h).mono ?_; rintro e we ⟨rfl, hbz⟩;  replace bxa := bxa.below hbz; replace bxb := bxb.below hbz; replace hB := grow_ hB hbz; clear hbz; clear har19)
    | ((with_reducible refine load_box (op := ⟨some 24, .load 29 (.tmp 3), _, _, _, _⟩) 3 _ _ ?_ rfl ?_ (bxb.below (bel_alloc _ _)) ?_); (· rfl); (· rfl); (intro kv24 vv24 av24 nv24 fv24 har24); (have b5 := Blk.new we 23 #[.int .u8 (a.kind.toNat : Int), .string (ba (body a))]; have hbz := bel_alloc we (.cells #[.int .u8 (a.kind.toNat : Int), .string (ba (body a))] 23); replace bxa := bxa.below hbz; replace bxb := bxb.below hbz; replace hB := grow_ hB hbz; clear hbz))
    | (go_at_call 13; refine (enc_no b _ _ (hfb (by simp)) har24 k).mono ?_; rintro e wf ⟨rfl, hbz⟩; replace b5 := b5.below hbz b5.lt; have c50 : wf.cell? ⟨we.heap.size, 0, none⟩ = some (.int .u8 (a.kind.toNat : Int)) := b5.cell 0; have c51 : wf.cell? ⟨we.heap.size, 1, none⟩ = some (.string (ba (body a))) := b5.cell 1; have n5 := Nat.ne_of_lt b5.lt; replace bxa := bxa.below hbz; replace bxb := bxb.below hbz; replace hB := grow_ hB hbz; clear hbz; clear har24))
  all_goals
    go_ret
    exact ⟨rfl, hB⟩
theorem ite2 {α : Type} {p q : Prop} [Decidable p] [Decidable q] {x y : α} (h : p → q → False) : (if p then (if q then x else y) else y) = y := by
  by_cases hp : p
  · rw [if_pos hp]
    by_cases hq : q
    · exact (h hp hq).elim
    · rw [if_neg hq]
  · rw [if_neg hp]
theorem alike_not (w : World) (a b : Ask) (v1 v2 : Value) (h1 : AR (fun i => i < w.heap.size) w v1 a) (h2 : AR (fun i => i < w.heap.size) w v2 b) (l1 : Lens a) (l2 : Lens b) (hn : Hid (a ≠ b)) :
    Calls Try.prog 11 #[v1, v2] w fun e w' => e = .returned (.bool false) ∧ Below w.heap.size w w' := by
  have := alike_any w a b v1 v2 h1 h2 l1 l2
  rw [decide_eq_false hn.out] at this
  exact this
/-- an ask is loaded -/
theorem lask (w : World) (g : Nat) (cs : Array Value) (hb : Blk w g 29 cs) (hz : cs.size = 14) {f : Operand → Value} {x : Nat} {d : Option Tmp} {ty : TypeId} {pos : String} {aft : Array Edge} {gd : Option (Nat × Bool)} (hx : f (.tmp x) = .pointer (some ⟨g, 0, none⟩)) :
    (execOp f { dst := d, op := .load 29 (.tmp x), type := ty, pos := pos, after := aft, guard := gd }).run Try.prog w = .ok (.value (.agg cs)) w := by
  have h := st_load_ask w g cs hb hz
  unfold execOp
  simp only [hx, Sem.run_bind, Sem.run_pure, h, Result.andThen_ok]
set_option maxHeartbeats 2000000 in
set_option maxRecDepth 100000 in
theorem walk_e (v1 v2 : Value) (w : World) (a : Ask) (ha : AR (fun i => i < w.heap.size) w v1 a) (hb : AR (fun i => i < w.heap.size) w v2 a) (sa : Sz a) (h : RightP a) :
    Calls Try.prog 7 #[v1, v2] w fun e w' => e = .returned (.bool true) ∧ Below w.heap.size w w' := by
  obtain ⟨kv, vv, av, nv, fv, rfl, _⟩ := ha.ex
  obtain ⟨kv2, vv2, av2, nv2, fv2, rfl, _⟩ := hb.ex
  have hb0 := bel_alloc w (.cells (askV a kv vv av nv fv) 29)
  have bxa := bx_new w a _ ha
  have bxb := bx_new _ a _ (hb.grow hb0)
  have hb1 := bel_alloc (w.alloc (.cells (askV a kv vv av nv fv) 29)) (.cells (askV a kv2 vv2 av2 nv2 fv2) 29)
  replace bxa := bxa.below hb1
  have hB := grow_ hb0 hb1
  rw [show (w.alloc (.cells (askV a kv vv av nv fv) 29)).heap.size = w.heap.size + 1 by simp] at bxb
  clear hb0 hb1 ha hb
  go_enter Try.func7, Try.ntmps7
  go_upto_region 1 with fail
  refine wp_region_lit ?_
  change wpList _ _ _ _ _ ((w.alloc (.cells (askV a kv vv av nv fv) 29)).alloc (.cells (askV a kv2 vv2 av2 nv2 fv2) 29))
  generalize (w.alloc (.cells (askV a kv vv av nv fv) 29)).alloc (.cells (askV a kv2 vv2 av2 nv2 fv2) 29) = W at *
  go_wp2_with (first
    | ((with_reducible refine load_box (op := ⟨some 9, .load 29 (.tmp 2), _, _, _, _⟩) 2 _ _ ?_ rfl ?_ bxa ?_); (· rfl); (· rfl); (intro kv9 vv9 av9 nv9 fv9 har9))
    | ((with_reducible refine load_box (op := ⟨some 13, .load 29 (.tmp 3), _, _, _, _⟩) 3 _ _ ?_ rfl ?_ bxb ?_); (· rfl); (· rfl); (intro kv13 vv13 av13 nv13 fv13 har13))
    | ((with_reducible refine load_box (op := ⟨some 19, .load 29 (.tmp 2), _, _, _, _⟩) 2 _ _ ?_ rfl ?_ bxa ?_); (· rfl); (· rfl); (intro kv19 vv19 av19 nv19 fv19 har19))
    | (go_at_call 12; refine (light_any _ a _ har9 sa).mono ?_; rintro e wl ⟨bl, rfl, hfa, hbz⟩; replace bxa := bxa.below hbz; replace bxb := bxb.below hbz; replace hB := grow_ hB hbz; clear hbz; clear har9; cases bl)
    | (go_at_call 12; refine (light_any _ a _ har13 sa).mono ?_; rintro e wl ⟨bl, rfl, hfb, hbz⟩; replace bxa := bxa.below hbz; replace bxb := bxb.below hbz; replace hB := grow_ hB hbz; clear hbz; clear har13; cases bl)
    | (go_at_call 8; refine (known_any _).mono ?_; rintro e wk ⟨rfl, hbz⟩; replace hB := grow_ (by first | exact hB | exact grow_ hB (bel_alloc _ _)) hbz; clear hbz)
    | (go_at_call 13; refine (enc_yes a _ _ (hfa (by simp)) har19 h).mono ?_; rintro e we ⟨rfl, hbz⟩;  replace bxa := bxa.below hbz; replace bxb := bxb.below hbz; replace hB := grow_ hB hbz; clear hbz; clear har19)
    | ((with_reducible refine load_box (op := ⟨some 24, .load 29 (.tmp 3), _, _, _, _⟩) 3 _ _ ?_ rfl ?_ (bxb.below (bel_alloc _ _)) ?_); (· rfl); (· rfl); (intro kv24 vv24 av24 nv24 fv24 har24); (have b5 := Blk.new we 23 #[.int .u8 (a.kind.toNat : Int), .string (ba (body a))]; have hbz := bel_alloc we (.cells #[.int .u8 (a.kind.toNat : Int), .string (ba (body a))] 23); replace bxa := bxa.below hbz; replace bxb := bxb.below hbz; replace hB := grow_ hB hbz; clear hbz))
    | (go_at_call 13; refine (enc_yes a _ _ (hfb (by simp)) har24 h).mono ?_; rintro e wf ⟨rfl, hbz⟩; replace b5 := b5.below hbz b5.lt; have c50 : wf.cell? ⟨we.heap.size, 0, none⟩ = some (.int .u8 (a.kind.toNat : Int)) := b5.cell 0; have c51 : wf.cell? ⟨we.heap.size, 1, none⟩ = some (.string (ba (body a))) := b5.cell 1; have n5 := Nat.ne_of_lt b5.lt; replace bxa := bxa.below hbz; replace bxb := bxb.below hbz; replace hB := grow_ hB hbz; clear hbz; clear har24))
  all_goals try (go_ret; exact ⟨rfl, hB⟩)
  have b7 := Blk.new wf 23 #[.int .u8 (a.kind.toNat : Int), .string (ba (body a))]
  have hbz := bel_alloc wf (.cells #[.int .u8 (a.kind.toNat : Int), .string (ba (body a))] 23)
  replace b5 := b5.below hbz b5.lt
  replace bxa := bxa.below hbz
  replace bxb := bxb.below hbz
  replace hB := grow_ hB hbz
  clear hbz
  generalize wf.alloc (.cells #[.int .u8 (a.kind.toNat : Int), .string (ba (body a))] 23) = W7 at *
  obtain ⟨ka, va, aa, na, fa, qa, hra⟩ := bxa
  obtain ⟨kb, vb, ab, nb, fb, qb, hrb⟩ := bxb
  have q50 : W7.cell? ⟨we.heap.size, 0, none⟩ = some (.int .u8 (a.kind.toNat : Int)) := b5.cell 0
  have q51 : W7.cell? ⟨we.heap.size, 1, none⟩ = some (.string (ba (body a))) := b5.cell 1
  have q70 : W7.cell? ⟨wf.heap.size, 0, none⟩ = some (.int .u8 (a.kind.toNat : Int)) := b7.cell 0
  have q71 : W7.cell? ⟨wf.heap.size, 1, none⟩ = some (.string (ba (body a))) := b7.cell 1
  have l5 := b5.lt
  have l7 := b7.lt
  have la := qa.lt
  have lb := qb.lt
  clear c50 c51
  refine wp_region_held_drew (S := (fun w' => (w'.cell? ⟨we.heap.size, 0, none⟩ = some (.int .u8 (a.kind.toNat : Int)) ∧ w'.cell? ⟨we.heap.size, 1, none⟩ = some (.string (ba (body a))) ∧ w'.cell? ⟨wf.heap.size, 0, none⟩ = some (.int .u8 (a.kind.toNat : Int)) ∧ w'.cell? ⟨wf.heap.size, 1, none⟩ = some (.string (ba (body a)))) ∧ Blk w' w.heap.size 29 (askV a ka va aa na fa) ∧ Blk w' (w.heap.size + 1) 29 (askV a kb vb ab nb fb) ∧ Below W7.heap.size W7 w')) (by kernel_rfl) ?_ (fun hS => ?_)
  · exact ⟨⟨q50, q51, q70, q71⟩, qa.drew_, qb.drew_, bel_drew _⟩
  try dsimp only at hS
  refine wpAnyH_take (i := 0) (v := ?_) rfl (by kernel_rfl) (by kernel_rfl) (by kernel_rfl) (fun _ _ _ h => h) (Or.inl ⟨by kernel_rfl, ?_⟩) hS ?_
  rotate_left
  · intro wz hSz; try dsimp only at hSz
    go_simp
    all_goals with_reducible rfl
  try simp only [Act.put, List.getElem_toArray, List.getElem_cons_succ, List.getElem_cons_zero, List.setIfInBounds_toArray, List.set_cons_zero, List.set_cons_succ]
  refine wpAnyH_take (i := 1) (v := ?_) rfl (by kernel_rfl) (by kernel_rfl) (by kernel_rfl) (fun _ _ _ h => h) (Or.inl ⟨by kernel_rfl, ?_⟩) hS ?_
  rotate_left
  · intro wz hSz; try dsimp only at hSz
    go_simp
    all_goals with_reducible rfl
  try simp only [Act.put, List.getElem_toArray, List.getElem_cons_succ, List.getElem_cons_zero, List.setIfInBounds_toArray, List.set_cons_zero, List.set_cons_succ]
  refine wpAnyH_take (i := 2) (v := ?_) rfl (by kernel_rfl) (by kernel_rfl) (by kernel_rfl) (fun _ _ _ h => h) (Or.inl ⟨by kernel_rfl, ?_⟩) hS ?_
  rotate_left
  · intro wz hSz; try dsimp only at hSz
    go_simp
    all_goals with_reducible rfl
  try simp only [Act.put, List.getElem_toArray, List.getElem_cons_succ, List.getElem_cons_zero, List.setIfInBounds_toArray, List.set_cons_zero, List.set_cons_succ]
  refine wpAnyH_take (i := 3) (v := ?_) rfl (by kernel_rfl) (by kernel_rfl) (by kernel_rfl) (fun _ _ _ h => h) (Or.inl ⟨by kernel_rfl, ?_⟩) hS ?_
  rotate_left
  · intro wz hSz; try dsimp only at hSz
    simp only [List.getElem_toArray, List.getElem_cons_succ, List.getElem_cons_zero]
    refine lask _ _ _ hSz.2.1 rfl ?_
    rfl
  try simp only [Act.put, List.getElem_toArray, List.getElem_cons_succ, List.getElem_cons_zero, List.setIfInBounds_toArray, List.set_cons_zero, List.set_cons_succ]
  refine wpAnyH_take (i := 4) (v := ?_) rfl (by kernel_rfl) (by kernel_rfl) (by kernel_rfl) (fun _ _ _ h => h) (Or.inl ⟨by kernel_rfl, ?_⟩) hS ?_
  rotate_left
  · intro wz hSz; try dsimp only at hSz
    simp only [List.getElem_toArray, List.getElem_cons_succ, List.getElem_cons_zero]
    refine lask _ _ _ hSz.2.2.1 rfl ?_
    rfl
  try simp only [Act.put, List.getElem_toArray, List.getElem_cons_succ, List.getElem_cons_zero, List.setIfInBounds_toArray, List.set_cons_zero, List.set_cons_succ]
  refine wpAnyH_ready (rs := [5]) (by kernel_rfl) (by simp) (AllReadyH.cons rfl (fun K hK => ?_) AllReadyH.nil)
  go_simp
  (go_at_call 11; refine (alike_yes _ a _ _ (hra.grow hS.2.2.2) (hrb.grow hS.2.2.2) (hfa (by simp)).lens).mono ?_; rintro e wq ⟨rfl, hb⟩)
  refine hK.out _ _ ?_ (fun hSn => ?_)
  · exact ⟨⟨((bcell hb).1 _ _ (Nat.lt_of_lt_of_le l5 hS.2.2.2.size)).trans hS.1.1, ((bcell hb).1 _ _ (Nat.lt_of_lt_of_le l5 hS.2.2.2.size)).trans hS.1.2.1, ((bcell hb).1 _ _ (Nat.lt_of_lt_of_le l7 hS.2.2.2.size)).trans hS.1.2.2.1, ((bcell hb).1 _ _ (Nat.lt_of_lt_of_le l7 hS.2.2.2.size)).trans hS.1.2.2.2⟩, hS.2.1.below hb hS.2.1.lt, hS.2.2.1.below hb hS.2.2.1.lt, grow_ hS.2.2.2 hb⟩
  clear hK K hS
  have hS := hSn
  clear hSn
  try dsimp only at hS
  try simp only [Act.put, List.getElem_toArray, List.getElem_cons_succ, List.getElem_cons_zero, List.setIfInBounds_toArray, List.set_cons_zero, List.set_cons_succ]
  refine wpAnyH_take (i := 6) (v := ?_) rfl (by kernel_rfl) (by kernel_rfl) (by kernel_rfl) (fun _ _ _ h => h) (Or.inl ⟨by kernel_rfl, ?_⟩) hS ?_
  rotate_left
  · intro wz hSz; try dsimp only at hSz
    go_simp
    all_goals with_reducible rfl
  try simp only [Act.put, List.getElem_toArray, List.getElem_cons_succ, List.getElem_cons_zero, List.setIfInBounds_toArray, List.set_cons_zero, List.set_cons_succ]
  refine wpAnyH_take (i := 7) (v := ?_) rfl (by kernel_rfl) (by kernel_rfl) (by kernel_rfl) (fun _ _ _ h => h) (Or.inl ⟨by kernel_rfl, ?_⟩) hS ?_
  rotate_left
  · intro wz hSz; try dsimp only at hSz
    go_simp
    all_goals with_reducible rfl
  try simp only [Act.put, List.getElem_toArray, List.getElem_cons_succ, List.getElem_cons_zero, List.setIfInBounds_toArray, List.set_cons_zero, List.set_cons_succ]
  refine wpAnyH_ready (rs := [8]) (by kernel_rfl) (by simp) (AllReadyH.cons rfl (fun K hK => ?_) AllReadyH.nil)
  go_simp
  (go_at_call 8; refine (known_any _).mono ?_; rintro e wk ⟨rfl, hb⟩)
  refine hK.out _ _ ?_ (fun hSn => ?_)
  · exact ⟨⟨((bcell hb).1 _ _ (Nat.lt_of_lt_of_le l5 hS.2.2.2.size)).trans hS.1.1, ((bcell hb).1 _ _ (Nat.lt_of_lt_of_le l5 hS.2.2.2.size)).trans hS.1.2.1, ((bcell hb).1 _ _ (Nat.lt_of_lt_of_le l7 hS.2.2.2.size)).trans hS.1.2.2.1, ((bcell hb).1 _ _ (Nat.lt_of_lt_of_le l7 hS.2.2.2.size)).trans hS.1.2.2.2⟩, hS.2.1.below hb hS.2.1.lt, hS.2.2.1.below hb hS.2.2.1.lt, grow_ hS.2.2.2 hb⟩
  clear hK K hS
  have hS := hSn
  clear hSn
  try dsimp only at hS
  try simp only [Act.put, List.getElem_toArray, List.getElem_cons_succ, List.getElem_cons_zero, List.setIfInBounds_toArray, List.set_cons_zero, List.set_cons_succ]
  refine wpAnyH_take (i := 9) (v := ?_) rfl (by kernel_rfl) (by kernel_rfl) (by kernel_rfl) (fun _ _ _ h => h) (Or.inl ⟨by kernel_rfl, ?_⟩) hS ?_
  rotate_left
  · intro wz hSz; try dsimp only at hSz
    go_simp
    all_goals with_reducible rfl
  try simp only [Act.put, List.getElem_toArray, List.getElem_cons_succ, List.getElem_cons_zero, List.setIfInBounds_toArray, List.set_cons_zero, List.set_cons_succ]
  refine wpAnyH_take (i := 10) (v := ?_) rfl (by kernel_rfl) (by kernel_rfl) (by kernel_rfl) (fun _ _ _ h => h) (Or.inl ⟨by kernel_rfl, ?_⟩) hS ?_
  rotate_left
  · intro wz hSz; try dsimp only at hSz
    go_simp
    all_goals with_reducible rfl
  try simp only [Act.put, List.getElem_toArray, List.getElem_cons_succ, List.getElem_cons_zero, List.setIfInBounds_toArray, List.set_cons_zero, List.set_cons_succ]
  refine wpAnyH_done (by kernel_rfl) ?_ _
  go_wp2
  go_ret
  exact ⟨rfl, grow_ hB hS.2.2.2⟩
set_option maxHeartbeats 2000000 in
set_option maxRecDepth 100000 in
theorem walk_d (v1 v2 : Value) (w : World) (a b : Ask) (ha : AR (fun i => i < w.heap.size) w v1 a) (hb : AR (fun i => i < w.heap.size) w v2 b) (sa : Sz a) (sb : Sz b) (h : RightP a) (k : RightP b) (hab : Hid (a ≠ b)) (hne : Hid ((a.kind.toNat : Int) = (b.kind.toNat : Int) → (ba (body a)).toList = (ba (body b)).toList → False)) :
    Calls Try.prog 7 #[v1, v2] w fun e w' => e = .returned (.bool true) ∧ Below w.heap.size w w' := by
  obtain ⟨kv, vv, av, nv, fv, rfl, _⟩ := ha.ex
  obtain ⟨kv2, vv2, av2, nv2, fv2, rfl, _⟩ := hb.ex
  have hb0 := bel_alloc w (.cells (askV a kv vv av nv fv) 29)
  have bxa := bx_new w a _ ha
  have bxb := bx_new _ b _ (hb.grow hb0)
  have hb1 := bel_alloc (w.alloc (.cells (askV a kv vv av nv fv) 29)) (.cells (askV b kv2 vv2 av2 nv2 fv2) 29)
  replace bxa := bxa.below hb1
  have hB := grow_ hb0 hb1
  rw [show (w.alloc (.cells (askV a kv vv av nv fv) 29)).heap.size = w.heap.size + 1 by simp] at bxb
  clear hb0 hb1 ha hb
  go_enter Try.func7, Try.ntmps7
  go_upto_region 1 with fail
  refine wp_region_lit ?_
  change wpList _ _ _ _ _ ((w.alloc (.cells (askV a kv vv av nv fv) 29)).alloc (.cells (askV b kv2 vv2 av2 nv2 fv2) 29))
  generalize (w.alloc (.cells (askV a kv vv av nv fv) 29)).alloc (.cells (askV b kv2 vv2 av2 nv2 fv2) 29) = W at *
  go_wp2_with (first
    | ((with_reducible refine load_box (op := ⟨some 9, .load 29 (.tmp 2), _, _, _, _⟩) 2 _ _ ?_ rfl ?_ bxa ?_); (· rfl); (· rfl); (intro kv9 vv9 av9 nv9 fv9 har9))
    | ((with_reducible refine load_box (op := ⟨some 13, .load 29 (.tmp 3), _, _, _, _⟩) 3 _ _ ?_ rfl ?_ bxb ?_); (· rfl); (· rfl); (intro kv13 vv13 av13 nv13 fv13 har13))
    | ((with_reducible refine load_box (op := ⟨some 19, .load 29 (.tmp 2), _, _, _, _⟩) 2 _ _ ?_ rfl ?_ bxa ?_); (· rfl); (· rfl); (intro kv19 vv19 av19 nv19 fv19 har19))
    | (go_at_call 12; refine (light_any _ a _ har9 sa).mono ?_; rintro e wl ⟨bl, rfl, hfa, hbz⟩; replace bxa := bxa.below hbz; replace bxb := bxb.below hbz; replace hB := grow_ hB hbz; clear hbz; clear har9; cases bl)
    | (go_at_call 12; refine (light_any _ b _ har13 sb).mono ?_; rintro e wl ⟨bl, rfl, hfb, hbz⟩; replace bxa := bxa.below hbz; replace bxb := bxb.below hbz; replace hB := grow_ hB hbz; clear hbz; clear har13; cases bl)
    | (go_at_call 8; refine (known_any _).mono ?_; rintro e wk ⟨rfl, hbz⟩; replace hB := grow_ (by first | exact hB | exact grow_ hB (bel_alloc _ _)) hbz; clear hbz)
    | (go_at_call 13; refine (enc_yes a _ _ (hfa (by simp)) har19 h).mono ?_; rintro e we ⟨rfl, hbz⟩;  replace bxa := bxa.below hbz; replace bxb := bxb.below hbz; replace hB := grow_ hB hbz; clear hbz; clear har19)
    | ((with_reducible refine load_box (op := ⟨some 24, .load 29 (.tmp 3), _, _, _, _⟩) 3 _ _ ?_ rfl ?_ (bxb.below (bel_alloc _ _)) ?_); (· rfl); (· rfl); (intro kv24 vv24 av24 nv24 fv24 har24); (have b5 := Blk.new we 23 #[.int .u8 (a.kind.toNat : Int), .string (ba (body a))]; have hbz := bel_alloc we (.cells #[.int .u8 (a.kind.toNat : Int), .string (ba (body a))] 23); replace bxa := bxa.below hbz; replace bxb := bxb.below hbz; replace hB := grow_ hB hbz; clear hbz))
    | (go_at_call 13; refine (enc_yes b _ _ (hfb (by simp)) har24 k).mono ?_; rintro e wf ⟨rfl, hbz⟩; replace b5 := b5.below hbz b5.lt; have c50 : wf.cell? ⟨we.heap.size, 0, none⟩ = some (.int .u8 (a.kind.toNat : Int)) := b5.cell 0; have c51 : wf.cell? ⟨we.heap.size, 1, none⟩ = some (.string (ba (body a))) := b5.cell 1; have n5 := Nat.ne_of_lt b5.lt; replace bxa := bxa.below hbz; replace bxb := bxb.below hbz; replace hB := grow_ hB hbz; clear hbz; clear har24))
  all_goals try (go_ret; exact ⟨rfl, hB⟩)
  have b7 := Blk.new wf 23 #[.int .u8 (b.kind.toNat : Int), .string (ba (body b))]
  have hbz := bel_alloc wf (.cells #[.int .u8 (b.kind.toNat : Int), .string (ba (body b))] 23)
  replace b5 := b5.below hbz b5.lt
  replace bxa := bxa.below hbz
  replace bxb := bxb.below hbz
  replace hB := grow_ hB hbz
  clear hbz
  generalize wf.alloc (.cells #[.int .u8 (b.kind.toNat : Int), .string (ba (body b))] 23) = W7 at *
  obtain ⟨ka, va, aa, na, fa, qa, hra⟩ := bxa
  obtain ⟨kb, vb, ab, nb, fb, qb, hrb⟩ := bxb
  have q50 : W7.cell? ⟨we.heap.size, 0, none⟩ = some (.int .u8 (a.kind.toNat : Int)) := b5.cell 0
  have q51 : W7.cell? ⟨we.heap.size, 1, none⟩ = some (.string (ba (body a))) := b5.cell 1
  have q70 : W7.cell? ⟨wf.heap.size, 0, none⟩ = some (.int .u8 (b.kind.toNat : Int)) := b7.cell 0
  have q71 : W7.cell? ⟨wf.heap.size, 1, none⟩ = some (.string (ba (body b))) := b7.cell 1
  have l5 := b5.lt
  have l7 := b7.lt
  have la := qa.lt
  have lb := qb.lt
  clear c50 c51
  refine wp_region_held_drew (S := (fun w' => (w'.cell? ⟨we.heap.size, 0, none⟩ = some (.int .u8 (a.kind.toNat : Int)) ∧ w'.cell? ⟨we.heap.size, 1, none⟩ = some (.string (ba (body a))) ∧ w'.cell? ⟨wf.heap.size, 0, none⟩ = some (.int .u8 (b.kind.toNat : Int)) ∧ w'.cell? ⟨wf.heap.size, 1, none⟩ = some (.string (ba (body b)))) ∧ Blk w' w.heap.size 29 (askV a ka va aa na fa) ∧ Blk w' (w.heap.size + 1) 29 (askV b kb vb ab nb fb) ∧ Below W7.heap.size W7 w')) (by kernel_rfl) ?_ (fun hS => ?_)
  · exact ⟨⟨q50, q51, q70, q71⟩, qa.drew_, qb.drew_, bel_drew _⟩
  try dsimp only at hS
  refine wpAnyH_take (i := 0) (v := ?_) rfl (by kernel_rfl) (by kernel_rfl) (by kernel_rfl) (fun _ _ _ h => h) (Or.inl ⟨by kernel_rfl, ?_⟩) hS ?_
  rotate_left
  · intro wz hSz; try dsimp only at hSz
    go_simp
    all_goals with_reducible rfl
  try simp only [Act.put, List.getElem_toArray, List.getElem_cons_succ, List.getElem_cons_zero, List.setIfInBounds_toArray, List.set_cons_zero, List.set_cons_succ]
  refine wpAnyH_take (i := 1) (v := ?_) rfl (by kernel_rfl) (by kernel_rfl) (by kernel_rfl) (fun _ _ _ h => h) (Or.inl ⟨by kernel_rfl, ?_⟩) hS ?_
  rotate_left
  · intro wz hSz; try dsimp only at hSz
    go_simp
    all_goals with_reducible rfl
  try simp only [Act.put, List.getElem_toArray, List.getElem_cons_succ, List.getElem_cons_zero, List.setIfInBounds_toArray, List.set_cons_zero, List.set_cons_succ]
  refine wpAnyH_take (i := 2) (v := ?_) rfl (by kernel_rfl) (by kernel_rfl) (by kernel_rfl) (fun _ _ _ h => h) (Or.inl ⟨by kernel_rfl, ?_⟩) hS ?_
  rotate_left
  · intro wz hSz; try dsimp only at hSz
    go_simp
    exact ite2 hne.out
  try simp only [Act.put, List.getElem_toArray, List.getElem_cons_succ, List.getElem_cons_zero, List.setIfInBounds_toArray, List.set_cons_zero, List.set_cons_succ]
  refine wpAnyH_take (i := 3) (v := ?_) rfl (by kernel_rfl) (by kernel_rfl) (by kernel_rfl) (fun _ _ _ h => h) (Or.inl ⟨by kernel_rfl, ?_⟩) hS ?_
  rotate_left
  · intro wz hSz; try dsimp only at hSz
    simp only [List.getElem_toArray, List.getElem_cons_succ, List.getElem_cons_zero]
    refine lask _ _ _ hSz.2.1 rfl ?_
    rfl
  try simp only [Act.put, List.getElem_toArray, List.getElem_cons_succ, List.getElem_cons_zero, List.setIfInBounds_toArray, List.set_cons_zero, List.set_cons_succ]
  refine wpAnyH_take (i := 4) (v := ?_) rfl (by kernel_rfl) (by kernel_rfl) (by kernel_rfl) (fun _ _ _ h => h) (Or.inl ⟨by kernel_rfl, ?_⟩) hS ?_
  rotate_left
  · intro wz hSz; try dsimp only at hSz
    simp only [List.getElem_toArray, List.getElem_cons_succ, List.getElem_cons_zero]
    refine lask _ _ _ hSz.2.2.1 rfl ?_
    rfl
  try simp only [Act.put, List.getElem_toArray, List.getElem_cons_succ, List.getElem_cons_zero, List.setIfInBounds_toArray, List.set_cons_zero, List.set_cons_succ]
  refine wpAnyH_ready (rs := [5]) (by kernel_rfl) (by simp) (AllReadyH.cons rfl (fun K hK => ?_) AllReadyH.nil)
  go_simp
  (go_at_call 11; refine (alike_not _ a b _ _ (hra.grow hS.2.2.2) (hrb.grow hS.2.2.2) (hfa (by simp)).lens (hfb (by simp)).lens hab).mono ?_; rintro e wq ⟨rfl, hb⟩)
  refine hK.out _ _ ?_ (fun hSn => ?_)
  · exact ⟨⟨((bcell hb).1 _ _ (Nat.lt_of_lt_of_le l5 hS.2.2.2.size)).trans hS.1.1, ((bcell hb).1 _ _ (Nat.lt_of_lt_of_le l5 hS.2.2.2.size)).trans hS.1.2.1, ((bcell hb).1 _ _ (Nat.lt_of_lt_of_le l7 hS.2.2.2.size)).trans hS.1.2.2.1, ((bcell hb).1 _ _ (Nat.lt_of_lt_of_le l7 hS.2.2.2.size)).trans hS.1.2.2.2⟩, hS.2.1.below hb hS.2.1.lt, hS.2.2.1.below hb hS.2.2.1.lt, grow_ hS.2.2.2 hb⟩
  clear hK K hS
  have hS := hSn
  clear hSn
  try dsimp only at hS
  try simp only [Act.put, List.getElem_toArray, List.getElem_cons_succ, List.getElem_cons_zero, List.setIfInBounds_toArray, List.set_cons_zero, List.set_cons_succ]
  refine wpAnyH_take (i := 6) (v := ?_) rfl (by kernel_rfl) (by kernel_rfl) (by kernel_rfl) (fun _ _ _ h => h) (Or.inl ⟨by kernel_rfl, ?_⟩) hS ?_
  rotate_left
  · intro wz hSz; try dsimp only at hSz
    go_simp
    all_goals with_reducible rfl
  try simp only [Act.put, List.getElem_toArray, List.getElem_cons_succ, List.getElem_cons_zero, List.setIfInBounds_toArray, List.set_cons_zero, List.set_cons_succ]
  refine wpAnyH_take (i := 7) (v := ?_) rfl (by kernel_rfl) (by kernel_rfl) (by kernel_rfl) (fun _ _ _ h => h) (Or.inl ⟨by kernel_rfl, ?_⟩) hS ?_
  rotate_left
  · intro wz hSz; try dsimp only at hSz
    go_simp
    all_goals with_reducible rfl
  try simp only [Act.put, List.getElem_toArray, List.getElem_cons_succ, List.getElem_cons_zero, List.setIfInBounds_toArray, List.set_cons_zero, List.set_cons_succ]
  refine wpAnyH_ready (rs := [8]) (by kernel_rfl) (by simp) (AllReadyH.cons rfl (fun K hK => ?_) AllReadyH.nil)
  go_simp
  (go_at_call 8; refine (known_any _).mono ?_; rintro e wk ⟨rfl, hb⟩)
  refine hK.out _ _ ?_ (fun hSn => ?_)
  · exact ⟨⟨((bcell hb).1 _ _ (Nat.lt_of_lt_of_le l5 hS.2.2.2.size)).trans hS.1.1, ((bcell hb).1 _ _ (Nat.lt_of_lt_of_le l5 hS.2.2.2.size)).trans hS.1.2.1, ((bcell hb).1 _ _ (Nat.lt_of_lt_of_le l7 hS.2.2.2.size)).trans hS.1.2.2.1, ((bcell hb).1 _ _ (Nat.lt_of_lt_of_le l7 hS.2.2.2.size)).trans hS.1.2.2.2⟩, hS.2.1.below hb hS.2.1.lt, hS.2.2.1.below hb hS.2.2.1.lt, grow_ hS.2.2.2 hb⟩
  clear hK K hS
  have hS := hSn
  clear hSn
  try dsimp only at hS
  try simp only [Act.put, List.getElem_toArray, List.getElem_cons_succ, List.getElem_cons_zero, List.setIfInBounds_toArray, List.set_cons_zero, List.set_cons_succ]
  refine wpAnyH_take (i := 9) (v := ?_) rfl (by kernel_rfl) (by kernel_rfl) (by kernel_rfl) (fun _ _ _ h => h) (Or.inl ⟨by kernel_rfl, ?_⟩) hS ?_
  rotate_left
  · intro wz hSz; try dsimp only at hSz
    go_simp
    all_goals with_reducible rfl
  try simp only [Act.put, List.getElem_toArray, List.getElem_cons_succ, List.getElem_cons_zero, List.setIfInBounds_toArray, List.set_cons_zero, List.set_cons_succ]
  refine wpAnyH_take (i := 10) (v := ?_) rfl (by kernel_rfl) (by kernel_rfl) (by kernel_rfl) (fun _ _ _ h => h) (Or.inl ⟨by kernel_rfl, ?_⟩) hS ?_
  rotate_left
  · intro wz hSz; try dsimp only at hSz
    go_simp
    all_goals with_reducible rfl
  try simp only [Act.put, List.getElem_toArray, List.getElem_cons_succ, List.getElem_cons_zero, List.setIfInBounds_toArray, List.set_cons_zero, List.set_cons_succ]
  refine wpAnyH_done (by kernel_rfl) ?_ _
  go_wp2
  go_ret
  exact ⟨rfl, grow_ hB hS.2.2.2⟩

theorem walk (v1 v2 : Value) {W : World} (h1 : FitsA W v1) (h2 : FitsA W v2) : Calls Try.prog 7 #[v1, v2] W fun e w' => e = .returned (.bool true) ∧ Below W.heap.size W w' := by
  obtain ⟨a, ha, sa⟩ := h1
  obtain ⟨b, hb, sb⟩ := h2
  by_cases h : RightP a
  · by_cases k : RightP b
    · by_cases e : a = b
      · subst e
        exact walk_e v1 v2 W a ha hb sa h
      · refine walk_d v1 v2 W a b ha hb sa sb h k (Lib.hid e) (Lib.hid fun q z => e (right_inj h k ?_ ?_))
        · exact UInt8.toNat_inj.1 (by omega)
        · rw [Lib.toList_data, Lib.toList_data, ba_list, ba_list] at z
          exact z
    · exact walk_m v1 v2 W a b ha hb sa sb h k
  · exact walk_n v1 v2 W a b ha hb sa sb h

theorem own : ownKnob Try.prog.godebug = none := by kernel_rfl
theorem laidOut : laidOutB Try.prog = true := by kernel_rfl
theorem weights_at {H : Type} {P : Program} {ts : List TypeId} {ds : List (DataW H)} (h : (DataW.weightsEach P ts ds).all (· ≤ reachBytes) = true) (j : Nat) {t : TypeId} {d : DataW H} (ht : ts[j]? = some t) (hd : ds[j]? = some d) : (DataW.weights P t d).all (· ≤ reachBytes) = true :=
  List.all_eq_true.2 fun x hx => List.all_eq_true.1 h x (DataW.weights_mem_each ht hd x hx)

set_option maxRecDepth 100000 in
theorem lifted (os : Os) (started : os.Started) (H : Type) (enc : TypeId × Value → H) :
    ReturnsInHanded {} Try.checked os 7 .any (Rows.frontOnceSpec.pre6 enc Try.prog Try.f7 Rows.frontOnceRow.domain false) (Rows.frontOnceSpec.post enc Try.prog Try.f7 false true false false) := by
  refine returnsInHanded_of_change_sized (C := Try.checked) own started (by kernel_rfl) Try.func7
    (ChangeSpec.witness6 (enc := enc) (C := Try.checked) false ⟨#[], #[.agg #[.int .u8 0, .string ByteArray.empty, .string ByteArray.empty, .string ByteArray.empty, .slice none 0 0, .slice none 0 0, .slice none 0 0, .slice none 0 0, .slice none 0 0, .int .i64 0, .int .u8 0, .bool false, .int .i64 0, .int .i64 0], .agg #[.int .u8 0, .string ByteArray.empty, .string ByteArray.empty, .string ByteArray.empty, .slice none 0 0, .slice none 0 0, .slice none 0 0, .slice none 0 0, .slice none 0 0, .int .i64 0, .int .u8 0, .bool false, .int .i64 0, .int .i64 0]], []⟩ 8 (by kernel_rfl) (by kernel_rfl) (by kernel_rfl) (by kernel_rfl)) ?_
  intro W base args ds gs before hval0 hW hcnd hsz0 _
  have hsz : (DataW.weightsEach Try.prog (Try.f7.params.toList ++ Rows.frontOnceSpec.plain.varTypes Try.prog) (ds ++ gs)).all (· ≤ reachBytes) = true := hsz0
  clear hsz0
  have hval : ∀ (j : Nat) t v, Try.f7.params[j]? = some t → args[j]? = some v → Value.okWide Try.prog W .any base t v := hval0
  have hW' := hW
  obtain ⟨p, q, hA0, hV, rfl, hfz, hnd⟩ := hW
  have hA : DataW.TrodAll enc Try.prog W 0 (fun _ => true) true Try.f7.params.toList args.toList ds p := hA0
  rw [Try.params7] at hA hval hsz
  obtain ⟨v0, vs0, d0, ds0, p0, q0, hargs, rfl, rfl, h0, r0⟩ := trodAll_cons hA
  obtain ⟨v1, vs1, d1, ds1, p1, q1, rfl, rfl, rfl, h1, r1⟩ := trodAll_cons r0
  obtain ⟨rfl, rfl, rfl⟩ := trodAll_nil r1
  obtain rfl : args = #[v0, v1] := by cases args; simp_all
  obtain ⟨rfl, rfl⟩ := trodVars_none hV
  have k0 := h0
  have lt0 : ∀ x ∈ p0, x.block < W.heap.size := by obtain ⟨m, hm⟩ := k0; exact DataW.trod_lt m _ _ _ hm
  have f0 := openedA (hval 0 29 v0 rfl rfl) h0 (weights_at hsz 0 rfl rfl)
  have k1 := h1
  have lt1 : ∀ x ∈ p1, x.block < W.heap.size := by obtain ⟨m, hm⟩ := k1; exact DataW.trod_lt m _ _ _ hm
  have f1 := openedA (hval 1 29 v1 rfl rfl) h1 (weights_at hsz 1 rfl rfl)
  clear hA0 hval0
  refine (walk v0 v1 f0 f1).mono fun e W' ⟨he, bel⟩ => ?_
  subst he
  exact ⟨_, rfl, _, _, _, [], _, [], hW', trodAll_mk1 (shut_bool Try.underlying4 _), (trodAll_cons_mk (Below.trod laidOut (by kernel_rfl) (of_decide_eq_true (by kernel_rfl)) k0 bel lt0) (trodAll_cons_mk (Below.trod laidOut (by kernel_rfl) (of_decide_eq_true (by kernel_rfl)) k1 bel lt1) trodAll_mk0)), rfl, bel.frame _, fun h => by cases h⟩

theorem over : Rows.frontOnceRow.holds Try.pinned (OpenSpec.ofChange Rows.frontOnceSpec) :=
  OpenClaim.holds_of_wide 7 Try.f7 rfl rfl rfl rfl rfl rfl rfl ⟨rfl, rfl, rfl, rfl, rfl⟩ rfl rfl rfl rfl rfl (by kernel_rfl) Try.func7 (by kernel_rfl)
    (of_decide_eq_true (by kernel_rfl)) (by unfold Func.isWrapper; rw [if_neg (by decide +kernel)]; exact ⟨rfl, rfl⟩)
    (fun os started H enc _ => lifted os started H enc)

theorem proved : Rows.FrontOnceSaid := over
end Go.Proofs.Ytojgeilihoilnaa.frontOnce
