/- FrontBack (layer 3): for every ask and every message the law returns true and its arguments read as before: what is encoded is decoded as it was; what is decoded is right, and encoded as it was. No condition but the form's own reach. -/
import Derived.Test.YtojgeilihoilnaaM16
import Derived.SizedLaws
import Derived.ChangeOld
import Derived.Carry
namespace Go.Proofs.Ytojgeilihoilnaa.frontBack
open Go.ChangeShapes Go.WideShapes Go.ChangeAt Go.RowKit
open Go.ChangeMaps (open_string shut_string)
set_option linter.unusedVariables false
set_option linter.unusedSimpArgs false

/-- what the ask gives: encoded, right -/
structure AskIs (a : Ask) (y : Bool) (k5 : Int) (s5 : ByteArray) (c5 : Int) : Prop where
  enc : ∀ (v : Value) (w : World), Few a → AR (fun i => i < w.heap.size) w v a → Calls Try.prog 13 #[v] w fun e w' => e = .returned (.tuple #[.agg #[.int .u8 k5, .string s5], .int .i64 c5]) ∧ Below w.heap.size w w'
  right : ∀ (v : Value) (w : World), Few a → AR (fun i => i < w.heap.size) w v a → Calls Try.prog 15 #[v] w fun e w' => e = .returned (.bool y) ∧ Below w.heap.size w w'
/-- what a message gives: decoded -/
structure MsgIs (k : Int) (s : ByteArray) (r : Ask) (c : Int) : Prop where
  go : ∀ w : World, Calls Try.prog 9 #[.agg #[.int .u8 k, .string s]] w fun e w' => ∃ v, e = .returned (.tuple #[.agg v, .int .i64 c]) ∧ AR (fun b => b < w'.heap.size) w' (.agg v) r ∧ Below w.heap.size w w'
theorem ask_yes {a : Ask} (h : RightP a) : AskIs a true (a.kind.toNat : Int) (ba (body a)) 0 := ⟨fun v w f har => enc_yes a v w f har h, fun v w f har => right_yes a v w f har h⟩
theorem ask_no {a : Ask} (h : ¬ RightP a) : AskIs a false 0 ⟨#[]⟩ 4 := ⟨fun v w f har => enc_no a v w f har h, fun v w f har => right_no a v w f har h⟩
theorem msg_is (k : UInt8) (s : ByteArray) (r : Ask) (c : Int) (e : decP k s.data.toList = (r, c)) (hs : s.size ≤ 1099511627776) : MsgIs (k.toNat : Int) s r c := ⟨fun w => dec_lit k _ s r c rfl e hs w⟩
theorem alike_yes2 (w : World) (a : Ask) (v1 v2 : Value) (h1 : AR (fun i => i < w.heap.size) w v1 a) (h2 : AR (fun i => i < w.heap.size) w v2 a) (l1 : Few a) :
    Calls Try.prog 11 #[v1, v2] w fun e w' => e = .returned (.bool true) ∧ Below w.heap.size w w' := alike_yes w a v1 v2 h1 h2 l1.lens

set_option maxHeartbeats 2000000 in
set_option maxRecDepth 100000 in
theorem walk_l (v1 : Value) (w : World) (a : Ask) (ha : AR (fun i => i < w.heap.size) w v1 a) (sa : Sz a) (k : Int) (s : ByteArray) (hl : 6000 < s.size) :
    Calls Try.prog 5 #[v1, .agg #[.int .u8 k, .string s]] w fun e w' => e = .returned (.bool true) ∧ Below w.heap.size w w' := by
  obtain ⟨kv, vv, av, nv, fv, rfl, _⟩ := ha.ex
  have hb0 := bel_alloc w (.cells (askV a kv vv av nv fv) 29)
  have hb1 := bel_alloc (w.alloc (.cells (askV a kv vv av nv fv) 29)) (.cells #[.int .u8 k, .string s] 23)
  have bxa := (bx_new w a _ ha).below hb1
  have bm := Blk.new (w.alloc (.cells (askV a kv vv av nv fv) 29)) 23 #[.int .u8 k, .string s]
  rw [show (w.alloc (.cells (askV a kv vv av nv fv) 29)).heap.size = w.heap.size + 1 by simp] at bm
  have hB := grow_ hb0 hb1
  clear ha hb0 hb1
  go_enter Try.func5, Try.ntmps5
  go_upto_region 1 with fail
  refine wp_region_lit ?_
  change wpList _ _ _ _ _ ((w.alloc (.cells (askV a kv vv av nv fv) 29)).alloc (.cells #[.int .u8 k, .string s] 23))
  generalize (w.alloc (.cells (askV a kv vv av nv fv) 29)).alloc (.cells #[.int .u8 k, .string s] 23) = W at *
  have m0 : W.cell? ⟨w.heap.size + 1, 0, none⟩ = some (.int .u8 k) := bm.cell 0
  have m1 : W.cell? ⟨w.heap.size + 1, 1, none⟩ = some (.string s) := bm.cell 1
  go_wp2_with (first
    | ((with_reducible refine load_box (op := ⟨some 13, .load 29 (.tmp 2), _, _, _, _⟩) 2 _ _ ?_ rfl ?_ bxa ?_); (· rfl); (· rfl); (intro kv13 vv13 av13 nv13 fv13 har13))
    | ((with_reducible refine load_box (op := ⟨some 24, .load 29 (.tmp 2), _, _, _, _⟩) 2 _ _ ?_ rfl ?_ bxa ?_); (· rfl); (· rfl); (intro kv24 vv24 av24 nv24 fv24 har24))
    | ((with_reducible refine load_box (op := ⟨some 30, .load 29 (.tmp 2), _, _, _, _⟩) 2 _ _ ?_ rfl ?_ (bxa.below (bel_alloc _ _)) ?_); (· rfl); (· rfl); (intro kv30 vv30 av30 nv30 fv30 har30); (have b5 := Blk.new we 23 #[.int .u8 k5, .string s5]; have hbz := bel_alloc we (.cells #[.int .u8 k5, .string s5] 23); replace bxa := bxa.below hbz; replace bm := bm.below hbz bm.lt; replace hB := grow_ hB hbz; clear hbz; have m0 : (we.alloc (.cells #[.int .u8 k5, .string s5] 23)).cell? ⟨w.heap.size + 1, 0, none⟩ = some (.int .u8 k) := bm.cell 0; have m1 : (we.alloc (.cells #[.int .u8 k5, .string s5] 23)).cell? ⟨w.heap.size + 1, 1, none⟩ = some (.string s) := bm.cell 1))
    | (go_at_call 12; refine (light_any _ a _ har13 sa).mono ?_; rintro e wl ⟨bl, rfl, hfa, hbz⟩; replace bxa := bxa.below hbz; replace bm := bm.below hbz bm.lt; replace hB := grow_ hB hbz; clear hbz; have m0 : wl.cell? ⟨w.heap.size + 1, 0, none⟩ = some (.int .u8 k) := bm.cell 0; have m1 : wl.cell? ⟨w.heap.size + 1, 1, none⟩ = some (.string s) := bm.cell 1; clear har13; cases bl)
    | (go_at_call 8; refine (known_any _).mono ?_; rintro e wk ⟨rfl, hbz⟩; replace hB := grow_ (by first | exact hB | exact grow_ hB (bel_alloc _ _)) hbz; clear hbz)
    | (go_at_call 13; refine (HA.out.enc _ _ (hfa (by simp)) har24).mono ?_; rintro e we ⟨rfl, hbz⟩; replace bxa := bxa.below hbz; replace bm := bm.below hbz bm.lt; replace hB := grow_ hB hbz; clear hbz; have m0 : we.cell? ⟨w.heap.size + 1, 0, none⟩ = some (.int .u8 k) := bm.cell 0; have m1 : we.cell? ⟨w.heap.size + 1, 1, none⟩ = some (.string s) := bm.cell 1; clear har24)
    | (go_at_call 15; refine (HA.out.right _ _ (hfa (by simp)) har30).mono ?_; rintro e wr ⟨rfl, hbz⟩; replace b5 := b5.below hbz b5.lt; replace bxa := bxa.below hbz; replace bm := bm.below hbz bm.lt; replace hB := grow_ hB hbz; clear hbz; have m0 : wr.cell? ⟨w.heap.size + 1, 0, none⟩ = some (.int .u8 k) := bm.cell 0; have m1 : wr.cell? ⟨w.heap.size + 1, 1, none⟩ = some (.string s) := bm.cell 1; have n50 : wr.cell? ⟨we.heap.size, 0, none⟩ = some (.int .u8 k5) := b5.cell 0; have n51 : wr.cell? ⟨we.heap.size, 1, none⟩ = some (.string s5) := b5.cell 1; clear har30))
  all_goals
    go_ret
    exact ⟨rfl, hB⟩
set_option maxHeartbeats 2000000 in
set_option maxRecDepth 100000 in
theorem walk_nn (v1 : Value) (w : World) (a : Ask) (ha : AR (fun i => i < w.heap.size) w v1 a) (sa : Sz a) (k : Int) (s : ByteArray) (hl : s.size ≤ 6000) (HA : Hid (AskIs a false 0 ⟨#[]⟩ 4)) (r : Ask) (c : Int) (hc : c ≠ 0) (HM : Hid (MsgIs k s r c)) :
    Calls Try.prog 5 #[v1, .agg #[.int .u8 k, .string s]] w fun e w' => e = .returned (.bool true) ∧ Below w.heap.size w w' := by
  obtain ⟨kv, vv, av, nv, fv, rfl, _⟩ := ha.ex
  have hb0 := bel_alloc w (.cells (askV a kv vv av nv fv) 29)
  have hb1 := bel_alloc (w.alloc (.cells (askV a kv vv av nv fv) 29)) (.cells #[.int .u8 k, .string s] 23)
  have bxa := (bx_new w a _ ha).below hb1
  have bm := Blk.new (w.alloc (.cells (askV a kv vv av nv fv) 29)) 23 #[.int .u8 k, .string s]
  rw [show (w.alloc (.cells (askV a kv vv av nv fv) 29)).heap.size = w.heap.size + 1 by simp] at bm
  have hB := grow_ hb0 hb1
  clear ha hb0 hb1
  go_enter Try.func5, Try.ntmps5
  go_upto_region 1 with fail
  refine wp_region_lit ?_
  change wpList _ _ _ _ _ ((w.alloc (.cells (askV a kv vv av nv fv) 29)).alloc (.cells #[.int .u8 k, .string s] 23))
  generalize (w.alloc (.cells (askV a kv vv av nv fv) 29)).alloc (.cells #[.int .u8 k, .string s] 23) = W at *
  have m0 : W.cell? ⟨w.heap.size + 1, 0, none⟩ = some (.int .u8 k) := bm.cell 0
  have m1 : W.cell? ⟨w.heap.size + 1, 1, none⟩ = some (.string s) := bm.cell 1
  go_wp2_with (first
    | ((with_reducible refine load_box (op := ⟨some 13, .load 29 (.tmp 2), _, _, _, _⟩) 2 _ _ ?_ rfl ?_ bxa ?_); (· rfl); (· rfl); (intro kv13 vv13 av13 nv13 fv13 har13))
    | ((with_reducible refine load_box (op := ⟨some 24, .load 29 (.tmp 2), _, _, _, _⟩) 2 _ _ ?_ rfl ?_ bxa ?_); (· rfl); (· rfl); (intro kv24 vv24 av24 nv24 fv24 har24))
    | ((with_reducible refine load_box (op := ⟨some 30, .load 29 (.tmp 2), _, _, _, _⟩) 2 _ _ ?_ rfl ?_ (bxa.below (bel_alloc _ _)) ?_); (· rfl); (· rfl); (intro kv30 vv30 av30 nv30 fv30 har30); (have b5 := Blk.new we 23 #[.int .u8 0, .string ⟨#[]⟩]; have hbz := bel_alloc we (.cells #[.int .u8 0, .string ⟨#[]⟩] 23); replace bxa := bxa.below hbz; replace bm := bm.below hbz bm.lt; replace hB := grow_ hB hbz; clear hbz; have m0 : (we.alloc (.cells #[.int .u8 0, .string ⟨#[]⟩] 23)).cell? ⟨w.heap.size + 1, 0, none⟩ = some (.int .u8 k) := bm.cell 0; have m1 : (we.alloc (.cells #[.int .u8 0, .string ⟨#[]⟩] 23)).cell? ⟨w.heap.size + 1, 1, none⟩ = some (.string s) := bm.cell 1))
    | (go_at_call 12; refine (light_any _ a _ har13 sa).mono ?_; rintro e wl ⟨bl, rfl, hfa, hbz⟩; replace bxa := bxa.below hbz; replace bm := bm.below hbz bm.lt; replace hB := grow_ hB hbz; clear hbz; have m0 : wl.cell? ⟨w.heap.size + 1, 0, none⟩ = some (.int .u8 k) := bm.cell 0; have m1 : wl.cell? ⟨w.heap.size + 1, 1, none⟩ = some (.string s) := bm.cell 1; clear har13; cases bl)
    | (go_at_call 8; refine (known_any _).mono ?_; rintro e wk ⟨rfl, hbz⟩; replace hB := grow_ (by first | exact hB | exact grow_ hB (bel_alloc _ _)) hbz; clear hbz)
    | (go_at_call 13; refine (HA.out.enc _ _ (hfa (by simp)) har24).mono ?_; rintro e we ⟨rfl, hbz⟩; replace bxa := bxa.below hbz; replace bm := bm.below hbz bm.lt; replace hB := grow_ hB hbz; clear hbz; have m0 : we.cell? ⟨w.heap.size + 1, 0, none⟩ = some (.int .u8 k) := bm.cell 0; have m1 : we.cell? ⟨w.heap.size + 1, 1, none⟩ = some (.string s) := bm.cell 1; clear har24)
    | (go_at_call 15; refine (HA.out.right _ _ (hfa (by simp)) har30).mono ?_; rintro e wr ⟨rfl, hbz⟩; replace b5 := b5.below hbz b5.lt; replace bxa := bxa.below hbz; replace bm := bm.below hbz bm.lt; replace hB := grow_ hB hbz; clear hbz; have m0 : wr.cell? ⟨w.heap.size + 1, 0, none⟩ = some (.int .u8 k) := bm.cell 0; have m1 : wr.cell? ⟨w.heap.size + 1, 1, none⟩ = some (.string s) := bm.cell 1; have n50 : wr.cell? ⟨we.heap.size, 0, none⟩ = some (.int .u8 0) := b5.cell 0; have n51 : wr.cell? ⟨we.heap.size, 1, none⟩ = some (.string ⟨#[]⟩) := b5.cell 1; clear har30)
    | (go_at_call 9; (with_reducible refine (HN.out.go _).mono ?_); rintro e w7 ⟨v7, rfl, har7, hbz⟩; replace b5 := b5.below hbz b5.lt; replace bxa := bxa.below hbz; replace bm := bm.below hbz bm.lt; replace hB := grow_ hB hbz; clear hbz; have m0 : w7.cell? ⟨w.heap.size + 1, 0, none⟩ = some (.int .u8 k) := bm.cell 0; have m1 : w7.cell? ⟨w.heap.size + 1, 1, none⟩ = some (.string s) := bm.cell 1; have n50 : w7.cell? ⟨we.heap.size, 0, none⟩ = some (.int .u8 0) := b5.cell 0; have n51 : w7.cell? ⟨we.heap.size, 1, none⟩ = some (.string ⟨#[]⟩) := b5.cell 1)
    | (go_at_call 9; (with_reducible refine (HM.out.go _).mono ?_); rintro e w10 ⟨v10, rfl, har10, hbz⟩; replace bxa := bxa.below hbz; replace bm := bm.below hbz bm.lt; replace hB := grow_ hB hbz; clear hbz; have m0 : w10.cell? ⟨w.heap.size + 1, 0, none⟩ = some (.int .u8 k) := bm.cell 0; have m1 : w10.cell? ⟨w.heap.size + 1, 1, none⟩ = some (.string s) := bm.cell 1)
    | ((with_reducible refine store_box (op := ⟨none, .store 29 (.tmp 7) (.tmp 38), _, _, _, _⟩) 7 38 _ _ _ ?_ rfl rfl ?_ ?_ har7 ?_); (· rfl); (· rfl); (· rfl); (intro W7 bx7 hbz; replace b5 := b5.below hbz b5.lt; replace bxa := bxa.below hbz; replace bm := bm.below hbz bm.lt; replace hB := grow_ hB hbz; clear hbz; have m0 : W7.cell? ⟨w.heap.size + 1, 0, none⟩ = some (.int .u8 k) := bm.cell 0; have m1 : W7.cell? ⟨w.heap.size + 1, 1, none⟩ = some (.string s) := bm.cell 1; have n50 : W7.cell? ⟨we.heap.size, 0, none⟩ = some (.int .u8 0) := b5.cell 0; have n51 : W7.cell? ⟨we.heap.size, 1, none⟩ = some (.string ⟨#[]⟩) := b5.cell 1; clear har7))
    | ((with_reducible refine store_box (op := ⟨none, .store 29 (.tmp 9) (.tmp 51), _, _, _, _⟩) 9 51 _ _ _ ?_ rfl rfl ?_ ?_ har10 ?_); (· rfl); (· rfl); (· rfl); (intro W9 bx9 hbz; replace bxa := bxa.below hbz; replace bm := bm.below hbz bm.lt; replace hB := grow_ hB hbz; clear hbz; have m0 : W9.cell? ⟨w.heap.size + 1, 0, none⟩ = some (.int .u8 k) := bm.cell 0; have m1 : W9.cell? ⟨w.heap.size + 1, 1, none⟩ = some (.string s) := bm.cell 1; clear har10))
    | ((with_reducible refine load_box (op := ⟨some 43, .load 29 (.tmp 2), _, _, _, _⟩) 2 _ _ ?_ rfl ?_ bxa ?_); (· rfl); (· rfl); (intro kv43 vv43 av43 nv43 fv43 har43))
    | ((with_reducible refine load_box (op := ⟨some 44, .load 29 (.tmp 7), _, _, _, _⟩) 7 _ _ ?_ rfl ?_ bx7 ?_); (· rfl); (· rfl); (intro kv44 vv44 av44 nv44 fv44 har44))
    | (go_at_call 11; refine (alike_yes2 _ a _ _ har43 har44 (hfa (by simp))).mono ?_; rintro e wq ⟨rfl, hbz⟩; replace b5 := b5.below hbz b5.lt; replace bxa := bxa.below hbz; replace bm := bm.below hbz bm.lt; replace hB := grow_ hB hbz; clear hbz; have m0 : wq.cell? ⟨w.heap.size + 1, 0, none⟩ = some (.int .u8 k) := bm.cell 0; have m1 : wq.cell? ⟨w.heap.size + 1, 1, none⟩ = some (.string s) := bm.cell 1; have n50 : wq.cell? ⟨we.heap.size, 0, none⟩ = some (.int .u8 0) := b5.cell 0; have n51 : wq.cell? ⟨we.heap.size, 1, none⟩ = some (.string ⟨#[]⟩) := b5.cell 1; clear har43 har44 bx7))
  all_goals
    go_ret
    exact ⟨rfl, hB⟩
set_option maxHeartbeats 2000000 in
set_option maxRecDepth 100000 in
theorem walk_yn (v1 : Value) (w : World) (a : Ask) (ha : AR (fun i => i < w.heap.size) w v1 a) (sa : Sz a) (k : Int) (s : ByteArray) (k5 : Int) (s5 : ByteArray) (hl : s.size ≤ 6000) (HA : Hid (AskIs a true k5 s5 0)) (HN : Hid (MsgIs k5 s5 a 0)) (r : Ask) (c : Int) (hc : c ≠ 0) (HM : Hid (MsgIs k s r c)) :
    Calls Try.prog 5 #[v1, .agg #[.int .u8 k, .string s]] w fun e w' => e = .returned (.bool true) ∧ Below w.heap.size w w' := by
  obtain ⟨kv, vv, av, nv, fv, rfl, _⟩ := ha.ex
  have hb0 := bel_alloc w (.cells (askV a kv vv av nv fv) 29)
  have hb1 := bel_alloc (w.alloc (.cells (askV a kv vv av nv fv) 29)) (.cells #[.int .u8 k, .string s] 23)
  have bxa := (bx_new w a _ ha).below hb1
  have bm := Blk.new (w.alloc (.cells (askV a kv vv av nv fv) 29)) 23 #[.int .u8 k, .string s]
  rw [show (w.alloc (.cells (askV a kv vv av nv fv) 29)).heap.size = w.heap.size + 1 by simp] at bm
  have hB := grow_ hb0 hb1
  clear ha hb0 hb1
  go_enter Try.func5, Try.ntmps5
  go_upto_region 1 with fail
  refine wp_region_lit ?_
  change wpList _ _ _ _ _ ((w.alloc (.cells (askV a kv vv av nv fv) 29)).alloc (.cells #[.int .u8 k, .string s] 23))
  generalize (w.alloc (.cells (askV a kv vv av nv fv) 29)).alloc (.cells #[.int .u8 k, .string s] 23) = W at *
  have m0 : W.cell? ⟨w.heap.size + 1, 0, none⟩ = some (.int .u8 k) := bm.cell 0
  have m1 : W.cell? ⟨w.heap.size + 1, 1, none⟩ = some (.string s) := bm.cell 1
  go_wp2_with (first
    | ((with_reducible refine load_box (op := ⟨some 13, .load 29 (.tmp 2), _, _, _, _⟩) 2 _ _ ?_ rfl ?_ bxa ?_); (· rfl); (· rfl); (intro kv13 vv13 av13 nv13 fv13 har13))
    | ((with_reducible refine load_box (op := ⟨some 24, .load 29 (.tmp 2), _, _, _, _⟩) 2 _ _ ?_ rfl ?_ bxa ?_); (· rfl); (· rfl); (intro kv24 vv24 av24 nv24 fv24 har24))
    | ((with_reducible refine load_box (op := ⟨some 30, .load 29 (.tmp 2), _, _, _, _⟩) 2 _ _ ?_ rfl ?_ (bxa.below (bel_alloc _ _)) ?_); (· rfl); (· rfl); (intro kv30 vv30 av30 nv30 fv30 har30); (have b5 := Blk.new we 23 #[.int .u8 k5, .string s5]; have hbz := bel_alloc we (.cells #[.int .u8 k5, .string s5] 23); replace bxa := bxa.below hbz; replace bm := bm.below hbz bm.lt; replace hB := grow_ hB hbz; clear hbz; have m0 : (we.alloc (.cells #[.int .u8 k5, .string s5] 23)).cell? ⟨w.heap.size + 1, 0, none⟩ = some (.int .u8 k) := bm.cell 0; have m1 : (we.alloc (.cells #[.int .u8 k5, .string s5] 23)).cell? ⟨w.heap.size + 1, 1, none⟩ = some (.string s) := bm.cell 1))
    | (go_at_call 12; refine (light_any _ a _ har13 sa).mono ?_; rintro e wl ⟨bl, rfl, hfa, hbz⟩; replace bxa := bxa.below hbz; replace bm := bm.below hbz bm.lt; replace hB := grow_ hB hbz; clear hbz; have m0 : wl.cell? ⟨w.heap.size + 1, 0, none⟩ = some (.int .u8 k) := bm.cell 0; have m1 : wl.cell? ⟨w.heap.size + 1, 1, none⟩ = some (.string s) := bm.cell 1; clear har13; cases bl)
    | (go_at_call 8; refine (known_any _).mono ?_; rintro e wk ⟨rfl, hbz⟩; replace hB := grow_ (by first | exact hB | exact grow_ hB (bel_alloc _ _)) hbz; clear hbz)
    | (go_at_call 13; refine (HA.out.enc _ _ (hfa (by simp)) har24).mono ?_; rintro e we ⟨rfl, hbz⟩; replace bxa := bxa.below hbz; replace bm := bm.below hbz bm.lt; replace hB := grow_ hB hbz; clear hbz; have m0 : we.cell? ⟨w.heap.size + 1, 0, none⟩ = some (.int .u8 k) := bm.cell 0; have m1 : we.cell? ⟨w.heap.size + 1, 1, none⟩ = some (.string s) := bm.cell 1; clear har24)
    | (go_at_call 15; refine (HA.out.right _ _ (hfa (by simp)) har30).mono ?_; rintro e wr ⟨rfl, hbz⟩; replace b5 := b5.below hbz b5.lt; replace bxa := bxa.below hbz; replace bm := bm.below hbz bm.lt; replace hB := grow_ hB hbz; clear hbz; have m0 : wr.cell? ⟨w.heap.size + 1, 0, none⟩ = some (.int .u8 k) := bm.cell 0; have m1 : wr.cell? ⟨w.heap.size + 1, 1, none⟩ = some (.string s) := bm.cell 1; have n50 : wr.cell? ⟨we.heap.size, 0, none⟩ = some (.int .u8 k5) := b5.cell 0; have n51 : wr.cell? ⟨we.heap.size, 1, none⟩ = some (.string s5) := b5.cell 1; clear har30)
    | (go_at_call 9; (with_reducible refine (HN.out.go _).mono ?_); rintro e w7 ⟨v7, rfl, har7, hbz⟩; replace b5 := b5.below hbz b5.lt; replace bxa := bxa.below hbz; replace bm := bm.below hbz bm.lt; replace hB := grow_ hB hbz; clear hbz; have m0 : w7.cell? ⟨w.heap.size + 1, 0, none⟩ = some (.int .u8 k) := bm.cell 0; have m1 : w7.cell? ⟨w.heap.size + 1, 1, none⟩ = some (.string s) := bm.cell 1; have n50 : w7.cell? ⟨we.heap.size, 0, none⟩ = some (.int .u8 k5) := b5.cell 0; have n51 : w7.cell? ⟨we.heap.size, 1, none⟩ = some (.string s5) := b5.cell 1)
    | (go_at_call 9; (with_reducible refine (HM.out.go _).mono ?_); rintro e w10 ⟨v10, rfl, har10, hbz⟩; replace bxa := bxa.below hbz; replace bm := bm.below hbz bm.lt; replace hB := grow_ hB hbz; clear hbz; have m0 : w10.cell? ⟨w.heap.size + 1, 0, none⟩ = some (.int .u8 k) := bm.cell 0; have m1 : w10.cell? ⟨w.heap.size + 1, 1, none⟩ = some (.string s) := bm.cell 1)
    | ((with_reducible refine store_box (op := ⟨none, .store 29 (.tmp 7) (.tmp 38), _, _, _, _⟩) 7 38 _ _ _ ?_ rfl rfl ?_ ?_ har7 ?_); (· rfl); (· rfl); (· rfl); (intro W7 bx7 hbz; replace b5 := b5.below hbz b5.lt; replace bxa := bxa.below hbz; replace bm := bm.below hbz bm.lt; replace hB := grow_ hB hbz; clear hbz; have m0 : W7.cell? ⟨w.heap.size + 1, 0, none⟩ = some (.int .u8 k) := bm.cell 0; have m1 : W7.cell? ⟨w.heap.size + 1, 1, none⟩ = some (.string s) := bm.cell 1; have n50 : W7.cell? ⟨we.heap.size, 0, none⟩ = some (.int .u8 k5) := b5.cell 0; have n51 : W7.cell? ⟨we.heap.size, 1, none⟩ = some (.string s5) := b5.cell 1; clear har7))
    | ((with_reducible refine store_box (op := ⟨none, .store 29 (.tmp 9) (.tmp 51), _, _, _, _⟩) 9 51 _ _ _ ?_ rfl rfl ?_ ?_ har10 ?_); (· rfl); (· rfl); (· rfl); (intro W9 bx9 hbz; replace bxa := bxa.below hbz; replace bm := bm.below hbz bm.lt; replace hB := grow_ hB hbz; clear hbz; have m0 : W9.cell? ⟨w.heap.size + 1, 0, none⟩ = some (.int .u8 k) := bm.cell 0; have m1 : W9.cell? ⟨w.heap.size + 1, 1, none⟩ = some (.string s) := bm.cell 1; clear har10))
    | ((with_reducible refine load_box (op := ⟨some 43, .load 29 (.tmp 2), _, _, _, _⟩) 2 _ _ ?_ rfl ?_ bxa ?_); (· rfl); (· rfl); (intro kv43 vv43 av43 nv43 fv43 har43))
    | ((with_reducible refine load_box (op := ⟨some 44, .load 29 (.tmp 7), _, _, _, _⟩) 7 _ _ ?_ rfl ?_ bx7 ?_); (· rfl); (· rfl); (intro kv44 vv44 av44 nv44 fv44 har44))
    | (go_at_call 11; refine (alike_yes2 _ a _ _ har43 har44 (hfa (by simp))).mono ?_; rintro e wq ⟨rfl, hbz⟩; replace b5 := b5.below hbz b5.lt; replace bxa := bxa.below hbz; replace bm := bm.below hbz bm.lt; replace hB := grow_ hB hbz; clear hbz; have m0 : wq.cell? ⟨w.heap.size + 1, 0, none⟩ = some (.int .u8 k) := bm.cell 0; have m1 : wq.cell? ⟨w.heap.size + 1, 1, none⟩ = some (.string s) := bm.cell 1; have n50 : wq.cell? ⟨we.heap.size, 0, none⟩ = some (.int .u8 k5) := b5.cell 0; have n51 : wq.cell? ⟨we.heap.size, 1, none⟩ = some (.string s5) := b5.cell 1; clear har43 har44 bx7))
  all_goals
    go_ret
    exact ⟨rfl, hB⟩
set_option maxHeartbeats 2000000 in
set_option maxRecDepth 100000 in
theorem walk_ny (v1 : Value) (w : World) (a : Ask) (ha : AR (fun i => i < w.heap.size) w v1 a) (sa : Sz a) (k : Int) (s : ByteArray) (hl : s.size ≤ 6000) (HA : Hid (AskIs a false 0 ⟨#[]⟩ 4)) (r : Ask) (HM : Hid (MsgIs k s r 0)) (HC : Hid (AskIs r true k s 0)) (HF : Hid (Few r)) :
    Calls Try.prog 5 #[v1, .agg #[.int .u8 k, .string s]] w fun e w' => e = .returned (.bool true) ∧ Below w.heap.size w w' := by
  obtain ⟨kv, vv, av, nv, fv, rfl, _⟩ := ha.ex
  have hb0 := bel_alloc w (.cells (askV a kv vv av nv fv) 29)
  have hb1 := bel_alloc (w.alloc (.cells (askV a kv vv av nv fv) 29)) (.cells #[.int .u8 k, .string s] 23)
  have bxa := (bx_new w a _ ha).below hb1
  have bm := Blk.new (w.alloc (.cells (askV a kv vv av nv fv) 29)) 23 #[.int .u8 k, .string s]
  rw [show (w.alloc (.cells (askV a kv vv av nv fv) 29)).heap.size = w.heap.size + 1 by simp] at bm
  have hB := grow_ hb0 hb1
  clear ha hb0 hb1
  go_enter Try.func5, Try.ntmps5
  go_upto_region 1 with fail
  refine wp_region_lit ?_
  change wpList _ _ _ _ _ ((w.alloc (.cells (askV a kv vv av nv fv) 29)).alloc (.cells #[.int .u8 k, .string s] 23))
  generalize (w.alloc (.cells (askV a kv vv av nv fv) 29)).alloc (.cells #[.int .u8 k, .string s] 23) = W at *
  have m0 : W.cell? ⟨w.heap.size + 1, 0, none⟩ = some (.int .u8 k) := bm.cell 0
  have m1 : W.cell? ⟨w.heap.size + 1, 1, none⟩ = some (.string s) := bm.cell 1
  go_wp2_with (first
    | ((with_reducible refine load_box (op := ⟨some 13, .load 29 (.tmp 2), _, _, _, _⟩) 2 _ _ ?_ rfl ?_ bxa ?_); (· rfl); (· rfl); (intro kv13 vv13 av13 nv13 fv13 har13))
    | ((with_reducible refine load_box (op := ⟨some 24, .load 29 (.tmp 2), _, _, _, _⟩) 2 _ _ ?_ rfl ?_ bxa ?_); (· rfl); (· rfl); (intro kv24 vv24 av24 nv24 fv24 har24))
    | ((with_reducible refine load_box (op := ⟨some 30, .load 29 (.tmp 2), _, _, _, _⟩) 2 _ _ ?_ rfl ?_ (bxa.below (bel_alloc _ _)) ?_); (· rfl); (· rfl); (intro kv30 vv30 av30 nv30 fv30 har30); (have b5 := Blk.new we 23 #[.int .u8 0, .string ⟨#[]⟩]; have hbz := bel_alloc we (.cells #[.int .u8 0, .string ⟨#[]⟩] 23); replace bxa := bxa.below hbz; replace bm := bm.below hbz bm.lt; replace hB := grow_ hB hbz; clear hbz; have m0 : (we.alloc (.cells #[.int .u8 0, .string ⟨#[]⟩] 23)).cell? ⟨w.heap.size + 1, 0, none⟩ = some (.int .u8 k) := bm.cell 0; have m1 : (we.alloc (.cells #[.int .u8 0, .string ⟨#[]⟩] 23)).cell? ⟨w.heap.size + 1, 1, none⟩ = some (.string s) := bm.cell 1))
    | (go_at_call 12; refine (light_any _ a _ har13 sa).mono ?_; rintro e wl ⟨bl, rfl, hfa, hbz⟩; replace bxa := bxa.below hbz; replace bm := bm.below hbz bm.lt; replace hB := grow_ hB hbz; clear hbz; have m0 : wl.cell? ⟨w.heap.size + 1, 0, none⟩ = some (.int .u8 k) := bm.cell 0; have m1 : wl.cell? ⟨w.heap.size + 1, 1, none⟩ = some (.string s) := bm.cell 1; clear har13; cases bl)
    | (go_at_call 8; refine (known_any _).mono ?_; rintro e wk ⟨rfl, hbz⟩; replace hB := grow_ (by first | exact hB | exact grow_ hB (bel_alloc _ _)) hbz; clear hbz)
    | (go_at_call 13; refine (HA.out.enc _ _ (hfa (by simp)) har24).mono ?_; rintro e we ⟨rfl, hbz⟩; replace bxa := bxa.below hbz; replace bm := bm.below hbz bm.lt; replace hB := grow_ hB hbz; clear hbz; have m0 : we.cell? ⟨w.heap.size + 1, 0, none⟩ = some (.int .u8 k) := bm.cell 0; have m1 : we.cell? ⟨w.heap.size + 1, 1, none⟩ = some (.string s) := bm.cell 1; clear har24)
    | (go_at_call 15; refine (HA.out.right _ _ (hfa (by simp)) har30).mono ?_; rintro e wr ⟨rfl, hbz⟩; replace b5 := b5.below hbz b5.lt; replace bxa := bxa.below hbz; replace bm := bm.below hbz bm.lt; replace hB := grow_ hB hbz; clear hbz; have m0 : wr.cell? ⟨w.heap.size + 1, 0, none⟩ = some (.int .u8 k) := bm.cell 0; have m1 : wr.cell? ⟨w.heap.size + 1, 1, none⟩ = some (.string s) := bm.cell 1; have n50 : wr.cell? ⟨we.heap.size, 0, none⟩ = some (.int .u8 0) := b5.cell 0; have n51 : wr.cell? ⟨we.heap.size, 1, none⟩ = some (.string ⟨#[]⟩) := b5.cell 1; clear har30)
    | (go_at_call 9; (with_reducible refine (HN.out.go _).mono ?_); rintro e w7 ⟨v7, rfl, har7, hbz⟩; replace b5 := b5.below hbz b5.lt; replace bxa := bxa.below hbz; replace bm := bm.below hbz bm.lt; replace hB := grow_ hB hbz; clear hbz; have m0 : w7.cell? ⟨w.heap.size + 1, 0, none⟩ = some (.int .u8 k) := bm.cell 0; have m1 : w7.cell? ⟨w.heap.size + 1, 1, none⟩ = some (.string s) := bm.cell 1; have n50 : w7.cell? ⟨we.heap.size, 0, none⟩ = some (.int .u8 0) := b5.cell 0; have n51 : w7.cell? ⟨we.heap.size, 1, none⟩ = some (.string ⟨#[]⟩) := b5.cell 1)
    | (go_at_call 9; (with_reducible refine (HM.out.go _).mono ?_); rintro e w10 ⟨v10, rfl, har10, hbz⟩; replace bxa := bxa.below hbz; replace bm := bm.below hbz bm.lt; replace hB := grow_ hB hbz; clear hbz; have m0 : w10.cell? ⟨w.heap.size + 1, 0, none⟩ = some (.int .u8 k) := bm.cell 0; have m1 : w10.cell? ⟨w.heap.size + 1, 1, none⟩ = some (.string s) := bm.cell 1)
    | ((with_reducible refine store_box (op := ⟨none, .store 29 (.tmp 7) (.tmp 38), _, _, _, _⟩) 7 38 _ _ _ ?_ rfl rfl ?_ ?_ har7 ?_); (· rfl); (· rfl); (· rfl); (intro W7 bx7 hbz; replace b5 := b5.below hbz b5.lt; replace bxa := bxa.below hbz; replace bm := bm.below hbz bm.lt; replace hB := grow_ hB hbz; clear hbz; have m0 : W7.cell? ⟨w.heap.size + 1, 0, none⟩ = some (.int .u8 k) := bm.cell 0; have m1 : W7.cell? ⟨w.heap.size + 1, 1, none⟩ = some (.string s) := bm.cell 1; have n50 : W7.cell? ⟨we.heap.size, 0, none⟩ = some (.int .u8 0) := b5.cell 0; have n51 : W7.cell? ⟨we.heap.size, 1, none⟩ = some (.string ⟨#[]⟩) := b5.cell 1; clear har7))
    | ((with_reducible refine store_box (op := ⟨none, .store 29 (.tmp 9) (.tmp 51), _, _, _, _⟩) 9 51 _ _ _ ?_ rfl rfl ?_ ?_ har10 ?_); (· rfl); (· rfl); (· rfl); (intro W9 bx9 hbz; replace bxa := bxa.below hbz; replace bm := bm.below hbz bm.lt; replace hB := grow_ hB hbz; clear hbz; have m0 : W9.cell? ⟨w.heap.size + 1, 0, none⟩ = some (.int .u8 k) := bm.cell 0; have m1 : W9.cell? ⟨w.heap.size + 1, 1, none⟩ = some (.string s) := bm.cell 1; clear har10))
    | ((with_reducible refine load_box (op := ⟨some 43, .load 29 (.tmp 2), _, _, _, _⟩) 2 _ _ ?_ rfl ?_ bxa ?_); (· rfl); (· rfl); (intro kv43 vv43 av43 nv43 fv43 har43))
    | ((with_reducible refine load_box (op := ⟨some 44, .load 29 (.tmp 7), _, _, _, _⟩) 7 _ _ ?_ rfl ?_ bx7 ?_); (· rfl); (· rfl); (intro kv44 vv44 av44 nv44 fv44 har44))
    | (go_at_call 11; refine (alike_yes2 _ a _ _ har43 har44 (hfa (by simp))).mono ?_; rintro e wq ⟨rfl, hbz⟩; replace b5 := b5.below hbz b5.lt; replace bxa := bxa.below hbz; replace bm := bm.below hbz bm.lt; replace hB := grow_ hB hbz; clear hbz; have m0 : wq.cell? ⟨w.heap.size + 1, 0, none⟩ = some (.int .u8 k) := bm.cell 0; have m1 : wq.cell? ⟨w.heap.size + 1, 1, none⟩ = some (.string s) := bm.cell 1; have n50 : wq.cell? ⟨we.heap.size, 0, none⟩ = some (.int .u8 0) := b5.cell 0; have n51 : wq.cell? ⟨we.heap.size, 1, none⟩ = some (.string ⟨#[]⟩) := b5.cell 1; clear har43 har44 bx7)
    | ((with_reducible refine load_box (op := ⟨some 56, .load 29 (.tmp 9), _, _, _, _⟩) 9 _ _ ?_ rfl ?_ bx9 ?_); (· rfl); (· rfl); (intro kv56 vv56 av56 nv56 fv56 har56))
    | (go_at_call 13; refine (HC.out.enc _ _ HF.out har56).mono ?_; rintro e wc ⟨rfl, hbz⟩; replace bx9 := bx9.below hbz; replace bxa := bxa.below hbz; replace bm := bm.below hbz bm.lt; replace hB := grow_ hB hbz; clear hbz; have m0 : wc.cell? ⟨w.heap.size + 1, 0, none⟩ = some (.int .u8 k) := bm.cell 0; have m1 : wc.cell? ⟨w.heap.size + 1, 1, none⟩ = some (.string s) := bm.cell 1; clear har56; have q0 : (wc.alloc (.cells #[.int .u8 k, .string s] 23)).cell? ⟨w.heap.size + 1, 0, none⟩ = some (.int .u8 k) := (bm.alloc _).cell 0; have q1 : (wc.alloc (.cells #[.int .u8 k, .string s] 23)).cell? ⟨w.heap.size + 1, 1, none⟩ = some (.string s) := (bm.alloc _).cell 1)
    | ((with_reducible refine load_box (op := ⟨some 68, .load 29 (.tmp 9), _, _, _, _⟩) 9 _ _ ?_ rfl ?_ (bx9.below (bel_alloc _ _)) ?_); (· rfl); (· rfl); (intro kv68 vv68 av68 nv68 fv68 har68))
    | (go_at_call 15; refine (HC.out.right _ _ HF.out har68).mono ?_; rintro e wv ⟨rfl, hbz⟩; replace hB := grow_ (grow_ hB (bel_alloc wc (.cells #[.int .u8 k, .string s] 23))) hbz; clear hbz har68))
  all_goals
    go_ret
    exact ⟨rfl, hB⟩
set_option maxHeartbeats 2000000 in
set_option maxRecDepth 100000 in
theorem walk_yy (v1 : Value) (w : World) (a : Ask) (ha : AR (fun i => i < w.heap.size) w v1 a) (sa : Sz a) (k : Int) (s : ByteArray) (k5 : Int) (s5 : ByteArray) (hl : s.size ≤ 6000) (HA : Hid (AskIs a true k5 s5 0)) (HN : Hid (MsgIs k5 s5 a 0)) (r : Ask) (HM : Hid (MsgIs k s r 0)) (HC : Hid (AskIs r true k s 0)) (HF : Hid (Few r)) :
    Calls Try.prog 5 #[v1, .agg #[.int .u8 k, .string s]] w fun e w' => e = .returned (.bool true) ∧ Below w.heap.size w w' := by
  obtain ⟨kv, vv, av, nv, fv, rfl, _⟩ := ha.ex
  have hb0 := bel_alloc w (.cells (askV a kv vv av nv fv) 29)
  have hb1 := bel_alloc (w.alloc (.cells (askV a kv vv av nv fv) 29)) (.cells #[.int .u8 k, .string s] 23)
  have bxa := (bx_new w a _ ha).below hb1
  have bm := Blk.new (w.alloc (.cells (askV a kv vv av nv fv) 29)) 23 #[.int .u8 k, .string s]
  rw [show (w.alloc (.cells (askV a kv vv av nv fv) 29)).heap.size = w.heap.size + 1 by simp] at bm
  have hB := grow_ hb0 hb1
  clear ha hb0 hb1
  go_enter Try.func5, Try.ntmps5
  go_upto_region 1 with fail
  refine wp_region_lit ?_
  change wpList _ _ _ _ _ ((w.alloc (.cells (askV a kv vv av nv fv) 29)).alloc (.cells #[.int .u8 k, .string s] 23))
  generalize (w.alloc (.cells (askV a kv vv av nv fv) 29)).alloc (.cells #[.int .u8 k, .string s] 23) = W at *
  have m0 : W.cell? ⟨w.heap.size + 1, 0, none⟩ = some (.int .u8 k) := bm.cell 0
  have m1 : W.cell? ⟨w.heap.size + 1, 1, none⟩ = some (.string s) := bm.cell 1
  go_wp2_with (first
    | ((with_reducible refine load_box (op := ⟨some 13, .load 29 (.tmp 2), _, _, _, _⟩) 2 _ _ ?_ rfl ?_ bxa ?_); (· rfl); (· rfl); (intro kv13 vv13 av13 nv13 fv13 har13))
    | ((with_reducible refine load_box (op := ⟨some 24, .load 29 (.tmp 2), _, _, _, _⟩) 2 _ _ ?_ rfl ?_ bxa ?_); (· rfl); (· rfl); (intro kv24 vv24 av24 nv24 fv24 har24))
    | ((with_reducible refine load_box (op := ⟨some 30, .load 29 (.tmp 2), _, _, _, _⟩) 2 _ _ ?_ rfl ?_ (bxa.below (bel_alloc _ _)) ?_); (· rfl); (· rfl); (intro kv30 vv30 av30 nv30 fv30 har30); (have b5 := Blk.new we 23 #[.int .u8 k5, .string s5]; have hbz := bel_alloc we (.cells #[.int .u8 k5, .string s5] 23); replace bxa := bxa.below hbz; replace bm := bm.below hbz bm.lt; replace hB := grow_ hB hbz; clear hbz; have m0 : (we.alloc (.cells #[.int .u8 k5, .string s5] 23)).cell? ⟨w.heap.size + 1, 0, none⟩ = some (.int .u8 k) := bm.cell 0; have m1 : (we.alloc (.cells #[.int .u8 k5, .string s5] 23)).cell? ⟨w.heap.size + 1, 1, none⟩ = some (.string s) := bm.cell 1))
    | (go_at_call 12; refine (light_any _ a _ har13 sa).mono ?_; rintro e wl ⟨bl, rfl, hfa, hbz⟩; replace bxa := bxa.below hbz; replace bm := bm.below hbz bm.lt; replace hB := grow_ hB hbz; clear hbz; have m0 : wl.cell? ⟨w.heap.size + 1, 0, none⟩ = some (.int .u8 k) := bm.cell 0; have m1 : wl.cell? ⟨w.heap.size + 1, 1, none⟩ = some (.string s) := bm.cell 1; clear har13; cases bl)
    | (go_at_call 8; refine (known_any _).mono ?_; rintro e wk ⟨rfl, hbz⟩; replace hB := grow_ (by first | exact hB | exact grow_ hB (bel_alloc _ _)) hbz; clear hbz)
    | (go_at_call 13; refine (HA.out.enc _ _ (hfa (by simp)) har24).mono ?_; rintro e we ⟨rfl, hbz⟩; replace bxa := bxa.below hbz; replace bm := bm.below hbz bm.lt; replace hB := grow_ hB hbz; clear hbz; have m0 : we.cell? ⟨w.heap.size + 1, 0, none⟩ = some (.int .u8 k) := bm.cell 0; have m1 : we.cell? ⟨w.heap.size + 1, 1, none⟩ = some (.string s) := bm.cell 1; clear har24)
    | (go_at_call 15; refine (HA.out.right _ _ (hfa (by simp)) har30).mono ?_; rintro e wr ⟨rfl, hbz⟩; replace b5 := b5.below hbz b5.lt; replace bxa := bxa.below hbz; replace bm := bm.below hbz bm.lt; replace hB := grow_ hB hbz; clear hbz; have m0 : wr.cell? ⟨w.heap.size + 1, 0, none⟩ = some (.int .u8 k) := bm.cell 0; have m1 : wr.cell? ⟨w.heap.size + 1, 1, none⟩ = some (.string s) := bm.cell 1; have n50 : wr.cell? ⟨we.heap.size, 0, none⟩ = some (.int .u8 k5) := b5.cell 0; have n51 : wr.cell? ⟨we.heap.size, 1, none⟩ = some (.string s5) := b5.cell 1; clear har30)
    | (go_at_call 9; (with_reducible refine (HN.out.go _).mono ?_); rintro e w7 ⟨v7, rfl, har7, hbz⟩; replace b5 := b5.below hbz b5.lt; replace bxa := bxa.below hbz; replace bm := bm.below hbz bm.lt; replace hB := grow_ hB hbz; clear hbz; have m0 : w7.cell? ⟨w.heap.size + 1, 0, none⟩ = some (.int .u8 k) := bm.cell 0; have m1 : w7.cell? ⟨w.heap.size + 1, 1, none⟩ = some (.string s) := bm.cell 1; have n50 : w7.cell? ⟨we.heap.size, 0, none⟩ = some (.int .u8 k5) := b5.cell 0; have n51 : w7.cell? ⟨we.heap.size, 1, none⟩ = some (.string s5) := b5.cell 1)
    | (go_at_call 9; (with_reducible refine (HM.out.go _).mono ?_); rintro e w10 ⟨v10, rfl, har10, hbz⟩; replace bxa := bxa.below hbz; replace bm := bm.below hbz bm.lt; replace hB := grow_ hB hbz; clear hbz; have m0 : w10.cell? ⟨w.heap.size + 1, 0, none⟩ = some (.int .u8 k) := bm.cell 0; have m1 : w10.cell? ⟨w.heap.size + 1, 1, none⟩ = some (.string s) := bm.cell 1)
    | ((with_reducible refine store_box (op := ⟨none, .store 29 (.tmp 7) (.tmp 38), _, _, _, _⟩) 7 38 _ _ _ ?_ rfl rfl ?_ ?_ har7 ?_); (· rfl); (· rfl); (· rfl); (intro W7 bx7 hbz; replace b5 := b5.below hbz b5.lt; replace bxa := bxa.below hbz; replace bm := bm.below hbz bm.lt; replace hB := grow_ hB hbz; clear hbz; have m0 : W7.cell? ⟨w.heap.size + 1, 0, none⟩ = some (.int .u8 k) := bm.cell 0; have m1 : W7.cell? ⟨w.heap.size + 1, 1, none⟩ = some (.string s) := bm.cell 1; have n50 : W7.cell? ⟨we.heap.size, 0, none⟩ = some (.int .u8 k5) := b5.cell 0; have n51 : W7.cell? ⟨we.heap.size, 1, none⟩ = some (.string s5) := b5.cell 1; clear har7))
    | ((with_reducible refine store_box (op := ⟨none, .store 29 (.tmp 9) (.tmp 51), _, _, _, _⟩) 9 51 _ _ _ ?_ rfl rfl ?_ ?_ har10 ?_); (· rfl); (· rfl); (· rfl); (intro W9 bx9 hbz; replace bxa := bxa.below hbz; replace bm := bm.below hbz bm.lt; replace hB := grow_ hB hbz; clear hbz; have m0 : W9.cell? ⟨w.heap.size + 1, 0, none⟩ = some (.int .u8 k) := bm.cell 0; have m1 : W9.cell? ⟨w.heap.size + 1, 1, none⟩ = some (.string s) := bm.cell 1; clear har10))
    | ((with_reducible refine load_box (op := ⟨some 43, .load 29 (.tmp 2), _, _, _, _⟩) 2 _ _ ?_ rfl ?_ bxa ?_); (· rfl); (· rfl); (intro kv43 vv43 av43 nv43 fv43 har43))
    | ((with_reducible refine load_box (op := ⟨some 44, .load 29 (.tmp 7), _, _, _, _⟩) 7 _ _ ?_ rfl ?_ bx7 ?_); (· rfl); (· rfl); (intro kv44 vv44 av44 nv44 fv44 har44))
    | (go_at_call 11; refine (alike_yes2 _ a _ _ har43 har44 (hfa (by simp))).mono ?_; rintro e wq ⟨rfl, hbz⟩; replace b5 := b5.below hbz b5.lt; replace bxa := bxa.below hbz; replace bm := bm.below hbz bm.lt; replace hB := grow_ hB hbz; clear hbz; have m0 : wq.cell? ⟨w.heap.size + 1, 0, none⟩ = some (.int .u8 k) := bm.cell 0; have m1 : wq.cell? ⟨w.heap.size + 1, 1, none⟩ = some (.string s) := bm.cell 1; have n50 : wq.cell? ⟨we.heap.size, 0, none⟩ = some (.int .u8 k5) := b5.cell 0; have n51 : wq.cell? ⟨we.heap.size, 1, none⟩ = some (.string s5) := b5.cell 1; clear har43 har44 bx7)
    | ((with_reducible refine load_box (op := ⟨some 56, .load 29 (.tmp 9), _, _, _, _⟩) 9 _ _ ?_ rfl ?_ bx9 ?_); (· rfl); (· rfl); (intro kv56 vv56 av56 nv56 fv56 har56))
    | (go_at_call 13; refine (HC.out.enc _ _ HF.out har56).mono ?_; rintro e wc ⟨rfl, hbz⟩; replace bx9 := bx9.below hbz; replace bxa := bxa.below hbz; replace bm := bm.below hbz bm.lt; replace hB := grow_ hB hbz; clear hbz; have m0 : wc.cell? ⟨w.heap.size + 1, 0, none⟩ = some (.int .u8 k) := bm.cell 0; have m1 : wc.cell? ⟨w.heap.size + 1, 1, none⟩ = some (.string s) := bm.cell 1; clear har56; have q0 : (wc.alloc (.cells #[.int .u8 k, .string s] 23)).cell? ⟨w.heap.size + 1, 0, none⟩ = some (.int .u8 k) := (bm.alloc _).cell 0; have q1 : (wc.alloc (.cells #[.int .u8 k, .string s] 23)).cell? ⟨w.heap.size + 1, 1, none⟩ = some (.string s) := (bm.alloc _).cell 1)
    | ((with_reducible refine load_box (op := ⟨some 68, .load 29 (.tmp 9), _, _, _, _⟩) 9 _ _ ?_ rfl ?_ (bx9.below (bel_alloc _ _)) ?_); (· rfl); (· rfl); (intro kv68 vv68 av68 nv68 fv68 har68))
    | (go_at_call 15; refine (HC.out.right _ _ HF.out har68).mono ?_; rintro e wv ⟨rfl, hbz⟩; replace hB := grow_ (grow_ hB (bel_alloc wc (.cells #[.int .u8 k, .string s] 23))) hbz; clear hbz har68))
  all_goals
    go_ret
    exact ⟨rfl, hB⟩
theorem few_right {a : Ask} (h : RightP a) : Few a := by
  have h1 := right_short h
  unfold shortB at h1
  obtain ⟨c1, c2, c3, c4, c5⟩ := of_decide_eq_true h1
  have hn := h.1.null
  exact ⟨by omega, by omega, by omega, by omega, by omega, by omega, by omega, by omega, fun t ht => by have := sumT_has _ t ht; omega, fun t ht => by have := sumT_has _ t ht; omega, fun t ht => by have := sumT_has _ t ht; omega⟩
theorem walk (v1 v2 : Value) {W : World} (h1 : FitsA W v1) (h2 : FitsM W v2) : Calls Try.prog 5 #[v1, v2] W fun e w' => e = .returned (.bool true) ∧ Below W.heap.size W w' := by
  obtain ⟨a, ha, sa⟩ := h1
  obtain ⟨k, s, rfl, hs⟩ := h2
  by_cases hl : 6000 < s.size
  · exact walk_l v1 W a ha sa _ s hl
  · have hl : s.size ≤ 6000 := by omega
    have HM := msg_is k s (decP k s.data.toList).1 (decP k s.data.toList).2 rfl (by omega)
    by_cases hc : (decP k s.data.toList).2 = 0
    · obtain ⟨d1, d2, d3⟩ := dec_inv hc
      have HC := ask_yes d1
      rw [d2, d3, ba_of] at HC
      rw [hc] at HM
      by_cases h : RightP a
      · have hb := h.len
        exact walk_yy v1 W a ha sa _ s _ _ hl (Lib.hid (ask_yes h)) (Lib.hid (msg_is _ _ _ _ (by rw [ba_list]; exact dec_ok h) (by rw [Lib.size_eq, ba_list]; omega))) _ (Lib.hid HM) (Lib.hid HC) (Lib.hid (few_right d1))
      · exact walk_ny v1 W a ha sa _ s hl (Lib.hid (ask_no h)) _ (Lib.hid HM) (Lib.hid HC) (Lib.hid (few_right d1))
    · by_cases h : RightP a
      · have hb := h.len
        exact walk_yn v1 W a ha sa _ s _ _ hl (Lib.hid (ask_yes h)) (Lib.hid (msg_is _ _ _ _ (by rw [ba_list]; exact dec_ok h) (by rw [Lib.size_eq, ba_list]; omega))) _ _ hc (Lib.hid HM)
      · exact walk_nn v1 W a ha sa _ s hl (Lib.hid (ask_no h)) _ _ hc (Lib.hid HM)

theorem own : ownKnob Try.prog.godebug = none := by kernel_rfl
theorem laidOut : laidOutB Try.prog = true := by kernel_rfl
theorem weights_at {H : Type} {P : Program} {ts : List TypeId} {ds : List (DataW H)} (h : (DataW.weightsEach P ts ds).all (· ≤ reachBytes) = true) (j : Nat) {t : TypeId} {d : DataW H} (ht : ts[j]? = some t) (hd : ds[j]? = some d) : (DataW.weights P t d).all (· ≤ reachBytes) = true :=
  List.all_eq_true.2 fun x hx => List.all_eq_true.1 h x (DataW.weights_mem_each ht hd x hx)

set_option maxRecDepth 100000 in
theorem lifted (os : Os) (started : os.Started) (H : Type) (enc : TypeId × Value → H) :
    ReturnsInHanded {} Try.checked os 5 .any (Rows.frontBackSpec.pre6 enc Try.prog Try.f5 Rows.frontBackRow.domain false) (Rows.frontBackSpec.post enc Try.prog Try.f5 false true false false) := by
  refine returnsInHanded_of_change_sized (C := Try.checked) own started (by kernel_rfl) Try.func5
    (ChangeSpec.witness6 (enc := enc) (C := Try.checked) false ⟨#[], #[.agg #[.int .u8 0, .string ByteArray.empty, .string ByteArray.empty, .string ByteArray.empty, .slice none 0 0, .slice none 0 0, .slice none 0 0, .slice none 0 0, .slice none 0 0, .int .i64 0, .int .u8 0, .bool false, .int .i64 0, .int .i64 0], .agg #[.int .u8 0, .string ByteArray.empty]], []⟩ 8 (by kernel_rfl) (by kernel_rfl) (by kernel_rfl) (by kernel_rfl)) ?_
  intro W base args ds gs before hval0 hW hcnd hsz0 _
  have hsz : (DataW.weightsEach Try.prog (Try.f5.params.toList ++ Rows.frontBackSpec.plain.varTypes Try.prog) (ds ++ gs)).all (· ≤ reachBytes) = true := hsz0
  clear hsz0
  have hval : ∀ (j : Nat) t v, Try.f5.params[j]? = some t → args[j]? = some v → Value.okWide Try.prog W .any base t v := hval0
  have hW' := hW
  obtain ⟨p, q, hA0, hV, rfl, hfz, hnd⟩ := hW
  have hA : DataW.TrodAll enc Try.prog W 0 (fun _ => true) true Try.f5.params.toList args.toList ds p := hA0
  rw [Try.params5] at hA hval hsz
  obtain ⟨v0, vs0, d0, ds0, p0, q0, hargs, rfl, rfl, h0, r0⟩ := trodAll_cons hA
  obtain ⟨v1, vs1, d1, ds1, p1, q1, rfl, rfl, rfl, h1, r1⟩ := trodAll_cons r0
  obtain ⟨rfl, rfl, rfl⟩ := trodAll_nil r1
  obtain rfl : args = #[v0, v1] := by cases args; simp_all
  obtain ⟨rfl, rfl⟩ := trodVars_none hV
  have k0 := h0
  have lt0 : ∀ x ∈ p0, x.block < W.heap.size := by obtain ⟨m, hm⟩ := k0; exact DataW.trod_lt m _ _ _ hm
  have f0 := openedA (hval 0 29 v0 rfl rfl) h0 (weights_at hsz 0 rfl rfl)
  have k1 := h1
  have lt1 : ∀ x ∈ p1, x.block < W.heap.size := by obtain ⟨m, hm⟩ := k1; exact DataW.trod_lt m _ _ _ hm
  have f1 := openedM (hval 1 23 v1 rfl rfl) h1 (weights_at hsz 1 rfl rfl)
  clear hA0 hval0
  refine (walk v0 v1 f0 f1).mono fun e W' ⟨he, bel⟩ => ?_
  subst he
  exact ⟨_, rfl, _, _, _, [], _, [], hW', trodAll_mk1 (shut_bool Try.underlying4 _), (trodAll_cons_mk (Below.trod laidOut (by kernel_rfl) (of_decide_eq_true (by kernel_rfl)) k0 bel lt0) (trodAll_cons_mk (Below.trod laidOut (by kernel_rfl) (of_decide_eq_true (by kernel_rfl)) k1 bel lt1) trodAll_mk0)), rfl, bel.frame _, fun h => by cases h⟩

theorem over : Rows.frontBackRow.holds Try.pinned (OpenSpec.ofChange Rows.frontBackSpec) :=
  OpenClaim.holds_of_wide 5 Try.f5 rfl rfl rfl rfl rfl rfl rfl ⟨rfl, rfl, rfl, rfl, rfl⟩ rfl rfl rfl rfl rfl (by kernel_rfl) Try.func5 (by kernel_rfl)
    (of_decide_eq_true (by kernel_rfl)) (by unfold Func.isWrapper; rw [if_neg (by decide +kernel)]; exact ⟨rfl, rfl⟩)
    (fun os started H enc _ => lifted os started H enc)

theorem proved : Rows.FrontBackSaid := over
end Go.Proofs.Ytojgeilihoilnaa.frontBack
