/- What the document's own body answers, of a bind, and of anything. Condition: Few; as many arguments as nulls, as many values as keys.
   What the document's own Right answers. Condition: Few. -/
import Derived.Test.YtojgeilihoilnaaM21
import Derived.Test.YtojgeilihoilnaaM16
set_option linter.unusedSimpArgs false
set_option linter.unusedVariables false
namespace Go.Proofs.Ytojgeilihoilnaa
open Go.ChangeShapes Go.WideShapes Go.ChangeAt Go.RowKit
set_option linter.unusedVariables false

theorem bx_kind' {w : World} {g : Nat} {a : Ask} (h : Bx w g a) : w.cell? ⟨g, 0, none⟩ = some (u8 a.kind) := by
  obtain ⟨kv, vv, av, nv, fv, q, _⟩ := h
  exact q.cell 0
theorem bind_of (w : World) (a : Ask) (v : Value) (f : Few a) (hl : a.null.length = a.args.length) (har : AR (fun i => i < w.heap.size) w v a) :
    Calls Try.prog 49 #[v] w fun e w' => e = .returned (.string (ba (bodyD .bind a))) ∧ Below w.heap.size w w' := by
  obtain ⟨kv, vv, av, nv, fv, rfl, h4, h5, h6, h7, h8⟩ := har.ex
  exact refbind_any w a kv vv av nv fv f hl h6 h7 h8
set_option maxHeartbeats 1000000 in
set_option maxRecDepth 100000 in
theorem rbody_bind (w : World) (a : Ask) (v : Value) (hk : a.kind = 66) (f : Few a) (hl : a.null.length = a.args.length) (har : AR (fun i => i < w.heap.size) w v a) :
    Calls Try.prog 20 #[v] w fun e w' => e = .returned (.string (ba (bodyD .bind a))) ∧ Below w.heap.size w w' := by
  obtain ⟨kv, vv, av, nv, fv, rfl, _⟩ := har.ex
  have hB := bel_alloc w (.cells (askV a kv vv av nv fv) 29)
  have bxa := bx_new w a _ har
  have c0 := bx_kind' bxa
  rw [hk] at c0
  have c0' : (w.alloc (.cells (askV a kv vv av nv fv) 29)).cell? ⟨w.heap.size, 0, none⟩ = some (.int .u8 66) := c0
  clear c0 har
  have HL := Lib.hid hl
  clear hl hk
  go_enter Try.func20, Try.ntmps20
  go_upto_region 1 with fail
  refine wp_region_lit ?_
  change wpList _ _ _ _ _ (w.alloc (.cells (askV a kv vv av nv fv) 29))
  generalize w.alloc (.cells (askV a kv vv av nv fv) 29) = W at *
  go_wp2_with (first
    | ((with_reducible refine load_box (op := ⟨some 58, .load 29 (.tmp 1), _, _, _, _⟩) 1 _ _ ?_ rfl ?_ bxa ?_); (· rfl); (· rfl); (intro kv58 vv58 av58 nv58 fv58 har58))
    | (go_at_call 49; refine (bind_of _ a _ f HL.out har58).mono ?_; rintro e wb ⟨rfl, hbz⟩; replace hB := grow_ hB hbz; clear hbz))
  go_ret
  exact ⟨rfl, hB⟩
theorem rbody_any (w : World) (a : Ask) (v : Value) (f : Few a) (hk : a.keys.length = a.vals.length) (hl : a.null.length = a.args.length) (har : AR (fun i => i < w.heap.size) w v a) :
    Calls Try.prog 20 #[v] w fun e w' => e = .returned (.string (ba (body a))) ∧ Below w.heap.size w w' := by
  have har2 := har
  obtain ⟨kv, vv, av, nv, fv, rfl, h4, h5, h6, h7, h8⟩ := har.ex
  clear har
  rcases kd_inv a.kind with h | ⟨hd, h⟩ | ⟨hd, h⟩ | ⟨hd, h⟩ | ⟨hd, h⟩ | ⟨hd, h⟩ | ⟨hd, h⟩ | ⟨hd, h⟩
  · have e : body a = [] := by unfold body; rw [h]
    rw [e]; exact rbody_no w a kv vv av nv fv h
  · rw [body_of .start a h]
    cases hc : a.cancel
    · have e : bodyD .start a = n32 196608 ++ (pairsW a.keys a.vals ++ [0]) := by simp [bodyD, hc]
      rw [e]; exact rbody_start w a kv vv av nv fv hd hc f hk h4 h5
    · have e : bodyD .start a = n32 80877102 ++ (n32 a.pid ++ n32 a.secret) := by simp [bodyD, hc]
      rw [e]; exact rbody_c w a kv vv av nv fv hd hc f
  · rw [body_of .sql a h]
    rcases hd with hd | hd
    · exact rbody_s112 w a kv vv av nv fv hd f
    · exact rbody_s81 w a kv vv av nv fv hd f
  · rw [body_of .nothing a h]
    rcases hd with hd | hd | hd
    · exact rbody_n88 w a kv vv av nv fv hd f
    · exact rbody_n83 w a kv vv av nv fv hd f
    · exact rbody_n72 w a kv vv av nv fv hd f
  · rw [body_of .parse a h]; exact rbody_p w a kv vv av nv fv hd f
  · rw [body_of .bind a h]; exact rbody_bind w a _ hd f hl har2
  · rw [body_of .named a h]
    rcases hd with hd | hd
    · exact rbody_d68 w a kv vv av nv fv hd f
    · exact rbody_d67 w a kv vv av nv fv hd f
  · rw [body_of .exec a h]; exact rbody_e w a kv vv av nv fv hd f
end Go.Proofs.Ytojgeilihoilnaa
namespace Go.Proofs.Ytojgeilihoilnaa
open Go.ChangeShapes Go.WideShapes Go.ChangeAt Go.RowKit
set_option linter.unusedVariables false

theorem kept_b (w : World) (a : Ask) (v : Value) (h1 : AR (fun b => b < w.heap.size) w v a) (b : Bool) (hb : decide (Kept a) = b) : Calls Try.prog 24 #[v] w fun e w' => e = .returned (.bool b) ∧ Below w.heap.size w w' := by
  subst hb; exact kept_any w a v h1
theorem plain_b {P : Nat → Prop} (v : Value) (l : List Tx) (w : World) (b : Bool) (hb : decide (∀ t ∈ l, 0 ∉ t) = b) (h : LR P w v (strs l)) (hl : l.length ≤ 1000) (ht : ∀ t ∈ l, t.length ≤ 10000) : Calls Try.prog 25 #[v] w fun e w' => e = .returned (.bool b) ∧ w' = w := by
  subst hb; exact plain_any v l w h hl ht
theorem four_b (n : Int) (w : World) (b : Bool) (hb : decide (four n) = b) : Calls Try.prog 26 #[.int .i64 n] w fun e w' => e = .returned (.bool b) ∧ w' = w := by
  subst hb; exact four_any n w
theorem three_few {a : Ask} (f : Few a) : ∀ t ∈ [a.name, a.portal, a.sql], t.length ≤ 10000 := by
  intro t ht
  have h1 := f.name; have h2 := f.portal; have h3 := f.sql
  simp only [List.mem_cons, List.not_mem_nil, or_false] at ht
  rcases ht with rfl | rfl | rfl <;> assumption
theorem lr_three (w : World) (a : Ask) : LR (fun b => b < (w.alloc (.cells #[.string (ba a.name), .string (ba a.portal), .string (ba a.sql)] 9)).heap.size) (w.alloc (.cells #[.string (ba a.name), .string (ba a.portal), .string (ba a.sql)] 9)) (.slice (some ⟨w.heap.size, 0, none⟩) 3 3) (strs [a.name, a.portal, a.sql]) :=
  LR.lit w 9 #[.string (ba a.name), .string (ba a.portal), .string (ba a.sql)] (by show 3 ≤ maxLen; decide)
theorem three_len (a : Ask) : [a.name, a.portal, a.sql].length ≤ 1000 := by simp
theorem lr_up {w w' : World} {v : Value} {l : List Value} (h : LR (fun b => b < w.heap.size) w v l) (hB : Below w.heap.size w w') : LR (fun b => b < w.heap.size) w' v l := h.step (fun b hb => hB.block b hb) (fun _ h => h)
set_option maxHeartbeats 2000000 in
set_option maxRecDepth 100000 in
theorem rr_0 (w : World) (a : Ask) (v : Value) (f : Few a) (har : AR (fun i => i < w.heap.size) w v a) (HK : Hid (decide (Kept a) = false)) :
    Calls Try.prog 16 #[v] w fun e w' => e = .returned (.bool false) ∧ Below w.heap.size w w' := by
  obtain ⟨kv, vv, av, nv, fv, rfl, h4, h5, h6, h7, h8⟩ := har.ex
  obtain ⟨A4, c4, e4, hc4, hd4⟩ := h4.form
  rw [strs_len] at e4 hc4
  subst e4
  obtain ⟨A5, c5, e5, hc5, hd5⟩ := h5.form
  rw [strs_len] at e5 hc5
  subst e5
  obtain ⟨A6, c6, e6, hc6, hd6⟩ := h6.form
  rw [strs_len] at e6 hc6
  subst e6
  obtain ⟨A7, c7, e7, hc7, hd7⟩ := h7.form
  rw [bools_len] at e7 hc7
  subst e7
  obtain ⟨A8, c8, e8, hc8, hd8⟩ := h8.form
  rw [ints_len] at e8 hc8
  subst e8
  have q0 := Blk.new w 29 (askV a (.slice A4 a.keys.length c4) (.slice A5 a.vals.length c5) (.slice A6 a.args.length c6) (.slice A7 a.null.length c7) (.slice A8 a.formats.length c8))
  have hB := bel_alloc w (.cells (askV a (.slice A4 a.keys.length c4) (.slice A5 a.vals.length c5) (.slice A6 a.args.length c6) (.slice A7 a.null.length c7) (.slice A8 a.formats.length c8)) 29)
  have bxa := bx_new w a _ har
  have H4 := Lib.hid h4
  have H5 := Lib.hid h5
  have H6 := Lib.hid h6
  have H7 := Lib.hid h7
  have H8 := Lib.hid h8
  have HF := Lib.hid f
  clear har h4 h5 h6 h7 h8 f
  go_enter Try.func16, Try.ntmps16
  go_upto_region 1 with fail
  refine wp_region_lit ?_
  change wpList _ _ _ _ _ (w.alloc (.cells (askV a (.slice A4 a.keys.length c4) (.slice A5 a.vals.length c5) (.slice A6 a.args.length c6) (.slice A7 a.null.length c7) (.slice A8 a.formats.length c8)) 29))
  generalize w.alloc (.cells (askV a (.slice A4 a.keys.length c4) (.slice A5 a.vals.length c5) (.slice A6 a.args.length c6) (.slice A7 a.null.length c7) (.slice A8 a.formats.length c8)) 29) = W at *
  go_wp2_with (first
    | ((with_reducible refine load_box (op := ⟨some 6, .load 29 (.tmp 1), _, _, _, _⟩) 1 _ _ ?_ rfl ?_ bxa ?_); (· rfl); (· rfl); (intro kv6 vv6 av6 nv6 fv6 har6))
    | (go_at_call 24; (with_reducible refine (kept_b _ a _ har6 false HK.out).mono ?_); rintro e w1 ⟨rfl, hbz⟩; replace q0 := q0.below hbz q0.lt; replace bxa := bxa.below hbz; replace hB := grow_ hB hbz; clear hbz har6; have x1 : w1.cell? ⟨w.heap.size, 1, none⟩ = some (.string (ba a.name)) := q0.cell 1; have x2 : w1.cell? ⟨w.heap.size, 2, none⟩ = some (.string (ba a.portal)) := q0.cell 2; have x3 : w1.cell? ⟨w.heap.size, 3, none⟩ = some (.string (ba a.sql)) := q0.cell 3; have x4 : w1.cell? ⟨w.heap.size, 4, none⟩ = some (.slice A4 a.keys.length c4) := q0.cell 4; have x5 : w1.cell? ⟨w.heap.size, 5, none⟩ = some (.slice A5 a.vals.length c5) := q0.cell 5; have x6 : w1.cell? ⟨w.heap.size, 6, none⟩ = some (.slice A6 a.args.length c6) := q0.cell 6; have x7 : w1.cell? ⟨w.heap.size, 7, none⟩ = some (.slice A7 a.null.length c7) := q0.cell 7; have x8 : w1.cell? ⟨w.heap.size, 8, none⟩ = some (.slice A8 a.formats.length c8) := q0.cell 8))
  go_ret
  exact ⟨rfl, hB⟩
set_option maxHeartbeats 2000000 in
set_option maxRecDepth 100000 in
theorem rr_1 (w : World) (a : Ask) (v : Value) (f : Few a) (har : AR (fun i => i < w.heap.size) w v a) (HK : Hid (decide (Kept a) = true)) (d1 : ((a.keys.length : Int) != (a.vals.length : Int)) = true) :
    Calls Try.prog 16 #[v] w fun e w' => e = .returned (.bool false) ∧ Below w.heap.size w w' := by
  obtain ⟨kv, vv, av, nv, fv, rfl, h4, h5, h6, h7, h8⟩ := har.ex
  obtain ⟨A4, c4, e4, hc4, hd4⟩ := h4.form
  rw [strs_len] at e4 hc4
  subst e4
  obtain ⟨A5, c5, e5, hc5, hd5⟩ := h5.form
  rw [strs_len] at e5 hc5
  subst e5
  obtain ⟨A6, c6, e6, hc6, hd6⟩ := h6.form
  rw [strs_len] at e6 hc6
  subst e6
  obtain ⟨A7, c7, e7, hc7, hd7⟩ := h7.form
  rw [bools_len] at e7 hc7
  subst e7
  obtain ⟨A8, c8, e8, hc8, hd8⟩ := h8.form
  rw [ints_len] at e8 hc8
  subst e8
  have q0 := Blk.new w 29 (askV a (.slice A4 a.keys.length c4) (.slice A5 a.vals.length c5) (.slice A6 a.args.length c6) (.slice A7 a.null.length c7) (.slice A8 a.formats.length c8))
  have hB := bel_alloc w (.cells (askV a (.slice A4 a.keys.length c4) (.slice A5 a.vals.length c5) (.slice A6 a.args.length c6) (.slice A7 a.null.length c7) (.slice A8 a.formats.length c8)) 29)
  have bxa := bx_new w a _ har
  have H4 := Lib.hid h4
  have H5 := Lib.hid h5
  have H6 := Lib.hid h6
  have H7 := Lib.hid h7
  have H8 := Lib.hid h8
  have HF := Lib.hid f
  clear har h4 h5 h6 h7 h8 f
  go_enter Try.func16, Try.ntmps16
  go_upto_region 1 with fail
  refine wp_region_lit ?_
  change wpList _ _ _ _ _ (w.alloc (.cells (askV a (.slice A4 a.keys.length c4) (.slice A5 a.vals.length c5) (.slice A6 a.args.length c6) (.slice A7 a.null.length c7) (.slice A8 a.formats.length c8)) 29))
  generalize w.alloc (.cells (askV a (.slice A4 a.keys.length c4) (.slice A5 a.vals.length c5) (.slice A6 a.args.length c6) (.slice A7 a.null.length c7) (.slice A8 a.formats.length c8)) 29) = W at *
  go_wp2_with (first
    | ((with_reducible refine load_box (op := ⟨some 6, .load 29 (.tmp 1), _, _, _, _⟩) 1 _ _ ?_ rfl ?_ bxa ?_); (· rfl); (· rfl); (intro kv6 vv6 av6 nv6 fv6 har6))
    | (go_at_call 24; (with_reducible refine (kept_b _ a _ har6 true HK.out).mono ?_); rintro e w1 ⟨rfl, hbz⟩; replace q0 := q0.below hbz q0.lt; replace bxa := bxa.below hbz; replace hB := grow_ hB hbz; clear hbz har6; have x1 : w1.cell? ⟨w.heap.size, 1, none⟩ = some (.string (ba a.name)) := q0.cell 1; have x2 : w1.cell? ⟨w.heap.size, 2, none⟩ = some (.string (ba a.portal)) := q0.cell 2; have x3 : w1.cell? ⟨w.heap.size, 3, none⟩ = some (.string (ba a.sql)) := q0.cell 3; have x4 : w1.cell? ⟨w.heap.size, 4, none⟩ = some (.slice A4 a.keys.length c4) := q0.cell 4; have x5 : w1.cell? ⟨w.heap.size, 5, none⟩ = some (.slice A5 a.vals.length c5) := q0.cell 5; have x6 : w1.cell? ⟨w.heap.size, 6, none⟩ = some (.slice A6 a.args.length c6) := q0.cell 6; have x7 : w1.cell? ⟨w.heap.size, 7, none⟩ = some (.slice A7 a.null.length c7) := q0.cell 7; have x8 : w1.cell? ⟨w.heap.size, 8, none⟩ = some (.slice A8 a.formats.length c8) := q0.cell 8))
  go_ret
  exact ⟨rfl, hB⟩
set_option maxHeartbeats 2000000 in
set_option maxRecDepth 100000 in
theorem rr_2 (w : World) (a : Ask) (v : Value) (f : Few a) (har : AR (fun i => i < w.heap.size) w v a) (HK : Hid (decide (Kept a) = true)) (d1 : ((a.keys.length : Int) != (a.vals.length : Int)) = false) (d2 : ((a.null.length : Int) != (a.args.length : Int)) = true) :
    Calls Try.prog 16 #[v] w fun e w' => e = .returned (.bool false) ∧ Below w.heap.size w w' := by
  obtain ⟨kv, vv, av, nv, fv, rfl, h4, h5, h6, h7, h8⟩ := har.ex
  obtain ⟨A4, c4, e4, hc4, hd4⟩ := h4.form
  rw [strs_len] at e4 hc4
  subst e4
  obtain ⟨A5, c5, e5, hc5, hd5⟩ := h5.form
  rw [strs_len] at e5 hc5
  subst e5
  obtain ⟨A6, c6, e6, hc6, hd6⟩ := h6.form
  rw [strs_len] at e6 hc6
  subst e6
  obtain ⟨A7, c7, e7, hc7, hd7⟩ := h7.form
  rw [bools_len] at e7 hc7
  subst e7
  obtain ⟨A8, c8, e8, hc8, hd8⟩ := h8.form
  rw [ints_len] at e8 hc8
  subst e8
  have q0 := Blk.new w 29 (askV a (.slice A4 a.keys.length c4) (.slice A5 a.vals.length c5) (.slice A6 a.args.length c6) (.slice A7 a.null.length c7) (.slice A8 a.formats.length c8))
  have hB := bel_alloc w (.cells (askV a (.slice A4 a.keys.length c4) (.slice A5 a.vals.length c5) (.slice A6 a.args.length c6) (.slice A7 a.null.length c7) (.slice A8 a.formats.length c8)) 29)
  have bxa := bx_new w a _ har
  have H4 := Lib.hid h4
  have H5 := Lib.hid h5
  have H6 := Lib.hid h6
  have H7 := Lib.hid h7
  have H8 := Lib.hid h8
  have HF := Lib.hid f
  clear har h4 h5 h6 h7 h8 f
  go_enter Try.func16, Try.ntmps16
  go_upto_region 1 with fail
  refine wp_region_lit ?_
  change wpList _ _ _ _ _ (w.alloc (.cells (askV a (.slice A4 a.keys.length c4) (.slice A5 a.vals.length c5) (.slice A6 a.args.length c6) (.slice A7 a.null.length c7) (.slice A8 a.formats.length c8)) 29))
  generalize w.alloc (.cells (askV a (.slice A4 a.keys.length c4) (.slice A5 a.vals.length c5) (.slice A6 a.args.length c6) (.slice A7 a.null.length c7) (.slice A8 a.formats.length c8)) 29) = W at *
  go_wp2_with (first
    | ((with_reducible refine load_box (op := ⟨some 6, .load 29 (.tmp 1), _, _, _, _⟩) 1 _ _ ?_ rfl ?_ bxa ?_); (· rfl); (· rfl); (intro kv6 vv6 av6 nv6 fv6 har6))
    | (go_at_call 24; (with_reducible refine (kept_b _ a _ har6 true HK.out).mono ?_); rintro e w1 ⟨rfl, hbz⟩; replace q0 := q0.below hbz q0.lt; replace bxa := bxa.below hbz; replace hB := grow_ hB hbz; clear hbz har6; have x1 : w1.cell? ⟨w.heap.size, 1, none⟩ = some (.string (ba a.name)) := q0.cell 1; have x2 : w1.cell? ⟨w.heap.size, 2, none⟩ = some (.string (ba a.portal)) := q0.cell 2; have x3 : w1.cell? ⟨w.heap.size, 3, none⟩ = some (.string (ba a.sql)) := q0.cell 3; have x4 : w1.cell? ⟨w.heap.size, 4, none⟩ = some (.slice A4 a.keys.length c4) := q0.cell 4; have x5 : w1.cell? ⟨w.heap.size, 5, none⟩ = some (.slice A5 a.vals.length c5) := q0.cell 5; have x6 : w1.cell? ⟨w.heap.size, 6, none⟩ = some (.slice A6 a.args.length c6) := q0.cell 6; have x7 : w1.cell? ⟨w.heap.size, 7, none⟩ = some (.slice A7 a.null.length c7) := q0.cell 7; have x8 : w1.cell? ⟨w.heap.size, 8, none⟩ = some (.slice A8 a.formats.length c8) := q0.cell 8))
  go_ret
  exact ⟨rfl, hB⟩
set_option maxHeartbeats 2000000 in
set_option maxRecDepth 100000 in
theorem rr_3 (w : World) (a : Ask) (v : Value) (f : Few a) (har : AR (fun i => i < w.heap.size) w v a) (HK : Hid (decide (Kept a) = true)) (d1 : ((a.keys.length : Int) != (a.vals.length : Int)) = false) (d2 : ((a.null.length : Int) != (a.args.length : Int)) = false) (d3 : decide ((100 : Int) < (a.args.length : Int)) = true) :
    Calls Try.prog 16 #[v] w fun e w' => e = .returned (.bool false) ∧ Below w.heap.size w w' := by
  obtain ⟨kv, vv, av, nv, fv, rfl, h4, h5, h6, h7, h8⟩ := har.ex
  obtain ⟨A4, c4, e4, hc4, hd4⟩ := h4.form
  rw [strs_len] at e4 hc4
  subst e4
  obtain ⟨A5, c5, e5, hc5, hd5⟩ := h5.form
  rw [strs_len] at e5 hc5
  subst e5
  obtain ⟨A6, c6, e6, hc6, hd6⟩ := h6.form
  rw [strs_len] at e6 hc6
  subst e6
  obtain ⟨A7, c7, e7, hc7, hd7⟩ := h7.form
  rw [bools_len] at e7 hc7
  subst e7
  obtain ⟨A8, c8, e8, hc8, hd8⟩ := h8.form
  rw [ints_len] at e8 hc8
  subst e8
  have q0 := Blk.new w 29 (askV a (.slice A4 a.keys.length c4) (.slice A5 a.vals.length c5) (.slice A6 a.args.length c6) (.slice A7 a.null.length c7) (.slice A8 a.formats.length c8))
  have hB := bel_alloc w (.cells (askV a (.slice A4 a.keys.length c4) (.slice A5 a.vals.length c5) (.slice A6 a.args.length c6) (.slice A7 a.null.length c7) (.slice A8 a.formats.length c8)) 29)
  have bxa := bx_new w a _ har
  have H4 := Lib.hid h4
  have H5 := Lib.hid h5
  have H6 := Lib.hid h6
  have H7 := Lib.hid h7
  have H8 := Lib.hid h8
  have HF := Lib.hid f
  clear har h4 h5 h6 h7 h8 f
  go_enter Try.func16, Try.ntmps16
  go_upto_region 1 with fail
  refine wp_region_lit ?_
  change wpList _ _ _ _ _ (w.alloc (.cells (askV a (.slice A4 a.keys.length c4) (.slice A5 a.vals.length c5) (.slice A6 a.args.length c6) (.slice A7 a.null.length c7) (.slice A8 a.formats.length c8)) 29))
  generalize w.alloc (.cells (askV a (.slice A4 a.keys.length c4) (.slice A5 a.vals.length c5) (.slice A6 a.args.length c6) (.slice A7 a.null.length c7) (.slice A8 a.formats.length c8)) 29) = W at *
  go_wp2_with (first
    | ((with_reducible refine load_box (op := ⟨some 6, .load 29 (.tmp 1), _, _, _, _⟩) 1 _ _ ?_ rfl ?_ bxa ?_); (· rfl); (· rfl); (intro kv6 vv6 av6 nv6 fv6 har6))
    | (go_at_call 24; (with_reducible refine (kept_b _ a _ har6 true HK.out).mono ?_); rintro e w1 ⟨rfl, hbz⟩; replace q0 := q0.below hbz q0.lt; replace bxa := bxa.below hbz; replace hB := grow_ hB hbz; clear hbz har6; have x1 : w1.cell? ⟨w.heap.size, 1, none⟩ = some (.string (ba a.name)) := q0.cell 1; have x2 : w1.cell? ⟨w.heap.size, 2, none⟩ = some (.string (ba a.portal)) := q0.cell 2; have x3 : w1.cell? ⟨w.heap.size, 3, none⟩ = some (.string (ba a.sql)) := q0.cell 3; have x4 : w1.cell? ⟨w.heap.size, 4, none⟩ = some (.slice A4 a.keys.length c4) := q0.cell 4; have x5 : w1.cell? ⟨w.heap.size, 5, none⟩ = some (.slice A5 a.vals.length c5) := q0.cell 5; have x6 : w1.cell? ⟨w.heap.size, 6, none⟩ = some (.slice A6 a.args.length c6) := q0.cell 6; have x7 : w1.cell? ⟨w.heap.size, 7, none⟩ = some (.slice A7 a.null.length c7) := q0.cell 7; have x8 : w1.cell? ⟨w.heap.size, 8, none⟩ = some (.slice A8 a.formats.length c8) := q0.cell 8))
  go_ret
  exact ⟨rfl, hB⟩
set_option maxHeartbeats 2000000 in
set_option maxRecDepth 100000 in
theorem rr_4 (w : World) (a : Ask) (v : Value) (f : Few a) (har : AR (fun i => i < w.heap.size) w v a) (HK : Hid (decide (Kept a) = true)) (d1 : ((a.keys.length : Int) != (a.vals.length : Int)) = false) (d2 : ((a.null.length : Int) != (a.args.length : Int)) = false) (d3 : decide ((100 : Int) < (a.args.length : Int)) = false) (d4 : decide ((100 : Int) < (a.formats.length : Int)) = true) :
    Calls Try.prog 16 #[v] w fun e w' => e = .returned (.bool false) ∧ Below w.heap.size w w' := by
  obtain ⟨kv, vv, av, nv, fv, rfl, h4, h5, h6, h7, h8⟩ := har.ex
  obtain ⟨A4, c4, e4, hc4, hd4⟩ := h4.form
  rw [strs_len] at e4 hc4
  subst e4
  obtain ⟨A5, c5, e5, hc5, hd5⟩ := h5.form
  rw [strs_len] at e5 hc5
  subst e5
  obtain ⟨A6, c6, e6, hc6, hd6⟩ := h6.form
  rw [strs_len] at e6 hc6
  subst e6
  obtain ⟨A7, c7, e7, hc7, hd7⟩ := h7.form
  rw [bools_len] at e7 hc7
  subst e7
  obtain ⟨A8, c8, e8, hc8, hd8⟩ := h8.form
  rw [ints_len] at e8 hc8
  subst e8
  have q0 := Blk.new w 29 (askV a (.slice A4 a.keys.length c4) (.slice A5 a.vals.length c5) (.slice A6 a.args.length c6) (.slice A7 a.null.length c7) (.slice A8 a.formats.length c8))
  have hB := bel_alloc w (.cells (askV a (.slice A4 a.keys.length c4) (.slice A5 a.vals.length c5) (.slice A6 a.args.length c6) (.slice A7 a.null.length c7) (.slice A8 a.formats.length c8)) 29)
  have bxa := bx_new w a _ har
  have H4 := Lib.hid h4
  have H5 := Lib.hid h5
  have H6 := Lib.hid h6
  have H7 := Lib.hid h7
  have H8 := Lib.hid h8
  have HF := Lib.hid f
  clear har h4 h5 h6 h7 h8 f
  go_enter Try.func16, Try.ntmps16
  go_upto_region 1 with fail
  refine wp_region_lit ?_
  change wpList _ _ _ _ _ (w.alloc (.cells (askV a (.slice A4 a.keys.length c4) (.slice A5 a.vals.length c5) (.slice A6 a.args.length c6) (.slice A7 a.null.length c7) (.slice A8 a.formats.length c8)) 29))
  generalize w.alloc (.cells (askV a (.slice A4 a.keys.length c4) (.slice A5 a.vals.length c5) (.slice A6 a.args.length c6) (.slice A7 a.null.length c7) (.slice A8 a.formats.length c8)) 29) = W at *
  go_wp2_with (first
    | ((with_reducible refine load_box (op := ⟨some 6, .load 29 (.tmp 1), _, _, _, _⟩) 1 _ _ ?_ rfl ?_ bxa ?_); (· rfl); (· rfl); (intro kv6 vv6 av6 nv6 fv6 har6))
    | (go_at_call 24; (with_reducible refine (kept_b _ a _ har6 true HK.out).mono ?_); rintro e w1 ⟨rfl, hbz⟩; replace q0 := q0.below hbz q0.lt; replace bxa := bxa.below hbz; replace hB := grow_ hB hbz; clear hbz har6; have x1 : w1.cell? ⟨w.heap.size, 1, none⟩ = some (.string (ba a.name)) := q0.cell 1; have x2 : w1.cell? ⟨w.heap.size, 2, none⟩ = some (.string (ba a.portal)) := q0.cell 2; have x3 : w1.cell? ⟨w.heap.size, 3, none⟩ = some (.string (ba a.sql)) := q0.cell 3; have x4 : w1.cell? ⟨w.heap.size, 4, none⟩ = some (.slice A4 a.keys.length c4) := q0.cell 4; have x5 : w1.cell? ⟨w.heap.size, 5, none⟩ = some (.slice A5 a.vals.length c5) := q0.cell 5; have x6 : w1.cell? ⟨w.heap.size, 6, none⟩ = some (.slice A6 a.args.length c6) := q0.cell 6; have x7 : w1.cell? ⟨w.heap.size, 7, none⟩ = some (.slice A7 a.null.length c7) := q0.cell 7; have x8 : w1.cell? ⟨w.heap.size, 8, none⟩ = some (.slice A8 a.formats.length c8) := q0.cell 8))
  go_ret
  exact ⟨rfl, hB⟩
set_option maxHeartbeats 2000000 in
set_option maxRecDepth 100000 in
theorem rr_5 (w : World) (a : Ask) (v : Value) (f : Few a) (har : AR (fun i => i < w.heap.size) w v a) (HK : Hid (decide (Kept a) = true)) (d1 : ((a.keys.length : Int) != (a.vals.length : Int)) = false) (d2 : ((a.null.length : Int) != (a.args.length : Int)) = false) (d3 : decide ((100 : Int) < (a.args.length : Int)) = false) (d4 : decide ((100 : Int) < (a.formats.length : Int)) = false) (d5 : decide ((100 : Int) < (a.keys.length : Int)) = true) :
    Calls Try.prog 16 #[v] w fun e w' => e = .returned (.bool false) ∧ Below w.heap.size w w' := by
  obtain ⟨kv, vv, av, nv, fv, rfl, h4, h5, h6, h7, h8⟩ := har.ex
  obtain ⟨A4, c4, e4, hc4, hd4⟩ := h4.form
  rw [strs_len] at e4 hc4
  subst e4
  obtain ⟨A5, c5, e5, hc5, hd5⟩ := h5.form
  rw [strs_len] at e5 hc5
  subst e5
  obtain ⟨A6, c6, e6, hc6, hd6⟩ := h6.form
  rw [strs_len] at e6 hc6
  subst e6
  obtain ⟨A7, c7, e7, hc7, hd7⟩ := h7.form
  rw [bools_len] at e7 hc7
  subst e7
  obtain ⟨A8, c8, e8, hc8, hd8⟩ := h8.form
  rw [ints_len] at e8 hc8
  subst e8
  have q0 := Blk.new w 29 (askV a (.slice A4 a.keys.length c4) (.slice A5 a.vals.length c5) (.slice A6 a.args.length c6) (.slice A7 a.null.length c7) (.slice A8 a.formats.length c8))
  have hB := bel_alloc w (.cells (askV a (.slice A4 a.keys.length c4) (.slice A5 a.vals.length c5) (.slice A6 a.args.length c6) (.slice A7 a.null.length c7) (.slice A8 a.formats.length c8)) 29)
  have bxa := bx_new w a _ har
  have H4 := Lib.hid h4
  have H5 := Lib.hid h5
  have H6 := Lib.hid h6
  have H7 := Lib.hid h7
  have H8 := Lib.hid h8
  have HF := Lib.hid f
  clear har h4 h5 h6 h7 h8 f
  go_enter Try.func16, Try.ntmps16
  go_upto_region 1 with fail
  refine wp_region_lit ?_
  change wpList _ _ _ _ _ (w.alloc (.cells (askV a (.slice A4 a.keys.length c4) (.slice A5 a.vals.length c5) (.slice A6 a.args.length c6) (.slice A7 a.null.length c7) (.slice A8 a.formats.length c8)) 29))
  generalize w.alloc (.cells (askV a (.slice A4 a.keys.length c4) (.slice A5 a.vals.length c5) (.slice A6 a.args.length c6) (.slice A7 a.null.length c7) (.slice A8 a.formats.length c8)) 29) = W at *
  go_wp2_with (first
    | ((with_reducible refine load_box (op := ⟨some 6, .load 29 (.tmp 1), _, _, _, _⟩) 1 _ _ ?_ rfl ?_ bxa ?_); (· rfl); (· rfl); (intro kv6 vv6 av6 nv6 fv6 har6))
    | (go_at_call 24; (with_reducible refine (kept_b _ a _ har6 true HK.out).mono ?_); rintro e w1 ⟨rfl, hbz⟩; replace q0 := q0.below hbz q0.lt; replace bxa := bxa.below hbz; replace hB := grow_ hB hbz; clear hbz har6; have x1 : w1.cell? ⟨w.heap.size, 1, none⟩ = some (.string (ba a.name)) := q0.cell 1; have x2 : w1.cell? ⟨w.heap.size, 2, none⟩ = some (.string (ba a.portal)) := q0.cell 2; have x3 : w1.cell? ⟨w.heap.size, 3, none⟩ = some (.string (ba a.sql)) := q0.cell 3; have x4 : w1.cell? ⟨w.heap.size, 4, none⟩ = some (.slice A4 a.keys.length c4) := q0.cell 4; have x5 : w1.cell? ⟨w.heap.size, 5, none⟩ = some (.slice A5 a.vals.length c5) := q0.cell 5; have x6 : w1.cell? ⟨w.heap.size, 6, none⟩ = some (.slice A6 a.args.length c6) := q0.cell 6; have x7 : w1.cell? ⟨w.heap.size, 7, none⟩ = some (.slice A7 a.null.length c7) := q0.cell 7; have x8 : w1.cell? ⟨w.heap.size, 8, none⟩ = some (.slice A8 a.formats.length c8) := q0.cell 8))
  go_ret
  exact ⟨rfl, hB⟩
set_option maxHeartbeats 2000000 in
set_option maxRecDepth 100000 in
theorem rr_6 (w : World) (a : Ask) (v : Value) (f : Few a) (har : AR (fun i => i < w.heap.size) w v a) (HK : Hid (decide (Kept a) = true)) (d1 : ((a.keys.length : Int) != (a.vals.length : Int)) = false) (d2 : ((a.null.length : Int) != (a.args.length : Int)) = false) (d3 : decide ((100 : Int) < (a.args.length : Int)) = false) (d4 : decide ((100 : Int) < (a.formats.length : Int)) = false) (d5 : decide ((100 : Int) < (a.keys.length : Int)) = false) (P0 : Hid (decide (∀ t ∈ [a.name, a.portal, a.sql], 0 ∉ t) = false)) :
    Calls Try.prog 16 #[v] w fun e w' => e = .returned (.bool false) ∧ Below w.heap.size w w' := by
  obtain ⟨kv, vv, av, nv, fv, rfl, h4, h5, h6, h7, h8⟩ := har.ex
  obtain ⟨A4, c4, e4, hc4, hd4⟩ := h4.form
  rw [strs_len] at e4 hc4
  subst e4
  obtain ⟨A5, c5, e5, hc5, hd5⟩ := h5.form
  rw [strs_len] at e5 hc5
  subst e5
  obtain ⟨A6, c6, e6, hc6, hd6⟩ := h6.form
  rw [strs_len] at e6 hc6
  subst e6
  obtain ⟨A7, c7, e7, hc7, hd7⟩ := h7.form
  rw [bools_len] at e7 hc7
  subst e7
  obtain ⟨A8, c8, e8, hc8, hd8⟩ := h8.form
  rw [ints_len] at e8 hc8
  subst e8
  have q0 := Blk.new w 29 (askV a (.slice A4 a.keys.length c4) (.slice A5 a.vals.length c5) (.slice A6 a.args.length c6) (.slice A7 a.null.length c7) (.slice A8 a.formats.length c8))
  have hB := bel_alloc w (.cells (askV a (.slice A4 a.keys.length c4) (.slice A5 a.vals.length c5) (.slice A6 a.args.length c6) (.slice A7 a.null.length c7) (.slice A8 a.formats.length c8)) 29)
  have bxa := bx_new w a _ har
  have H4 := Lib.hid h4
  have H5 := Lib.hid h5
  have H6 := Lib.hid h6
  have H7 := Lib.hid h7
  have H8 := Lib.hid h8
  have HF := Lib.hid f
  clear har h4 h5 h6 h7 h8 f
  go_enter Try.func16, Try.ntmps16
  go_upto_region 1 with fail
  refine wp_region_lit ?_
  change wpList _ _ _ _ _ (w.alloc (.cells (askV a (.slice A4 a.keys.length c4) (.slice A5 a.vals.length c5) (.slice A6 a.args.length c6) (.slice A7 a.null.length c7) (.slice A8 a.formats.length c8)) 29))
  generalize w.alloc (.cells (askV a (.slice A4 a.keys.length c4) (.slice A5 a.vals.length c5) (.slice A6 a.args.length c6) (.slice A7 a.null.length c7) (.slice A8 a.formats.length c8)) 29) = W at *
  go_wp2_with (first
    | ((with_reducible refine load_box (op := ⟨some 6, .load 29 (.tmp 1), _, _, _, _⟩) 1 _ _ ?_ rfl ?_ bxa ?_); (· rfl); (· rfl); (intro kv6 vv6 av6 nv6 fv6 har6))
    | (go_at_call 24; (with_reducible refine (kept_b _ a _ har6 true HK.out).mono ?_); rintro e w1 ⟨rfl, hbz⟩; replace q0 := q0.below hbz q0.lt; replace bxa := bxa.below hbz; replace hB := grow_ hB hbz; clear hbz har6; have x1 : w1.cell? ⟨w.heap.size, 1, none⟩ = some (.string (ba a.name)) := q0.cell 1; have x2 : w1.cell? ⟨w.heap.size, 2, none⟩ = some (.string (ba a.portal)) := q0.cell 2; have x3 : w1.cell? ⟨w.heap.size, 3, none⟩ = some (.string (ba a.sql)) := q0.cell 3; have x4 : w1.cell? ⟨w.heap.size, 4, none⟩ = some (.slice A4 a.keys.length c4) := q0.cell 4; have x5 : w1.cell? ⟨w.heap.size, 5, none⟩ = some (.slice A5 a.vals.length c5) := q0.cell 5; have x6 : w1.cell? ⟨w.heap.size, 6, none⟩ = some (.slice A6 a.args.length c6) := q0.cell 6; have x7 : w1.cell? ⟨w.heap.size, 7, none⟩ = some (.slice A7 a.null.length c7) := q0.cell 7; have x8 : w1.cell? ⟨w.heap.size, 8, none⟩ = some (.slice A8 a.formats.length c8) := q0.cell 8)
    | (go_at_call 25; (with_reducible refine (plain_b _ _ _ false P0.out (lr_three w1 a) (three_len a) (three_few HF.out)).mono ?_); rintro e w2 ⟨rfl, hw⟩; replace q0 := q0.alloc (.cells #[.string (ba a.name), .string (ba a.portal), .string (ba a.sql)] 9); replace bxa := bxa.below (bel_alloc w1 (.cells #[.string (ba a.name), .string (ba a.portal), .string (ba a.sql)] 9)); replace hB := grow_ hB (bel_alloc w1 (.cells #[.string (ba a.name), .string (ba a.portal), .string (ba a.sql)] 9)); rw [← hw] at q0 bxa hB; clear hw; have x4 : w2.cell? ⟨w.heap.size, 4, none⟩ = some (.slice A4 a.keys.length c4) := q0.cell 4; have x5 : w2.cell? ⟨w.heap.size, 5, none⟩ = some (.slice A5 a.vals.length c5) := q0.cell 5; have x6 : w2.cell? ⟨w.heap.size, 6, none⟩ = some (.slice A6 a.args.length c6) := q0.cell 6; have x7 : w2.cell? ⟨w.heap.size, 7, none⟩ = some (.slice A7 a.null.length c7) := q0.cell 7; have x8 : w2.cell? ⟨w.heap.size, 8, none⟩ = some (.slice A8 a.formats.length c8) := q0.cell 8; have x9 : w2.cell? ⟨w.heap.size, 9, none⟩ = some (.int .i64 a.most) := q0.cell 9; have x12 : w2.cell? ⟨w.heap.size, 12, none⟩ = some (.int .i64 a.pid) := q0.cell 12; have x13 : w2.cell? ⟨w.heap.size, 13, none⟩ = some (.int .i64 a.secret) := q0.cell 13))
  go_ret
  exact ⟨rfl, hB⟩
set_option maxHeartbeats 2000000 in
set_option maxRecDepth 100000 in
theorem rr_7 (w : World) (a : Ask) (v : Value) (f : Few a) (har : AR (fun i => i < w.heap.size) w v a) (HK : Hid (decide (Kept a) = true)) (d1 : ((a.keys.length : Int) != (a.vals.length : Int)) = false) (d2 : ((a.null.length : Int) != (a.args.length : Int)) = false) (d3 : decide ((100 : Int) < (a.args.length : Int)) = false) (d4 : decide ((100 : Int) < (a.formats.length : Int)) = false) (d5 : decide ((100 : Int) < (a.keys.length : Int)) = false) (P0 : Hid (decide (∀ t ∈ [a.name, a.portal, a.sql], 0 ∉ t) = true)) (P1 : Hid (decide (∀ t ∈ a.keys, 0 ∉ t) = false)) :
    Calls Try.prog 16 #[v] w fun e w' => e = .returned (.bool false) ∧ Below w.heap.size w w' := by
  obtain ⟨kv, vv, av, nv, fv, rfl, h4, h5, h6, h7, h8⟩ := har.ex
  obtain ⟨A4, c4, e4, hc4, hd4⟩ := h4.form
  rw [strs_len] at e4 hc4
  subst e4
  obtain ⟨A5, c5, e5, hc5, hd5⟩ := h5.form
  rw [strs_len] at e5 hc5
  subst e5
  obtain ⟨A6, c6, e6, hc6, hd6⟩ := h6.form
  rw [strs_len] at e6 hc6
  subst e6
  obtain ⟨A7, c7, e7, hc7, hd7⟩ := h7.form
  rw [bools_len] at e7 hc7
  subst e7
  obtain ⟨A8, c8, e8, hc8, hd8⟩ := h8.form
  rw [ints_len] at e8 hc8
  subst e8
  have q0 := Blk.new w 29 (askV a (.slice A4 a.keys.length c4) (.slice A5 a.vals.length c5) (.slice A6 a.args.length c6) (.slice A7 a.null.length c7) (.slice A8 a.formats.length c8))
  have hB := bel_alloc w (.cells (askV a (.slice A4 a.keys.length c4) (.slice A5 a.vals.length c5) (.slice A6 a.args.length c6) (.slice A7 a.null.length c7) (.slice A8 a.formats.length c8)) 29)
  have bxa := bx_new w a _ har
  have H4 := Lib.hid h4
  have H5 := Lib.hid h5
  have H6 := Lib.hid h6
  have H7 := Lib.hid h7
  have H8 := Lib.hid h8
  have HF := Lib.hid f
  clear har h4 h5 h6 h7 h8 f
  go_enter Try.func16, Try.ntmps16
  go_upto_region 1 with fail
  refine wp_region_lit ?_
  change wpList _ _ _ _ _ (w.alloc (.cells (askV a (.slice A4 a.keys.length c4) (.slice A5 a.vals.length c5) (.slice A6 a.args.length c6) (.slice A7 a.null.length c7) (.slice A8 a.formats.length c8)) 29))
  generalize w.alloc (.cells (askV a (.slice A4 a.keys.length c4) (.slice A5 a.vals.length c5) (.slice A6 a.args.length c6) (.slice A7 a.null.length c7) (.slice A8 a.formats.length c8)) 29) = W at *
  go_wp2_with (first
    | ((with_reducible refine load_box (op := ⟨some 6, .load 29 (.tmp 1), _, _, _, _⟩) 1 _ _ ?_ rfl ?_ bxa ?_); (· rfl); (· rfl); (intro kv6 vv6 av6 nv6 fv6 har6))
    | (go_at_call 24; (with_reducible refine (kept_b _ a _ har6 true HK.out).mono ?_); rintro e w1 ⟨rfl, hbz⟩; replace q0 := q0.below hbz q0.lt; replace bxa := bxa.below hbz; replace hB := grow_ hB hbz; clear hbz har6; have x1 : w1.cell? ⟨w.heap.size, 1, none⟩ = some (.string (ba a.name)) := q0.cell 1; have x2 : w1.cell? ⟨w.heap.size, 2, none⟩ = some (.string (ba a.portal)) := q0.cell 2; have x3 : w1.cell? ⟨w.heap.size, 3, none⟩ = some (.string (ba a.sql)) := q0.cell 3; have x4 : w1.cell? ⟨w.heap.size, 4, none⟩ = some (.slice A4 a.keys.length c4) := q0.cell 4; have x5 : w1.cell? ⟨w.heap.size, 5, none⟩ = some (.slice A5 a.vals.length c5) := q0.cell 5; have x6 : w1.cell? ⟨w.heap.size, 6, none⟩ = some (.slice A6 a.args.length c6) := q0.cell 6; have x7 : w1.cell? ⟨w.heap.size, 7, none⟩ = some (.slice A7 a.null.length c7) := q0.cell 7; have x8 : w1.cell? ⟨w.heap.size, 8, none⟩ = some (.slice A8 a.formats.length c8) := q0.cell 8)
    | (go_at_call 25; (with_reducible refine (plain_b _ _ _ true P0.out (lr_three w1 a) (three_len a) (three_few HF.out)).mono ?_); rintro e w2 ⟨rfl, hw⟩; replace q0 := q0.alloc (.cells #[.string (ba a.name), .string (ba a.portal), .string (ba a.sql)] 9); replace bxa := bxa.below (bel_alloc w1 (.cells #[.string (ba a.name), .string (ba a.portal), .string (ba a.sql)] 9)); replace hB := grow_ hB (bel_alloc w1 (.cells #[.string (ba a.name), .string (ba a.portal), .string (ba a.sql)] 9)); rw [← hw] at q0 bxa hB; clear hw; have x4 : w2.cell? ⟨w.heap.size, 4, none⟩ = some (.slice A4 a.keys.length c4) := q0.cell 4; have x5 : w2.cell? ⟨w.heap.size, 5, none⟩ = some (.slice A5 a.vals.length c5) := q0.cell 5; have x6 : w2.cell? ⟨w.heap.size, 6, none⟩ = some (.slice A6 a.args.length c6) := q0.cell 6; have x7 : w2.cell? ⟨w.heap.size, 7, none⟩ = some (.slice A7 a.null.length c7) := q0.cell 7; have x8 : w2.cell? ⟨w.heap.size, 8, none⟩ = some (.slice A8 a.formats.length c8) := q0.cell 8; have x9 : w2.cell? ⟨w.heap.size, 9, none⟩ = some (.int .i64 a.most) := q0.cell 9; have x12 : w2.cell? ⟨w.heap.size, 12, none⟩ = some (.int .i64 a.pid) := q0.cell 12; have x13 : w2.cell? ⟨w.heap.size, 13, none⟩ = some (.int .i64 a.secret) := q0.cell 13)
    | (go_at_call 25; (with_reducible refine (plain_b _ a.keys _ false P1.out (lr_up H4.out hB) HF.out.keys HF.out.keysT).mono ?_); rintro e w3 ⟨rfl, rfl⟩))
  go_ret
  exact ⟨rfl, hB⟩
set_option maxHeartbeats 2000000 in
set_option maxRecDepth 100000 in
theorem rr_8 (w : World) (a : Ask) (v : Value) (f : Few a) (har : AR (fun i => i < w.heap.size) w v a) (HK : Hid (decide (Kept a) = true)) (d1 : ((a.keys.length : Int) != (a.vals.length : Int)) = false) (d2 : ((a.null.length : Int) != (a.args.length : Int)) = false) (d3 : decide ((100 : Int) < (a.args.length : Int)) = false) (d4 : decide ((100 : Int) < (a.formats.length : Int)) = false) (d5 : decide ((100 : Int) < (a.keys.length : Int)) = false) (P0 : Hid (decide (∀ t ∈ [a.name, a.portal, a.sql], 0 ∉ t) = true)) (P1 : Hid (decide (∀ t ∈ a.keys, 0 ∉ t) = true)) (P2 : Hid (decide (∀ t ∈ a.vals, 0 ∉ t) = false)) :
    Calls Try.prog 16 #[v] w fun e w' => e = .returned (.bool false) ∧ Below w.heap.size w w' := by
  obtain ⟨kv, vv, av, nv, fv, rfl, h4, h5, h6, h7, h8⟩ := har.ex
  obtain ⟨A4, c4, e4, hc4, hd4⟩ := h4.form
  rw [strs_len] at e4 hc4
  subst e4
  obtain ⟨A5, c5, e5, hc5, hd5⟩ := h5.form
  rw [strs_len] at e5 hc5
  subst e5
  obtain ⟨A6, c6, e6, hc6, hd6⟩ := h6.form
  rw [strs_len] at e6 hc6
  subst e6
  obtain ⟨A7, c7, e7, hc7, hd7⟩ := h7.form
  rw [bools_len] at e7 hc7
  subst e7
  obtain ⟨A8, c8, e8, hc8, hd8⟩ := h8.form
  rw [ints_len] at e8 hc8
  subst e8
  have q0 := Blk.new w 29 (askV a (.slice A4 a.keys.length c4) (.slice A5 a.vals.length c5) (.slice A6 a.args.length c6) (.slice A7 a.null.length c7) (.slice A8 a.formats.length c8))
  have hB := bel_alloc w (.cells (askV a (.slice A4 a.keys.length c4) (.slice A5 a.vals.length c5) (.slice A6 a.args.length c6) (.slice A7 a.null.length c7) (.slice A8 a.formats.length c8)) 29)
  have bxa := bx_new w a _ har
  have H4 := Lib.hid h4
  have H5 := Lib.hid h5
  have H6 := Lib.hid h6
  have H7 := Lib.hid h7
  have H8 := Lib.hid h8
  have HF := Lib.hid f
  clear har h4 h5 h6 h7 h8 f
  go_enter Try.func16, Try.ntmps16
  go_upto_region 1 with fail
  refine wp_region_lit ?_
  change wpList _ _ _ _ _ (w.alloc (.cells (askV a (.slice A4 a.keys.length c4) (.slice A5 a.vals.length c5) (.slice A6 a.args.length c6) (.slice A7 a.null.length c7) (.slice A8 a.formats.length c8)) 29))
  generalize w.alloc (.cells (askV a (.slice A4 a.keys.length c4) (.slice A5 a.vals.length c5) (.slice A6 a.args.length c6) (.slice A7 a.null.length c7) (.slice A8 a.formats.length c8)) 29) = W at *
  go_wp2_with (first
    | ((with_reducible refine load_box (op := ⟨some 6, .load 29 (.tmp 1), _, _, _, _⟩) 1 _ _ ?_ rfl ?_ bxa ?_); (· rfl); (· rfl); (intro kv6 vv6 av6 nv6 fv6 har6))
    | (go_at_call 24; (with_reducible refine (kept_b _ a _ har6 true HK.out).mono ?_); rintro e w1 ⟨rfl, hbz⟩; replace q0 := q0.below hbz q0.lt; replace bxa := bxa.below hbz; replace hB := grow_ hB hbz; clear hbz har6; have x1 : w1.cell? ⟨w.heap.size, 1, none⟩ = some (.string (ba a.name)) := q0.cell 1; have x2 : w1.cell? ⟨w.heap.size, 2, none⟩ = some (.string (ba a.portal)) := q0.cell 2; have x3 : w1.cell? ⟨w.heap.size, 3, none⟩ = some (.string (ba a.sql)) := q0.cell 3; have x4 : w1.cell? ⟨w.heap.size, 4, none⟩ = some (.slice A4 a.keys.length c4) := q0.cell 4; have x5 : w1.cell? ⟨w.heap.size, 5, none⟩ = some (.slice A5 a.vals.length c5) := q0.cell 5; have x6 : w1.cell? ⟨w.heap.size, 6, none⟩ = some (.slice A6 a.args.length c6) := q0.cell 6; have x7 : w1.cell? ⟨w.heap.size, 7, none⟩ = some (.slice A7 a.null.length c7) := q0.cell 7; have x8 : w1.cell? ⟨w.heap.size, 8, none⟩ = some (.slice A8 a.formats.length c8) := q0.cell 8)
    | (go_at_call 25; (with_reducible refine (plain_b _ _ _ true P0.out (lr_three w1 a) (three_len a) (three_few HF.out)).mono ?_); rintro e w2 ⟨rfl, hw⟩; replace q0 := q0.alloc (.cells #[.string (ba a.name), .string (ba a.portal), .string (ba a.sql)] 9); replace bxa := bxa.below (bel_alloc w1 (.cells #[.string (ba a.name), .string (ba a.portal), .string (ba a.sql)] 9)); replace hB := grow_ hB (bel_alloc w1 (.cells #[.string (ba a.name), .string (ba a.portal), .string (ba a.sql)] 9)); rw [← hw] at q0 bxa hB; clear hw; have x4 : w2.cell? ⟨w.heap.size, 4, none⟩ = some (.slice A4 a.keys.length c4) := q0.cell 4; have x5 : w2.cell? ⟨w.heap.size, 5, none⟩ = some (.slice A5 a.vals.length c5) := q0.cell 5; have x6 : w2.cell? ⟨w.heap.size, 6, none⟩ = some (.slice A6 a.args.length c6) := q0.cell 6; have x7 : w2.cell? ⟨w.heap.size, 7, none⟩ = some (.slice A7 a.null.length c7) := q0.cell 7; have x8 : w2.cell? ⟨w.heap.size, 8, none⟩ = some (.slice A8 a.formats.length c8) := q0.cell 8; have x9 : w2.cell? ⟨w.heap.size, 9, none⟩ = some (.int .i64 a.most) := q0.cell 9; have x12 : w2.cell? ⟨w.heap.size, 12, none⟩ = some (.int .i64 a.pid) := q0.cell 12; have x13 : w2.cell? ⟨w.heap.size, 13, none⟩ = some (.int .i64 a.secret) := q0.cell 13)
    | (go_at_call 25; (with_reducible refine (plain_b _ a.keys _ true P1.out (lr_up H4.out hB) HF.out.keys HF.out.keysT).mono ?_); rintro e w3 ⟨rfl, rfl⟩)
    | (go_at_call 25; (with_reducible refine (plain_b _ a.vals _ false P2.out (lr_up H5.out hB) HF.out.vals HF.out.valsT).mono ?_); rintro e w3 ⟨rfl, rfl⟩))
  go_ret
  exact ⟨rfl, hB⟩
set_option maxHeartbeats 2000000 in
set_option maxRecDepth 100000 in
theorem rr_9 (w : World) (a : Ask) (v : Value) (f : Few a) (har : AR (fun i => i < w.heap.size) w v a) (HK : Hid (decide (Kept a) = true)) (d1 : ((a.keys.length : Int) != (a.vals.length : Int)) = false) (d2 : ((a.null.length : Int) != (a.args.length : Int)) = false) (d3 : decide ((100 : Int) < (a.args.length : Int)) = false) (d4 : decide ((100 : Int) < (a.formats.length : Int)) = false) (d5 : decide ((100 : Int) < (a.keys.length : Int)) = false) (P0 : Hid (decide (∀ t ∈ [a.name, a.portal, a.sql], 0 ∉ t) = true)) (P1 : Hid (decide (∀ t ∈ a.keys, 0 ∉ t) = true)) (P2 : Hid (decide (∀ t ∈ a.vals, 0 ∉ t) = true)) (F1 : Hid (decide (four a.pid) = false)) :
    Calls Try.prog 16 #[v] w fun e w' => e = .returned (.bool false) ∧ Below w.heap.size w w' := by
  obtain ⟨kv, vv, av, nv, fv, rfl, h4, h5, h6, h7, h8⟩ := har.ex
  obtain ⟨A4, c4, e4, hc4, hd4⟩ := h4.form
  rw [strs_len] at e4 hc4
  subst e4
  obtain ⟨A5, c5, e5, hc5, hd5⟩ := h5.form
  rw [strs_len] at e5 hc5
  subst e5
  obtain ⟨A6, c6, e6, hc6, hd6⟩ := h6.form
  rw [strs_len] at e6 hc6
  subst e6
  obtain ⟨A7, c7, e7, hc7, hd7⟩ := h7.form
  rw [bools_len] at e7 hc7
  subst e7
  obtain ⟨A8, c8, e8, hc8, hd8⟩ := h8.form
  rw [ints_len] at e8 hc8
  subst e8
  have q0 := Blk.new w 29 (askV a (.slice A4 a.keys.length c4) (.slice A5 a.vals.length c5) (.slice A6 a.args.length c6) (.slice A7 a.null.length c7) (.slice A8 a.formats.length c8))
  have hB := bel_alloc w (.cells (askV a (.slice A4 a.keys.length c4) (.slice A5 a.vals.length c5) (.slice A6 a.args.length c6) (.slice A7 a.null.length c7) (.slice A8 a.formats.length c8)) 29)
  have bxa := bx_new w a _ har
  have H4 := Lib.hid h4
  have H5 := Lib.hid h5
  have H6 := Lib.hid h6
  have H7 := Lib.hid h7
  have H8 := Lib.hid h8
  have HF := Lib.hid f
  clear har h4 h5 h6 h7 h8 f
  go_enter Try.func16, Try.ntmps16
  go_upto_region 1 with fail
  refine wp_region_lit ?_
  change wpList _ _ _ _ _ (w.alloc (.cells (askV a (.slice A4 a.keys.length c4) (.slice A5 a.vals.length c5) (.slice A6 a.args.length c6) (.slice A7 a.null.length c7) (.slice A8 a.formats.length c8)) 29))
  generalize w.alloc (.cells (askV a (.slice A4 a.keys.length c4) (.slice A5 a.vals.length c5) (.slice A6 a.args.length c6) (.slice A7 a.null.length c7) (.slice A8 a.formats.length c8)) 29) = W at *
  go_wp2_with (first
    | ((with_reducible refine load_box (op := ⟨some 6, .load 29 (.tmp 1), _, _, _, _⟩) 1 _ _ ?_ rfl ?_ bxa ?_); (· rfl); (· rfl); (intro kv6 vv6 av6 nv6 fv6 har6))
    | (go_at_call 24; (with_reducible refine (kept_b _ a _ har6 true HK.out).mono ?_); rintro e w1 ⟨rfl, hbz⟩; replace q0 := q0.below hbz q0.lt; replace bxa := bxa.below hbz; replace hB := grow_ hB hbz; clear hbz har6; have x1 : w1.cell? ⟨w.heap.size, 1, none⟩ = some (.string (ba a.name)) := q0.cell 1; have x2 : w1.cell? ⟨w.heap.size, 2, none⟩ = some (.string (ba a.portal)) := q0.cell 2; have x3 : w1.cell? ⟨w.heap.size, 3, none⟩ = some (.string (ba a.sql)) := q0.cell 3; have x4 : w1.cell? ⟨w.heap.size, 4, none⟩ = some (.slice A4 a.keys.length c4) := q0.cell 4; have x5 : w1.cell? ⟨w.heap.size, 5, none⟩ = some (.slice A5 a.vals.length c5) := q0.cell 5; have x6 : w1.cell? ⟨w.heap.size, 6, none⟩ = some (.slice A6 a.args.length c6) := q0.cell 6; have x7 : w1.cell? ⟨w.heap.size, 7, none⟩ = some (.slice A7 a.null.length c7) := q0.cell 7; have x8 : w1.cell? ⟨w.heap.size, 8, none⟩ = some (.slice A8 a.formats.length c8) := q0.cell 8)
    | (go_at_call 25; (with_reducible refine (plain_b _ _ _ true P0.out (lr_three w1 a) (three_len a) (three_few HF.out)).mono ?_); rintro e w2 ⟨rfl, hw⟩; replace q0 := q0.alloc (.cells #[.string (ba a.name), .string (ba a.portal), .string (ba a.sql)] 9); replace bxa := bxa.below (bel_alloc w1 (.cells #[.string (ba a.name), .string (ba a.portal), .string (ba a.sql)] 9)); replace hB := grow_ hB (bel_alloc w1 (.cells #[.string (ba a.name), .string (ba a.portal), .string (ba a.sql)] 9)); rw [← hw] at q0 bxa hB; clear hw; have x4 : w2.cell? ⟨w.heap.size, 4, none⟩ = some (.slice A4 a.keys.length c4) := q0.cell 4; have x5 : w2.cell? ⟨w.heap.size, 5, none⟩ = some (.slice A5 a.vals.length c5) := q0.cell 5; have x6 : w2.cell? ⟨w.heap.size, 6, none⟩ = some (.slice A6 a.args.length c6) := q0.cell 6; have x7 : w2.cell? ⟨w.heap.size, 7, none⟩ = some (.slice A7 a.null.length c7) := q0.cell 7; have x8 : w2.cell? ⟨w.heap.size, 8, none⟩ = some (.slice A8 a.formats.length c8) := q0.cell 8; have x9 : w2.cell? ⟨w.heap.size, 9, none⟩ = some (.int .i64 a.most) := q0.cell 9; have x12 : w2.cell? ⟨w.heap.size, 12, none⟩ = some (.int .i64 a.pid) := q0.cell 12; have x13 : w2.cell? ⟨w.heap.size, 13, none⟩ = some (.int .i64 a.secret) := q0.cell 13)
    | (go_at_call 25; (with_reducible refine (plain_b _ a.keys _ true P1.out (lr_up H4.out hB) HF.out.keys HF.out.keysT).mono ?_); rintro e w3 ⟨rfl, rfl⟩)
    | (go_at_call 25; (with_reducible refine (plain_b _ a.vals _ true P2.out (lr_up H5.out hB) HF.out.vals HF.out.valsT).mono ?_); rintro e w3 ⟨rfl, rfl⟩)
    | (go_at_call 26; (with_reducible refine (four_b a.pid _ false F1.out).mono ?_); rintro e w3 ⟨rfl, rfl⟩))
  go_ret
  exact ⟨rfl, hB⟩
set_option maxHeartbeats 2000000 in
set_option maxRecDepth 100000 in
theorem rr_10 (w : World) (a : Ask) (v : Value) (f : Few a) (har : AR (fun i => i < w.heap.size) w v a) (HK : Hid (decide (Kept a) = true)) (d1 : ((a.keys.length : Int) != (a.vals.length : Int)) = false) (d2 : ((a.null.length : Int) != (a.args.length : Int)) = false) (d3 : decide ((100 : Int) < (a.args.length : Int)) = false) (d4 : decide ((100 : Int) < (a.formats.length : Int)) = false) (d5 : decide ((100 : Int) < (a.keys.length : Int)) = false) (P0 : Hid (decide (∀ t ∈ [a.name, a.portal, a.sql], 0 ∉ t) = true)) (P1 : Hid (decide (∀ t ∈ a.keys, 0 ∉ t) = true)) (P2 : Hid (decide (∀ t ∈ a.vals, 0 ∉ t) = true)) (F1 : Hid (decide (four a.pid) = true)) (F2 : Hid (decide (four a.secret) = false)) :
    Calls Try.prog 16 #[v] w fun e w' => e = .returned (.bool false) ∧ Below w.heap.size w w' := by
  obtain ⟨kv, vv, av, nv, fv, rfl, h4, h5, h6, h7, h8⟩ := har.ex
  obtain ⟨A4, c4, e4, hc4, hd4⟩ := h4.form
  rw [strs_len] at e4 hc4
  subst e4
  obtain ⟨A5, c5, e5, hc5, hd5⟩ := h5.form
  rw [strs_len] at e5 hc5
  subst e5
  obtain ⟨A6, c6, e6, hc6, hd6⟩ := h6.form
  rw [strs_len] at e6 hc6
  subst e6
  obtain ⟨A7, c7, e7, hc7, hd7⟩ := h7.form
  rw [bools_len] at e7 hc7
  subst e7
  obtain ⟨A8, c8, e8, hc8, hd8⟩ := h8.form
  rw [ints_len] at e8 hc8
  subst e8
  have q0 := Blk.new w 29 (askV a (.slice A4 a.keys.length c4) (.slice A5 a.vals.length c5) (.slice A6 a.args.length c6) (.slice A7 a.null.length c7) (.slice A8 a.formats.length c8))
  have hB := bel_alloc w (.cells (askV a (.slice A4 a.keys.length c4) (.slice A5 a.vals.length c5) (.slice A6 a.args.length c6) (.slice A7 a.null.length c7) (.slice A8 a.formats.length c8)) 29)
  have bxa := bx_new w a _ har
  have H4 := Lib.hid h4
  have H5 := Lib.hid h5
  have H6 := Lib.hid h6
  have H7 := Lib.hid h7
  have H8 := Lib.hid h8
  have HF := Lib.hid f
  clear har h4 h5 h6 h7 h8 f
  go_enter Try.func16, Try.ntmps16
  go_upto_region 1 with fail
  refine wp_region_lit ?_
  change wpList _ _ _ _ _ (w.alloc (.cells (askV a (.slice A4 a.keys.length c4) (.slice A5 a.vals.length c5) (.slice A6 a.args.length c6) (.slice A7 a.null.length c7) (.slice A8 a.formats.length c8)) 29))
  generalize w.alloc (.cells (askV a (.slice A4 a.keys.length c4) (.slice A5 a.vals.length c5) (.slice A6 a.args.length c6) (.slice A7 a.null.length c7) (.slice A8 a.formats.length c8)) 29) = W at *
  go_wp2_with (first
    | ((with_reducible refine load_box (op := ⟨some 6, .load 29 (.tmp 1), _, _, _, _⟩) 1 _ _ ?_ rfl ?_ bxa ?_); (· rfl); (· rfl); (intro kv6 vv6 av6 nv6 fv6 har6))
    | (go_at_call 24; (with_reducible refine (kept_b _ a _ har6 true HK.out).mono ?_); rintro e w1 ⟨rfl, hbz⟩; replace q0 := q0.below hbz q0.lt; replace bxa := bxa.below hbz; replace hB := grow_ hB hbz; clear hbz har6; have x1 : w1.cell? ⟨w.heap.size, 1, none⟩ = some (.string (ba a.name)) := q0.cell 1; have x2 : w1.cell? ⟨w.heap.size, 2, none⟩ = some (.string (ba a.portal)) := q0.cell 2; have x3 : w1.cell? ⟨w.heap.size, 3, none⟩ = some (.string (ba a.sql)) := q0.cell 3; have x4 : w1.cell? ⟨w.heap.size, 4, none⟩ = some (.slice A4 a.keys.length c4) := q0.cell 4; have x5 : w1.cell? ⟨w.heap.size, 5, none⟩ = some (.slice A5 a.vals.length c5) := q0.cell 5; have x6 : w1.cell? ⟨w.heap.size, 6, none⟩ = some (.slice A6 a.args.length c6) := q0.cell 6; have x7 : w1.cell? ⟨w.heap.size, 7, none⟩ = some (.slice A7 a.null.length c7) := q0.cell 7; have x8 : w1.cell? ⟨w.heap.size, 8, none⟩ = some (.slice A8 a.formats.length c8) := q0.cell 8)
    | (go_at_call 25; (with_reducible refine (plain_b _ _ _ true P0.out (lr_three w1 a) (three_len a) (three_few HF.out)).mono ?_); rintro e w2 ⟨rfl, hw⟩; replace q0 := q0.alloc (.cells #[.string (ba a.name), .string (ba a.portal), .string (ba a.sql)] 9); replace bxa := bxa.below (bel_alloc w1 (.cells #[.string (ba a.name), .string (ba a.portal), .string (ba a.sql)] 9)); replace hB := grow_ hB (bel_alloc w1 (.cells #[.string (ba a.name), .string (ba a.portal), .string (ba a.sql)] 9)); rw [← hw] at q0 bxa hB; clear hw; have x4 : w2.cell? ⟨w.heap.size, 4, none⟩ = some (.slice A4 a.keys.length c4) := q0.cell 4; have x5 : w2.cell? ⟨w.heap.size, 5, none⟩ = some (.slice A5 a.vals.length c5) := q0.cell 5; have x6 : w2.cell? ⟨w.heap.size, 6, none⟩ = some (.slice A6 a.args.length c6) := q0.cell 6; have x7 : w2.cell? ⟨w.heap.size, 7, none⟩ = some (.slice A7 a.null.length c7) := q0.cell 7; have x8 : w2.cell? ⟨w.heap.size, 8, none⟩ = some (.slice A8 a.formats.length c8) := q0.cell 8; have x9 : w2.cell? ⟨w.heap.size, 9, none⟩ = some (.int .i64 a.most) := q0.cell 9; have x12 : w2.cell? ⟨w.heap.size, 12, none⟩ = some (.int .i64 a.pid) := q0.cell 12; have x13 : w2.cell? ⟨w.heap.size, 13, none⟩ = some (.int .i64 a.secret) := q0.cell 13)
    | (go_at_call 25; (with_reducible refine (plain_b _ a.keys _ true P1.out (lr_up H4.out hB) HF.out.keys HF.out.keysT).mono ?_); rintro e w3 ⟨rfl, rfl⟩)
    | (go_at_call 25; (with_reducible refine (plain_b _ a.vals _ true P2.out (lr_up H5.out hB) HF.out.vals HF.out.valsT).mono ?_); rintro e w3 ⟨rfl, rfl⟩)
    | (go_at_call 26; (with_reducible refine (four_b a.pid _ true F1.out).mono ?_); rintro e w3 ⟨rfl, rfl⟩)
    | (go_at_call 26; (with_reducible refine (four_b a.secret _ false F2.out).mono ?_); rintro e w3 ⟨rfl, rfl⟩))
  go_ret
  exact ⟨rfl, hB⟩
set_option maxHeartbeats 2000000 in
set_option maxRecDepth 100000 in
theorem rr_11 (w : World) (a : Ask) (v : Value) (f : Few a) (har : AR (fun i => i < w.heap.size) w v a) (HK : Hid (decide (Kept a) = true)) (d1 : ((a.keys.length : Int) != (a.vals.length : Int)) = false) (d2 : ((a.null.length : Int) != (a.args.length : Int)) = false) (d3 : decide ((100 : Int) < (a.args.length : Int)) = false) (d4 : decide ((100 : Int) < (a.formats.length : Int)) = false) (d5 : decide ((100 : Int) < (a.keys.length : Int)) = false) (P0 : Hid (decide (∀ t ∈ [a.name, a.portal, a.sql], 0 ∉ t) = true)) (P1 : Hid (decide (∀ t ∈ a.keys, 0 ∉ t) = true)) (P2 : Hid (decide (∀ t ∈ a.vals, 0 ∉ t) = true)) (F1 : Hid (decide (four a.pid) = true)) (F2 : Hid (decide (four a.secret) = true)) (d11 : decide (a.most < (0 : Int)) = true) :
    Calls Try.prog 16 #[v] w fun e w' => e = .returned (.bool false) ∧ Below w.heap.size w w' := by
  obtain ⟨kv, vv, av, nv, fv, rfl, h4, h5, h6, h7, h8⟩ := har.ex
  obtain ⟨A4, c4, e4, hc4, hd4⟩ := h4.form
  rw [strs_len] at e4 hc4
  subst e4
  obtain ⟨A5, c5, e5, hc5, hd5⟩ := h5.form
  rw [strs_len] at e5 hc5
  subst e5
  obtain ⟨A6, c6, e6, hc6, hd6⟩ := h6.form
  rw [strs_len] at e6 hc6
  subst e6
  obtain ⟨A7, c7, e7, hc7, hd7⟩ := h7.form
  rw [bools_len] at e7 hc7
  subst e7
  obtain ⟨A8, c8, e8, hc8, hd8⟩ := h8.form
  rw [ints_len] at e8 hc8
  subst e8
  have q0 := Blk.new w 29 (askV a (.slice A4 a.keys.length c4) (.slice A5 a.vals.length c5) (.slice A6 a.args.length c6) (.slice A7 a.null.length c7) (.slice A8 a.formats.length c8))
  have hB := bel_alloc w (.cells (askV a (.slice A4 a.keys.length c4) (.slice A5 a.vals.length c5) (.slice A6 a.args.length c6) (.slice A7 a.null.length c7) (.slice A8 a.formats.length c8)) 29)
  have bxa := bx_new w a _ har
  have H4 := Lib.hid h4
  have H5 := Lib.hid h5
  have H6 := Lib.hid h6
  have H7 := Lib.hid h7
  have H8 := Lib.hid h8
  have HF := Lib.hid f
  clear har h4 h5 h6 h7 h8 f
  go_enter Try.func16, Try.ntmps16
  go_upto_region 1 with fail
  refine wp_region_lit ?_
  change wpList _ _ _ _ _ (w.alloc (.cells (askV a (.slice A4 a.keys.length c4) (.slice A5 a.vals.length c5) (.slice A6 a.args.length c6) (.slice A7 a.null.length c7) (.slice A8 a.formats.length c8)) 29))
  generalize w.alloc (.cells (askV a (.slice A4 a.keys.length c4) (.slice A5 a.vals.length c5) (.slice A6 a.args.length c6) (.slice A7 a.null.length c7) (.slice A8 a.formats.length c8)) 29) = W at *
  go_wp2_with (first
    | ((with_reducible refine load_box (op := ⟨some 6, .load 29 (.tmp 1), _, _, _, _⟩) 1 _ _ ?_ rfl ?_ bxa ?_); (· rfl); (· rfl); (intro kv6 vv6 av6 nv6 fv6 har6))
    | (go_at_call 24; (with_reducible refine (kept_b _ a _ har6 true HK.out).mono ?_); rintro e w1 ⟨rfl, hbz⟩; replace q0 := q0.below hbz q0.lt; replace bxa := bxa.below hbz; replace hB := grow_ hB hbz; clear hbz har6; have x1 : w1.cell? ⟨w.heap.size, 1, none⟩ = some (.string (ba a.name)) := q0.cell 1; have x2 : w1.cell? ⟨w.heap.size, 2, none⟩ = some (.string (ba a.portal)) := q0.cell 2; have x3 : w1.cell? ⟨w.heap.size, 3, none⟩ = some (.string (ba a.sql)) := q0.cell 3; have x4 : w1.cell? ⟨w.heap.size, 4, none⟩ = some (.slice A4 a.keys.length c4) := q0.cell 4; have x5 : w1.cell? ⟨w.heap.size, 5, none⟩ = some (.slice A5 a.vals.length c5) := q0.cell 5; have x6 : w1.cell? ⟨w.heap.size, 6, none⟩ = some (.slice A6 a.args.length c6) := q0.cell 6; have x7 : w1.cell? ⟨w.heap.size, 7, none⟩ = some (.slice A7 a.null.length c7) := q0.cell 7; have x8 : w1.cell? ⟨w.heap.size, 8, none⟩ = some (.slice A8 a.formats.length c8) := q0.cell 8)
    | (go_at_call 25; (with_reducible refine (plain_b _ _ _ true P0.out (lr_three w1 a) (three_len a) (three_few HF.out)).mono ?_); rintro e w2 ⟨rfl, hw⟩; replace q0 := q0.alloc (.cells #[.string (ba a.name), .string (ba a.portal), .string (ba a.sql)] 9); replace bxa := bxa.below (bel_alloc w1 (.cells #[.string (ba a.name), .string (ba a.portal), .string (ba a.sql)] 9)); replace hB := grow_ hB (bel_alloc w1 (.cells #[.string (ba a.name), .string (ba a.portal), .string (ba a.sql)] 9)); rw [← hw] at q0 bxa hB; clear hw; have x4 : w2.cell? ⟨w.heap.size, 4, none⟩ = some (.slice A4 a.keys.length c4) := q0.cell 4; have x5 : w2.cell? ⟨w.heap.size, 5, none⟩ = some (.slice A5 a.vals.length c5) := q0.cell 5; have x6 : w2.cell? ⟨w.heap.size, 6, none⟩ = some (.slice A6 a.args.length c6) := q0.cell 6; have x7 : w2.cell? ⟨w.heap.size, 7, none⟩ = some (.slice A7 a.null.length c7) := q0.cell 7; have x8 : w2.cell? ⟨w.heap.size, 8, none⟩ = some (.slice A8 a.formats.length c8) := q0.cell 8; have x9 : w2.cell? ⟨w.heap.size, 9, none⟩ = some (.int .i64 a.most) := q0.cell 9; have x12 : w2.cell? ⟨w.heap.size, 12, none⟩ = some (.int .i64 a.pid) := q0.cell 12; have x13 : w2.cell? ⟨w.heap.size, 13, none⟩ = some (.int .i64 a.secret) := q0.cell 13)
    | (go_at_call 25; (with_reducible refine (plain_b _ a.keys _ true P1.out (lr_up H4.out hB) HF.out.keys HF.out.keysT).mono ?_); rintro e w3 ⟨rfl, rfl⟩)
    | (go_at_call 25; (with_reducible refine (plain_b _ a.vals _ true P2.out (lr_up H5.out hB) HF.out.vals HF.out.valsT).mono ?_); rintro e w3 ⟨rfl, rfl⟩)
    | (go_at_call 26; (with_reducible refine (four_b a.pid _ true F1.out).mono ?_); rintro e w3 ⟨rfl, rfl⟩)
    | (go_at_call 26; (with_reducible refine (four_b a.secret _ true F2.out).mono ?_); rintro e w3 ⟨rfl, rfl⟩))
  go_ret
  exact ⟨rfl, hB⟩
set_option maxHeartbeats 2000000 in
set_option maxRecDepth 100000 in
theorem rr_12 (w : World) (a : Ask) (v : Value) (f : Few a) (har : AR (fun i => i < w.heap.size) w v a) (HK : Hid (decide (Kept a) = true)) (d1 : ((a.keys.length : Int) != (a.vals.length : Int)) = false) (d2 : ((a.null.length : Int) != (a.args.length : Int)) = false) (d3 : decide ((100 : Int) < (a.args.length : Int)) = false) (d4 : decide ((100 : Int) < (a.formats.length : Int)) = false) (d5 : decide ((100 : Int) < (a.keys.length : Int)) = false) (P0 : Hid (decide (∀ t ∈ [a.name, a.portal, a.sql], 0 ∉ t) = true)) (P1 : Hid (decide (∀ t ∈ a.keys, 0 ∉ t) = true)) (P2 : Hid (decide (∀ t ∈ a.vals, 0 ∉ t) = true)) (F1 : Hid (decide (four a.pid) = true)) (F2 : Hid (decide (four a.secret) = true)) (d11 : decide (a.most < (0 : Int)) = false) (F3 : Hid (decide (four a.most) = false)) :
    Calls Try.prog 16 #[v] w fun e w' => e = .returned (.bool false) ∧ Below w.heap.size w w' := by
  obtain ⟨kv, vv, av, nv, fv, rfl, h4, h5, h6, h7, h8⟩ := har.ex
  obtain ⟨A4, c4, e4, hc4, hd4⟩ := h4.form
  rw [strs_len] at e4 hc4
  subst e4
  obtain ⟨A5, c5, e5, hc5, hd5⟩ := h5.form
  rw [strs_len] at e5 hc5
  subst e5
  obtain ⟨A6, c6, e6, hc6, hd6⟩ := h6.form
  rw [strs_len] at e6 hc6
  subst e6
  obtain ⟨A7, c7, e7, hc7, hd7⟩ := h7.form
  rw [bools_len] at e7 hc7
  subst e7
  obtain ⟨A8, c8, e8, hc8, hd8⟩ := h8.form
  rw [ints_len] at e8 hc8
  subst e8
  have q0 := Blk.new w 29 (askV a (.slice A4 a.keys.length c4) (.slice A5 a.vals.length c5) (.slice A6 a.args.length c6) (.slice A7 a.null.length c7) (.slice A8 a.formats.length c8))
  have hB := bel_alloc w (.cells (askV a (.slice A4 a.keys.length c4) (.slice A5 a.vals.length c5) (.slice A6 a.args.length c6) (.slice A7 a.null.length c7) (.slice A8 a.formats.length c8)) 29)
  have bxa := bx_new w a _ har
  have H4 := Lib.hid h4
  have H5 := Lib.hid h5
  have H6 := Lib.hid h6
  have H7 := Lib.hid h7
  have H8 := Lib.hid h8
  have HF := Lib.hid f
  clear har h4 h5 h6 h7 h8 f
  go_enter Try.func16, Try.ntmps16
  go_upto_region 1 with fail
  refine wp_region_lit ?_
  change wpList _ _ _ _ _ (w.alloc (.cells (askV a (.slice A4 a.keys.length c4) (.slice A5 a.vals.length c5) (.slice A6 a.args.length c6) (.slice A7 a.null.length c7) (.slice A8 a.formats.length c8)) 29))
  generalize w.alloc (.cells (askV a (.slice A4 a.keys.length c4) (.slice A5 a.vals.length c5) (.slice A6 a.args.length c6) (.slice A7 a.null.length c7) (.slice A8 a.formats.length c8)) 29) = W at *
  go_wp2_with (first
    | ((with_reducible refine load_box (op := ⟨some 6, .load 29 (.tmp 1), _, _, _, _⟩) 1 _ _ ?_ rfl ?_ bxa ?_); (· rfl); (· rfl); (intro kv6 vv6 av6 nv6 fv6 har6))
    | (go_at_call 24; (with_reducible refine (kept_b _ a _ har6 true HK.out).mono ?_); rintro e w1 ⟨rfl, hbz⟩; replace q0 := q0.below hbz q0.lt; replace bxa := bxa.below hbz; replace hB := grow_ hB hbz; clear hbz har6; have x1 : w1.cell? ⟨w.heap.size, 1, none⟩ = some (.string (ba a.name)) := q0.cell 1; have x2 : w1.cell? ⟨w.heap.size, 2, none⟩ = some (.string (ba a.portal)) := q0.cell 2; have x3 : w1.cell? ⟨w.heap.size, 3, none⟩ = some (.string (ba a.sql)) := q0.cell 3; have x4 : w1.cell? ⟨w.heap.size, 4, none⟩ = some (.slice A4 a.keys.length c4) := q0.cell 4; have x5 : w1.cell? ⟨w.heap.size, 5, none⟩ = some (.slice A5 a.vals.length c5) := q0.cell 5; have x6 : w1.cell? ⟨w.heap.size, 6, none⟩ = some (.slice A6 a.args.length c6) := q0.cell 6; have x7 : w1.cell? ⟨w.heap.size, 7, none⟩ = some (.slice A7 a.null.length c7) := q0.cell 7; have x8 : w1.cell? ⟨w.heap.size, 8, none⟩ = some (.slice A8 a.formats.length c8) := q0.cell 8)
    | (go_at_call 25; (with_reducible refine (plain_b _ _ _ true P0.out (lr_three w1 a) (three_len a) (three_few HF.out)).mono ?_); rintro e w2 ⟨rfl, hw⟩; replace q0 := q0.alloc (.cells #[.string (ba a.name), .string (ba a.portal), .string (ba a.sql)] 9); replace bxa := bxa.below (bel_alloc w1 (.cells #[.string (ba a.name), .string (ba a.portal), .string (ba a.sql)] 9)); replace hB := grow_ hB (bel_alloc w1 (.cells #[.string (ba a.name), .string (ba a.portal), .string (ba a.sql)] 9)); rw [← hw] at q0 bxa hB; clear hw; have x4 : w2.cell? ⟨w.heap.size, 4, none⟩ = some (.slice A4 a.keys.length c4) := q0.cell 4; have x5 : w2.cell? ⟨w.heap.size, 5, none⟩ = some (.slice A5 a.vals.length c5) := q0.cell 5; have x6 : w2.cell? ⟨w.heap.size, 6, none⟩ = some (.slice A6 a.args.length c6) := q0.cell 6; have x7 : w2.cell? ⟨w.heap.size, 7, none⟩ = some (.slice A7 a.null.length c7) := q0.cell 7; have x8 : w2.cell? ⟨w.heap.size, 8, none⟩ = some (.slice A8 a.formats.length c8) := q0.cell 8; have x9 : w2.cell? ⟨w.heap.size, 9, none⟩ = some (.int .i64 a.most) := q0.cell 9; have x12 : w2.cell? ⟨w.heap.size, 12, none⟩ = some (.int .i64 a.pid) := q0.cell 12; have x13 : w2.cell? ⟨w.heap.size, 13, none⟩ = some (.int .i64 a.secret) := q0.cell 13)
    | (go_at_call 25; (with_reducible refine (plain_b _ a.keys _ true P1.out (lr_up H4.out hB) HF.out.keys HF.out.keysT).mono ?_); rintro e w3 ⟨rfl, rfl⟩)
    | (go_at_call 25; (with_reducible refine (plain_b _ a.vals _ true P2.out (lr_up H5.out hB) HF.out.vals HF.out.valsT).mono ?_); rintro e w3 ⟨rfl, rfl⟩)
    | (go_at_call 26; (with_reducible refine (four_b a.pid _ true F1.out).mono ?_); rintro e w3 ⟨rfl, rfl⟩)
    | (go_at_call 26; (with_reducible refine (four_b a.secret _ true F2.out).mono ?_); rintro e w3 ⟨rfl, rfl⟩)
    | (go_at_call 26; (with_reducible refine (four_b a.most _ false F3.out).mono ?_); rintro e w3 ⟨rfl, rfl⟩))
  go_ret
  exact ⟨rfl, hB⟩
end Go.Proofs.Ytojgeilihoilnaa
