/- What the document's own nothing, bare and kept answer. Condition: none.
   What the document's own bare and kept answer. Condition: none.
   What the document's own kept answers. Condition: none. -/
import Derived.Test.YtojgeilihoilnaaM8
import Derived.Test.YtojgeilihoilnaaM12
set_option linter.unusedSimpArgs false
set_option linter.unusedVariables false
namespace Go.Proofs.Ytojgeilihoilnaa
open Go.ChangeShapes Go.WideShapes Go.ChangeAt Go.RowKit
set_option linter.unusedVariables false

theorem nothing_dec (a : Ask) : decide (a = { kind := a.kind }) = (decide (a.name = []) && decide (a.portal = []) && decide (a.sql = []) && decide (a.keys = []) && decide (a.vals = []) && decide (a.args = []) && decide (a.null = []) && decide (a.formats = []) &&
    decide (a.most = 0) && decide (a.what = 0) && !a.cancel && decide (a.pid = 0) && decide (a.secret = 0)) := by
  cases a
  rw [Bool.eq_iff_iff]
  simp [and_assoc]
theorem len_beq {α : Type} (l : List α) (n : Nat) (h : n = l.length) : (((n : Nat) : Int) == 0) = decide (l = []) := by
  subst h
  rw [Bool.eq_iff_iff]; simp

set_option maxHeartbeats 1000000 in
set_option maxRecDepth 100000 in
theorem nothing_any {P : Nat → Prop} (w : World) (a : Ask) (v : Value) (h1 : AR P w v a) :
    Calls Try.prog 54 #[v] w fun e w' => e = .returned (.bool (decide (a = { kind := a.kind }))) ∧ Below w.heap.size w w' := by
  obtain ⟨kv, vv, av, nv, fv, rfl, k1, k2, k3, k4, k5⟩ := h1.ex
  clear h1
  obtain ⟨A1, p1, rfl, _, _⟩ := k1.form
  obtain ⟨A2, p2, rfl, _, _⟩ := k2.form
  obtain ⟨A3, p3, rfl, _, _⟩ := k3.form
  obtain ⟨A4, p4, rfl, _, _⟩ := k4.form
  obtain ⟨A5, p5, rfl, _, _⟩ := k5.form
  clear k1 k2 k3 k4 k5
  have hE := nothing_dec a
  have q1 : Blk (w.alloc (.cells (askV a (.slice A1 (strs a.keys).length p1) (.slice A2 (strs a.vals).length p2) (.slice A3 (strs a.args).length p3) (.slice A4 (bools a.null).length p4) (.slice A5 (ints a.formats).length p5)) 29)) w.heap.size 29 (askV a (.slice A1 (strs a.keys).length p1) (.slice A2 (strs a.vals).length p2) (.slice A3 (strs a.args).length p3) (.slice A4 (bools a.null).length p4) (.slice A5 (ints a.formats).length p5)) := Blk.new w _ _
  have hB : Below w.heap.size w (w.alloc (.cells (askV a (.slice A1 (strs a.keys).length p1) (.slice A2 (strs a.vals).length p2) (.slice A3 (strs a.args).length p3) (.slice A4 (bools a.null).length p4) (.slice A5 (ints a.formats).length p5)) 29)) := (Below.refl _ _).alloc (Nat.le_refl _) _
  have g0 : ((ba a.name).toList == (ba []).toList) = decide (a.name = []) := ba_beq _ _
  have g1 : ((ba a.portal).toList == (ba []).toList) = decide (a.portal = []) := ba_beq _ _
  have g2 : ((ba a.sql).toList == (ba []).toList) = decide (a.sql = []) := ba_beq _ _
  have g3 : (((strs a.keys).length : Int) == 0) = decide (a.keys = []) := len_beq a.keys _ (by simp [strs])
  have g4 : (((strs a.vals).length : Int) == 0) = decide (a.vals = []) := len_beq a.vals _ (by simp [strs])
  have g5 : (((strs a.args).length : Int) == 0) = decide (a.args = []) := len_beq a.args _ (by simp [strs])
  have g6 : (((bools a.null).length : Int) == 0) = decide (a.null = []) := len_beq a.null _ (by simp [bools])
  have g7 : (((ints a.formats).length : Int) == 0) = decide (a.formats = []) := len_beq a.formats _ (by simp [ints])
  have g8 : (a.most == 0) = decide (a.most = 0) := int_beq _ _
  have g9 : ((a.what.toNat : Int) == ((0 : UInt8).toNat : Int)) = decide (a.what = 0) := u8_beq _ _
  have g11 : (a.pid == 0) = decide (a.pid = 0) := int_beq _ _
  have g12 : (a.secret == 0) = decide (a.secret = 0) := int_beq _ _
  generalize decide (a.name = []) = b0 at *
  have G0 := Lib.hid g0
  clear g0
  generalize decide (a.portal = []) = b1 at *
  have G1 := Lib.hid g1
  clear g1
  generalize decide (a.sql = []) = b2 at *
  have G2 := Lib.hid g2
  clear g2
  generalize decide (a.keys = []) = b3 at *
  have G3 := Lib.hid g3
  clear g3
  generalize decide (a.vals = []) = b4 at *
  have G4 := Lib.hid g4
  clear g4
  generalize decide (a.args = []) = b5 at *
  have G5 := Lib.hid g5
  clear g5
  generalize decide (a.null = []) = b6 at *
  have G6 := Lib.hid g6
  clear g6
  generalize decide (a.formats = []) = b7 at *
  have G7 := Lib.hid g7
  clear g7
  generalize decide (a.most = 0) = b8 at *
  have G8 := Lib.hid g8
  clear g8
  generalize decide (a.what = 0) = b9 at *
  have G9 := Lib.hid g9
  clear g9
  generalize decide (a.pid = 0) = b11 at *
  have G11 := Lib.hid g11
  clear g11
  generalize decide (a.secret = 0) = b12 at *
  have G12 := Lib.hid g12
  clear g12
  have HE := Lib.hid hE
  have Q1 := Lib.hid q1
  have HB := Lib.hid hB
  clear hE q1 hB
  go_enter Try.func54, Try.ntmps54
  go_upto_region 1 with fail
  refine wp_region_lit ?_
  change wpList _ _ _ _ _ (w.alloc (.cells (askV a (.slice A1 (strs a.keys).length p1) (.slice A2 (strs a.vals).length p2) (.slice A3 (strs a.args).length p3) (.slice A4 (bools a.null).length p4) (.slice A5 (ints a.formats).length p5)) 29))
  generalize hW : w.alloc (.cells (askV a (.slice A1 (strs a.keys).length p1) (.slice A2 (strs a.vals).length p2) (.slice A3 (strs a.args).length p3) (.slice A4 (bools a.null).length p4) (.slice A5 (ints a.formats).length p5)) 29) = W at *
  refine first_one (d := 3) (Fr.refl (n := 71) (by kernel_rfl)) 1 1 29 9 b0 (by decide) (by decide) rfl rfl (.pointer (some ⟨w.heap.size, 0, none⟩)) (.pointer (some ⟨w.heap.size, 1, none⟩)) (.string (ba a.name)) (by kernel_rfl) (f_ask _ 1 (by decide) _) (l_str _ _ _ (Q1.out.cell 1)) (fun X hX => o_bin .eql 9 9 _ _ (.string (ba a.name)) (.string (ba [])) (.bool b0) rfl hX rfl (by rw [← G0.out]; exact e_str _ _ _ _ _)) (fun Z0 H0 r0 => ?_)
  have x1 : Z0.tmps.getD 1 undef = .pointer (some ⟨w.heap.size, 0, none⟩) := (H0.low 1 (by decide)).trans (by kernel_rfl)
  refine conj_one (m := 6) (gi := 3) (Fr.refl H0.size) 5 1 2 29 9 (b0) b1 r0 (by kernel_rfl) (by decide) (by decide) rfl rfl (.pointer (some ⟨w.heap.size, 0, none⟩)) (.pointer (some ⟨w.heap.size, 2, none⟩)) (.string (ba a.portal)) x1 (f_ask _ 2 (by decide) _) (l_str _ _ _ (Q1.out.cell 2)) (fun X hX => o_bin .eql 9 9 _ _ (.string (ba a.portal)) (.string (ba [])) (.bool b1) rfl hX rfl (by rw [← G1.out]; exact e_str _ _ _ _ _)) (fun Z1 H1 r1 => ?_)
  have x2 : Z1.tmps.getD 1 undef = .pointer (some ⟨w.heap.size, 0, none⟩) := (H1.low 1 (by decide)).trans x1
  refine conj_one (m := 11) (gi := 8) (Fr.refl H1.size) 10 1 3 29 9 (b0 && b1) b2 r1 (by kernel_rfl) (by decide) (by decide) rfl rfl (.pointer (some ⟨w.heap.size, 0, none⟩)) (.pointer (some ⟨w.heap.size, 3, none⟩)) (.string (ba a.sql)) x2 (f_ask _ 3 (by decide) _) (l_str _ _ _ (Q1.out.cell 3)) (fun X hX => o_bin .eql 9 9 _ _ (.string (ba a.sql)) (.string (ba [])) (.bool b2) rfl hX rfl (by rw [← G2.out]; exact e_str _ _ _ _ _)) (fun Z2 H2 r2 => ?_)
  have x3 : Z2.tmps.getD 1 undef = .pointer (some ⟨w.heap.size, 0, none⟩) := (H2.low 1 (by decide)).trans x2
  refine conj_two (m := 16) (gi := 13) (Fr.refl H2.size) 15 1 4 29 25 (b0 && b1 && b2) b3 r2 (by kernel_rfl) (by decide) (by decide) rfl rfl rfl rfl (.pointer (some ⟨w.heap.size, 0, none⟩)) (.pointer (some ⟨w.heap.size, 4, none⟩)) ((.slice A1 (strs a.keys).length p1)) (.int .i64 ((strs a.keys).length : Nat)) x3 (f_ask _ 4 (by decide) _) (l_strs _ _ _ (Q1.out.cell 4)) (fun X hX => o_len _ _ _ hX (n_strs _ _ _ _ _)) (fun X hX => o_bin .eql 3 3 _ _ (.int .i64 ((strs a.keys).length : Nat)) (.int .i64 0) (.bool b3) rfl hX rfl (by rw [← G3.out]; exact e_int _ _ _ _ _)) (fun Z3 H3 r3 => ?_)
  have x4 : Z3.tmps.getD 1 undef = .pointer (some ⟨w.heap.size, 0, none⟩) := (H3.low 1 (by decide)).trans x3
  refine conj_two (m := 22) (gi := 19) (Fr.refl H3.size) 21 1 5 29 25 (b0 && b1 && b2 && b3) b4 r3 (by kernel_rfl) (by decide) (by decide) rfl rfl rfl rfl (.pointer (some ⟨w.heap.size, 0, none⟩)) (.pointer (some ⟨w.heap.size, 5, none⟩)) ((.slice A2 (strs a.vals).length p2)) (.int .i64 ((strs a.vals).length : Nat)) x4 (f_ask _ 5 (by decide) _) (l_strs _ _ _ (Q1.out.cell 5)) (fun X hX => o_len _ _ _ hX (n_strs _ _ _ _ _)) (fun X hX => o_bin .eql 3 3 _ _ (.int .i64 ((strs a.vals).length : Nat)) (.int .i64 0) (.bool b4) rfl hX rfl (by rw [← G4.out]; exact e_int _ _ _ _ _)) (fun Z4 H4 r4 => ?_)
  have x5 : Z4.tmps.getD 1 undef = .pointer (some ⟨w.heap.size, 0, none⟩) := (H4.low 1 (by decide)).trans x4
  refine conj_two (m := 28) (gi := 25) (Fr.refl H4.size) 27 1 6 29 25 (b0 && b1 && b2 && b3 && b4) b5 r4 (by kernel_rfl) (by decide) (by decide) rfl rfl rfl rfl (.pointer (some ⟨w.heap.size, 0, none⟩)) (.pointer (some ⟨w.heap.size, 6, none⟩)) ((.slice A3 (strs a.args).length p3)) (.int .i64 ((strs a.args).length : Nat)) x5 (f_ask _ 6 (by decide) _) (l_strs _ _ _ (Q1.out.cell 6)) (fun X hX => o_len _ _ _ hX (n_strs _ _ _ _ _)) (fun X hX => o_bin .eql 3 3 _ _ (.int .i64 ((strs a.args).length : Nat)) (.int .i64 0) (.bool b5) rfl hX rfl (by rw [← G5.out]; exact e_int _ _ _ _ _)) (fun Z5 H5 r5 => ?_)
  have x6 : Z5.tmps.getD 1 undef = .pointer (some ⟨w.heap.size, 0, none⟩) := (H5.low 1 (by decide)).trans x5
  refine conj_two (m := 34) (gi := 31) (Fr.refl H5.size) 33 1 7 29 26 (b0 && b1 && b2 && b3 && b4 && b5) b6 r5 (by kernel_rfl) (by decide) (by decide) rfl rfl rfl rfl (.pointer (some ⟨w.heap.size, 0, none⟩)) (.pointer (some ⟨w.heap.size, 7, none⟩)) ((.slice A4 (bools a.null).length p4)) (.int .i64 ((bools a.null).length : Nat)) x6 (f_ask _ 7 (by decide) _) (l_bools _ _ _ (Q1.out.cell 7)) (fun X hX => o_len _ _ _ hX (n_bools _ _ _ _ _)) (fun X hX => o_bin .eql 3 3 _ _ (.int .i64 ((bools a.null).length : Nat)) (.int .i64 0) (.bool b6) rfl hX rfl (by rw [← G6.out]; exact e_int _ _ _ _ _)) (fun Z6 H6 r6 => ?_)
  have x7 : Z6.tmps.getD 1 undef = .pointer (some ⟨w.heap.size, 0, none⟩) := (H6.low 1 (by decide)).trans x6
  refine conj_two (m := 40) (gi := 37) (Fr.refl H6.size) 39 1 8 29 27 (b0 && b1 && b2 && b3 && b4 && b5 && b6) b7 r6 (by kernel_rfl) (by decide) (by decide) rfl rfl rfl rfl (.pointer (some ⟨w.heap.size, 0, none⟩)) (.pointer (some ⟨w.heap.size, 8, none⟩)) ((.slice A5 (ints a.formats).length p5)) (.int .i64 ((ints a.formats).length : Nat)) x7 (f_ask _ 8 (by decide) _) (l_ints _ _ _ (Q1.out.cell 8)) (fun X hX => o_len _ _ _ hX (n_ints _ _ _ _ _)) (fun X hX => o_bin .eql 3 3 _ _ (.int .i64 ((ints a.formats).length : Nat)) (.int .i64 0) (.bool b7) rfl hX rfl (by rw [← G7.out]; exact e_int _ _ _ _ _)) (fun Z7 H7 r7 => ?_)
  have x8 : Z7.tmps.getD 1 undef = .pointer (some ⟨w.heap.size, 0, none⟩) := (H7.low 1 (by decide)).trans x7
  refine conj_one (m := 46) (gi := 43) (Fr.refl H7.size) 45 1 9 29 3 (b0 && b1 && b2 && b3 && b4 && b5 && b6 && b7) b8 r7 (by kernel_rfl) (by decide) (by decide) rfl rfl (.pointer (some ⟨w.heap.size, 0, none⟩)) (.pointer (some ⟨w.heap.size, 9, none⟩)) (.int .i64 a.most) x8 (f_ask _ 9 (by decide) _) (l_int _ _ _ (Q1.out.cell 9)) (fun X hX => o_bin .eql 3 3 _ _ (.int .i64 a.most) (.int .i64 0) (.bool b8) rfl hX rfl (by rw [← G8.out]; exact e_int _ _ _ _ _)) (fun Z8 H8 r8 => ?_)
  have x9 : Z8.tmps.getD 1 undef = .pointer (some ⟨w.heap.size, 0, none⟩) := (H8.low 1 (by decide)).trans x8
  refine conj_one (m := 51) (gi := 48) (Fr.refl H8.size) 50 1 10 29 5 (b0 && b1 && b2 && b3 && b4 && b5 && b6 && b7 && b8) b9 r8 (by kernel_rfl) (by decide) (by decide) rfl rfl (.pointer (some ⟨w.heap.size, 0, none⟩)) (.pointer (some ⟨w.heap.size, 10, none⟩)) (u8 a.what) x9 (f_ask _ 10 (by decide) _) (l_u8 _ _ _ (Q1.out.cell 10)) (fun X hX => o_bin .eql 5 5 _ _ (u8 a.what) (.int .u8 0) (.bool b9) rfl hX rfl (by rw [← G9.out]; exact e_u8 _ _ _ _ _)) (fun Z9 H9 r9 => ?_)
  have x10 : Z9.tmps.getD 1 undef = .pointer (some ⟨w.heap.size, 0, none⟩) := (H9.low 1 (by decide)).trans x9
  refine conj_one (m := 56) (gi := 53) (Fr.refl H9.size) 55 1 11 29 4 (b0 && b1 && b2 && b3 && b4 && b5 && b6 && b7 && b8 && b9) (!a.cancel) r9 (by kernel_rfl) (by decide) (by decide) rfl rfl (.pointer (some ⟨w.heap.size, 0, none⟩)) (.pointer (some ⟨w.heap.size, 11, none⟩)) (.bool a.cancel) x10 (f_ask _ 11 (by decide) _) (l_bool _ _ _ (Q1.out.cell 11)) (fun X hX => o_not _ _ _ rfl hX) (fun Z10 H10 r10 => ?_)
  have x11 : Z10.tmps.getD 1 undef = .pointer (some ⟨w.heap.size, 0, none⟩) := (H10.low 1 (by decide)).trans x10
  refine conj_one (m := 61) (gi := 58) (Fr.refl H10.size) 60 1 12 29 3 (b0 && b1 && b2 && b3 && b4 && b5 && b6 && b7 && b8 && b9 && (!a.cancel)) b11 r10 (by kernel_rfl) (by decide) (by decide) rfl rfl (.pointer (some ⟨w.heap.size, 0, none⟩)) (.pointer (some ⟨w.heap.size, 12, none⟩)) (.int .i64 a.pid) x11 (f_ask _ 12 (by decide) _) (l_int _ _ _ (Q1.out.cell 12)) (fun X hX => o_bin .eql 3 3 _ _ (.int .i64 a.pid) (.int .i64 0) (.bool b11) rfl hX rfl (by rw [← G11.out]; exact e_int _ _ _ _ _)) (fun Z11 H11 r11 => ?_)
  have x12 : Z11.tmps.getD 1 undef = .pointer (some ⟨w.heap.size, 0, none⟩) := (H11.low 1 (by decide)).trans x11
  refine conj_one (m := 66) (gi := 63) (Fr.refl H11.size) 65 1 13 29 3 (b0 && b1 && b2 && b3 && b4 && b5 && b6 && b7 && b8 && b9 && (!a.cancel) && b11) b12 r11 (by kernel_rfl) (by decide) (by decide) rfl rfl (.pointer (some ⟨w.heap.size, 0, none⟩)) (.pointer (some ⟨w.heap.size, 13, none⟩)) (.int .i64 a.secret) x12 (f_ask _ 13 (by decide) _) (l_int _ _ _ (Q1.out.cell 13)) (fun X hX => o_bin .eql 3 3 _ _ (.int .i64 a.secret) (.int .i64 0) (.bool b12) rfl hX rfl (by rw [← G12.out]; exact e_int _ _ _ _ _)) (fun Z12 H12 r12 => ?_)
  refine s_assign (.tmp 70) _ rfl r12 (wanted_none rfl) ?_
  have hd0 : Z12.defers = [] := by rw [H12.defers, H11.defers, H10.defers, H9.defers, H8.defers, H7.defers, H6.defers, H5.defers, H4.defers, H3.defers, H2.defers, H1.defers, H0.defers]
  have hr := H12.get 2 (.bool (b0 && b1 && b2 && b3 && b4 && b5 && b6 && b7 && b8 && b9 && (!a.cancel) && b11 && b12)) (by decide) 2
  rw [if_pos rfl] at hr
  have hd : (Z12.put (some 2) (.bool (b0 && b1 && b2 && b3 && b4 && b5 && b6 && b7 && b8 && b9 && (!a.cancel) && b11 && b12))).defers = [] := hd0
  change wpList _ _ _ [] (Z12.put (some 2) (.bool (b0 && b1 && b2 && b3 && b4 && b5 && b6 && b7 && b8 && b9 && (!a.cancel) && b11 && b12))) _
  generalize Z12.put (some 2) (.bool (b0 && b1 && b2 && b3 && b4 && b5 && b6 && b7 && b8 && b9 && (!a.cancel) && b11 && b12)) = z' at *
  refine wpList_nil ?_
  clear r0 r1 r2 r3 r4 r5 r6 r7 r8 r9 r10 r11 r12 H0 H1 H2 H3 H4 H5 H6 H7 H8 H9 H10 H11 H12
  go_wp2
  exact bodyPost_ret (v := .bool (b0 && b1 && b2 && b3 && b4 && b5 && b6 && b7 && b8 && b9 && (!a.cancel) && b11 && b12)) ((results_tmp rfl _ _ _).trans (by rw [hr])) hd ⟨by rw [HE.out], HB.out⟩
end Go.Proofs.Ytojgeilihoilnaa
namespace Go.Proofs.Ytojgeilihoilnaa
open Go.ChangeShapes Go.WideShapes Go.ChangeAt Go.RowKit
set_option linter.unusedVariables false

theorem bare_out (g : Nat) (wf : World) (tmps : Array Value) (cs : Array Value) (h2 : tmps.getD 2 undef = .pointer (some ⟨g, 0, none⟩)) (hb : Blk wf g 29 cs) (hz : cs.size = 14) :
    (results Try.f53 tmps).run Try.prog wf = .ok (.agg cs) wf := by
  obtain ⟨fs, hu⟩ := askTy
  have hl := run_loadVar_row (P := Try.prog) wf g 29 29 cs (0, 0) (.struct fs) hb hu rfl (by rw [askInfo, hz])
  have h2' : tmps[2]?.getD undef = .pointer (some ⟨g, 0, none⟩) := by simpa using h2
  simp [results, Try.f53, h2', asAddr, hl]
set_option maxRecDepth 100000 in
theorem bare_any (w : World) (a : Ask) (kv vv av nv fv : Value) (hone : (askV { a with kind := 0 } kv vv av nv fv).all (·.oneCell') = true) :
    Calls Try.prog 53 #[.agg (askV a kv vv av nv fv)] w fun e w' => e = .returned (.agg (askV { a with kind := 0 } kv vv av nv fv)) ∧ Below w.heap.size w w' := by
  have q1 : Blk ((w.alloc (.cells (askV a kv vv av nv fv) 29)).alloc (.cells (askV {} (.slice none 0 0) (.slice none 0 0) (.slice none 0 0) (.slice none 0 0) (.slice none 0 0)) 29)) w.heap.size 29 (askV a kv vv av nv fv) := (Blk.new w _ _).alloc _
  have q2 : Blk ((w.alloc (.cells (askV a kv vv av nv fv) 29)).alloc (.cells (askV {} (.slice none 0 0) (.slice none 0 0) (.slice none 0 0) (.slice none 0 0) (.slice none 0 0)) 29)) (w.heap.size + 1) 29 (askV {} (.slice none 0 0) (.slice none 0 0) (.slice none 0 0) (.slice none 0 0) (.slice none 0 0)) := by
    have := Blk.new (w.alloc (.cells (askV a kv vv av nv fv) 29)) 29 (askV {} (.slice none 0 0) (.slice none 0 0) (.slice none 0 0) (.slice none 0 0) (.slice none 0 0))
    simpa using this
  have hB : Below w.heap.size w ((w.alloc (.cells (askV a kv vv av nv fv) 29)).alloc (.cells (askV {} (.slice none 0 0) (.slice none 0 0) (.slice none 0 0) (.slice none 0 0) (.slice none 0 0)) 29)) := ((Below.refl _ _).alloc (Nat.le_refl _) _).alloc (by simp) _
  obtain ⟨fs, hu⟩ := askTy
  have HU := Lib.hid hu
  have HO := Lib.hid hone
  have HB := Lib.hid hB
  clear hu hone hB
  go_enter Try.func53, Try.ntmps53
  go_upto_region 1 with fail
  change Code.wp _ _ _ _ ((w.alloc (.cells (askV a kv vv av nv fv) 29)).alloc (.cells (askV {} (.slice none 0 0) (.slice none 0 0) (.slice none 0 0) (.slice none 0 0) (.slice none 0 0)) 29))
  generalize hW : ((w.alloc (.cells (askV a kv vv av nv fv) 29)).alloc (.cells (askV {} (.slice none 0 0) (.slice none 0 0) (.slice none 0 0) (.slice none 0 0) (.slice none 0 0)) 29)) = W at *
  have c0 : W.cell? ⟨w.heap.size, 0, none⟩ = some (u8 a.kind) := q1.cell 0
  have f0 := q1.frozen 0
  have q1' : Blk (W.setCell ⟨w.heap.size, 0, none⟩ (.int .u8 0)) w.heap.size 29 (askV { a with kind := 0 } kv vv av nv fv) := q1.set_ 0 _
  have q2' : Blk (W.setCell ⟨w.heap.size, 0, none⟩ (.int .u8 0)) (w.heap.size + 1) 29 (askV {} (.slice none 0 0) (.slice none 0 0) (.slice none 0 0) (.slice none 0 0) (.slice none 0 0)) := q2.far (show w.heap.size + 1 ≠ w.heap.size by omega) _
  have Q1 := Lib.hid q1'
  have Q2 := Lib.hid q2'
  clear q1 q2 q1' q2'
  have HBL : Hid ((W.setCell ⟨w.heap.size, 0, none⟩ (.int .u8 0)).heap[w.heap.size]? = some (.cells (askV { a with kind := 0 } kv vv av nv fv) 29 (0, 0))) := Lib.hid Q1.out
  go_wp2_with (first
        | ((with_reducible refine wpList_load_row (o := ⟨some 4, .load 29 (.tmp 1), _, _, _, _⟩) rfl 29 (.tmp 1) rfl w.heap.size ?_ 29 (askV { a with kind := 0 } kv vv av nv fv) (0, 0) (.struct fs) HBL.out HU.out ?_ (askInfo' _ _ _ _ _ _) ?_); (· rfl); (· rfl))
        | ((with_reducible refine wpList_store_mid (op := ⟨none, .store 29 (.tmp 2) (.tmp 4), _, _, _, _⟩) rfl 29 (.tmp 2) (.tmp 4) rfl (w.heap.size + 1) 0 (askV { a with kind := 0 } kv vv av nv fv) ?_ ?_ (Q2.out.there _ (Nat.le_refl _)) (askInfo' _ _ _ _ _ _) (HO.out) ?_); (· rfl); (· rfl)))
  have hb := Q2.out.store (askV { a with kind := 0 } kv vv av nv fv) rfl
  have k1 : Keeps [w.heap.size] W (W.setCell ⟨w.heap.size, 0, none⟩ (.int .u8 0)) := (Keeps.refl _ _).set _ _ _ (.inl (by simp))
  have k2 := Keeps.sets (w.heap.size + 1) (.inl (List.mem_singleton.2 rfl)) (askV { a with kind := 0 } kv vv av nv fv).toList 0 _ (Keeps.refl [w.heap.size + 1] (W.setCell ⟨w.heap.size, 0, none⟩ (.int .u8 0)))
  exact bodyPost_ret (v := .agg (askV { a with kind := 0 } kv vv av nv fv)) (bare_out _ _ _ _ (by rfl) hb rfl) rfl ⟨rfl, HB.out.trans ((k1.below (fun i hi => by rw [List.mem_singleton.1 hi]; omega) HB.out.size).trans (k2.below (fun i hi => by rw [List.mem_singleton.1 hi]; omega) (Nat.le_trans HB.out.size k1.size)))⟩
end Go.Proofs.Ytojgeilihoilnaa
namespace Go.Proofs.Ytojgeilihoilnaa
open Go.ChangeShapes Go.WideShapes Go.ChangeAt Go.RowKit
set_option linter.unusedVariables false

/-- kept's own b is made at X -/
structure Kmid (w : World) (a : Ask) (kv vv av nv fv : Value) (X : Nat) (wx : World) : Prop where
  b0 : Blk wx w.heap.size 29 (askV a kv vv av nv fv)
  bX : Blk wx X 29 (askV { a with kind := 0 } kv vv av nv fv)
  hX : w.heap.size + 1 ≤ X
  bel : Below w.heap.size w wx
theorem st_load_ask (w : World) (g : Nat) (cs : Array Value) (hb : Blk w g 29 cs) (hz : cs.size = 14) : (Instr.loadAt 29 (.pointer (some ⟨g, 0, none⟩))).run Try.prog w = .ok (.agg cs) w := by
  obtain ⟨fs, hu⟩ := askTy
  exact run_loadVar_row (P := Try.prog) w g 29 29 cs (0, 0) (.struct fs) hb hu rfl (by rw [askInfo, hz])

section
variable {P : Program} {ops : Array Oper} {Q : Exit → Act → World → Prop} {a : Act} {w : World} {o : Oper} {rest : List Oper}
theorem s_call1 {d : Option Tmp} {ts : Array TypeId} {ty : TypeId} {pos : String} {after : Array Edge} {g : Option (Nat × Bool)} (f : FuncId) (x : Operand) (u : Value) (R : Ending → World → Prop) (hx : a.eval x = u)
    (hw : Region.wanted { dst := d, op := .call { callee := .value (.func f), args := #[x], argTypes := ts }, type := ty, pos, after, guard := g } (yielded ops a.tmps) = true) (hen : Enters P f)
    (hc : Calls P f #[u] w R) (hR : ∀ e w', R e w' → ∃ r, e = .returned r ∧ wpList P ops Q rest (a.put d r) w') :
    wpList P ops Q ({ dst := d, op := .call { callee := .value (.func f), args := #[x], argTypes := ts }, type := ty, pos, after, guard := g } :: rest) a w :=
  BigFrame.wpList_want hw fun K hK => by
    have hne : (execOp a.eval { dst := d, op := .call { callee := .value (.func f), args := #[x], argTypes := ts }, type := ty, pos, after, guard := g }).run P w = .ok (.enter f #[u]) w := by
      show (callFunc f (#[] ++ #[x].map a.eval ++ #[])).run P w = _
      rw [hen]
      simp [hx]
    unfold Oper.wp
    rw [hne, Oper.upon_enter]
    refine hc.mono ?_
    intro e w' h
    obtain ⟨r, rfl, h2⟩ := hR e w' h
    exact hK _ _ h2
theorem s_val2 (v : Value) (w2 : World) (hw : Region.wanted o (yielded ops a.tmps) = true) (hx : (execOp a.eval o).run P w = .ok (.value v) w2) (h : wpList P ops Q rest (a.put o.dst v) w2) : wpList P ops Q (o :: rest) a w :=
  BigFrame.wpList_want hw fun K hK => by
    unfold Oper.wp
    rw [hx]
    exact hK _ _ h
end
theorem alloc_ask {d : Option Tmp} {ty : TypeId} {pos : String} {after : Array Edge} {g : Option (Nat × Bool)} (f : Operand → Value) (w : World) : (execOp f { dst := d, op := .alloc 29, type := ty, pos, after, guard := g }).run Try.prog w =
    .ok (.value (.pointer (some ⟨w.heap.size, 0, none⟩))) (w.alloc (.cells (askV {} (.slice none 0 0) (.slice none 0 0) (.slice none 0 0) (.slice none 0 0) (.slice none 0 0)) 29)) := by
  unfold execOp
  go_simp
  rfl
set_option maxHeartbeats 400000 in
set_option maxRecDepth 100000 in
theorem kept_0c (w : World) (a : Ask) (kv vv av nv fv : Value) (hk : a.kind = 0) (hc : a.cancel = true) (hone : (askV { a with kind := 0 } kv vv av nv fv).all (·.oneCell') = true)
    (hn : ∀ w', Below w.heap.size w w' → Calls Try.prog 54 #[.agg (askV { a with kind := 0, cancel := false, pid := 0, secret := 0 } kv vv av nv fv)] w' fun e w2 => e = .returned (.bool (decide ({ a with kind := 0, cancel := false, pid := 0, secret := 0 } = ({} : Ask)))) ∧ Below w'.heap.size w' w2) :
    Calls Try.prog 24 #[.agg (askV a kv vv av nv fv)] w fun e w' => e = .returned (.bool (decide ({ a with kind := 0, cancel := false, pid := 0, secret := 0 } = ({} : Ask)))) ∧ Below w.heap.size w w' := by
  have q0 : Blk (w.alloc (.cells (askV a kv vv av nv fv) 29)) w.heap.size 29 (askV a kv vv av nv fv) := Blk.new w _ _
  have hB0 : Below w.heap.size w (w.alloc (.cells (askV a kv vv av nv fv) 29)) := (Below.refl _ _).alloc (Nat.le_refl _) _
  obtain ⟨fs, hu⟩ := askTy
  have HU := Lib.hid hu
  have HN := Lib.hid hn
  clear hu hn
  generalize decide ({ a with kind := 0, cancel := false, pid := 0, secret := 0 } = ({} : Ask)) = bb at *
  go_enter Try.func24, Try.ntmps24
  go_upto_region 1 with fail
  refine wp_region_lit ?_
  change wpList _ _ _ _ _ (w.alloc (.cells (askV a kv vv av nv fv) 29))
  have hs0 : (w.alloc (.cells (askV a kv vv av nv fv) 29)).heap.size = w.heap.size + 1 := by simp
  generalize (w.alloc (.cells (askV a kv vv av nv fv) 29)) = W0 at *
  refine s_load 29 (.tmp 1) _ _ rfl rfl (st_load_ask W0 _ _ q0 rfl) (wanted_none rfl) ?_
  refine s_call1 53 (.tmp 4) _ _ rfl (wanted_none rfl) (enters_of Try.func53 (by kernel_rfl) rfl) (bare_any W0 a kv vv av nv fv hone) ?_
  rintro e w1 ⟨rfl, hb1⟩
  refine ⟨_, rfl, ?_⟩
  have qn : Blk (w1.alloc (.cells (askV {} (.slice none 0 0) (.slice none 0 0) (.slice none 0 0) (.slice none 0 0) (.slice none 0 0)) 29)) w1.heap.size 29 (askV {} (.slice none 0 0) (.slice none 0 0) (.slice none 0 0) (.slice none 0 0) (.slice none 0 0)) := Blk.new _ _ _
  have hz1 := hb1.size
  have QN := Lib.hid qn
  have HO := Lib.hid hone
  clear qn hone
  refine s_val2 _ _ (wanted_none rfl) (alloc_ask _ _) ?_
  dsimp only
  refine wpList_store_mid rfl 29 (.tmp 3) (.tmp 5) rfl w1.heap.size 0 (askV { a with kind := 0 } kv vv av nv fv) rfl rfl (QN.out.there _ (Nat.le_refl _)) (askInfo' _ _ _ _ _ _) (HO.out) ?_
  have qX := QN.out.store (askV { a with kind := 0 } kv vv av nv fv) rfl
  have hk3 := Keeps.sets w1.heap.size (.inl (List.mem_singleton.2 rfl)) (askV { a with kind := 0 } kv vv av nv fv).toList 0 _ (Keeps.refl [w1.heap.size] (w1.alloc (.cells (askV {} (.slice none 0 0) (.slice none 0 0) (.slice none 0 0) (.slice none 0 0) (.slice none 0 0)) 29)))
  have qW : Blk ((w1.alloc (.cells (askV {} (.slice none 0 0) (.slice none 0 0) (.slice none 0 0) (.slice none 0 0) (.slice none 0 0)) 29)).setCells w1.heap.size 0 (askV { a with kind := 0 } kv vv av nv fv).toList) w.heap.size 29 (askV a kv vv av nv fv) :=
    ((q0.below hb1 q0.lt).alloc _).keeps hk3 (fun e => by have := List.mem_singleton.1 e; omega)
  have hle : w.heap.size ≤ w1.heap.size := by omega
  have hB : Below w.heap.size w ((w1.alloc (.cells (askV {} (.slice none 0 0) (.slice none 0 0) (.slice none 0 0) (.slice none 0 0) (.slice none 0 0)) 29)).setCells w1.heap.size 0 (askV { a with kind := 0 } kv vv av nv fv).toList) :=
    ((hB0.trans (hb1.mono (by omega))).alloc hle _).trans (hk3.below (fun i hi => by rw [List.mem_singleton.1 hi]; exact hle) (by simp; omega))
  generalize ((w1.alloc (.cells (askV {} (.slice none 0 0) (.slice none 0 0) (.slice none 0 0) (.slice none 0 0) (.slice none 0 0)) 29)).setCells w1.heap.size 0 (askV { a with kind := 0 } kv vv av nv fv).toList) = W at *
  have hX : w.heap.size + 1 ≤ w1.heap.size := by omega
  clear hk3 QN HO q0 hB0 hb1 hz1
  generalize w1.heap.size = X at *
  have hne : w.heap.size ≠ X := by omega
  have c0 : W.cell? ⟨w.heap.size, 0, none⟩ = some (.int .u8 0) := by rw [qW.cell 0]; show some (u8 a.kind) = _; rw [hk]; rfl
  have c11 : W.cell? ⟨w.heap.size, 11, none⟩ = some (.bool true) := by rw [qW.cell 11]; show some (Value.bool a.cancel) = _; rw [hc]
  have e11 : W.cell? ⟨X, 11, none⟩ = some (.bool a.cancel) := qX.cell 11
  have f11 := qX.frozen 11
  have e12 : W.cell? ⟨X, 12, none⟩ = some (.int .i64 a.pid) := qX.cell 12
  have f12 := qX.frozen 12
  have e13 : W.cell? ⟨X, 13, none⟩ = some (.int .i64 a.secret) := qX.cell 13
  have f13 := qX.frozen 13
  clear hk hc
  have qF : Blk (((W.setCell ⟨X, 11, none⟩ (.bool false)).setCell ⟨X, 12, none⟩ (.int .i64 0)).setCell ⟨X, 13, none⟩ (.int .i64 0)) X 29 (askV { a with kind := 0, cancel := false, pid := 0, secret := 0 } kv vv av nv fv) := (((qX.set_ 11 _).set_ 12 _).set_ 13 _)
  have hbF : Below w.heap.size w (((W.setCell ⟨X, 11, none⟩ (.bool false)).setCell ⟨X, 12, none⟩ (.int .i64 0)).setCell ⟨X, 13, none⟩ (.int .i64 0)) := hB.trans (((((Keeps.refl [X] W).set _ _ _ (.inl (by simp))).set _ _ _ (.inl (by simp))).set _ _ _ (.inl (by simp))).below (fun i hi => by rw [List.mem_singleton.1 hi]; omega) hB.size)
  have HC := Lib.hid (HN.out _ hbF)
  have QF := Lib.hid qF
  have HB := Lib.hid hbF
  clear HN qF hbF hB qX qW hX hs0
  have HBL : Hid ((((W.setCell ⟨X, 11, none⟩ (.bool false)).setCell ⟨X, 12, none⟩ (.int .i64 0)).setCell ⟨X, 13, none⟩ (.int .i64 0)).heap[X]? = some (.cells (askV { a with kind := 0, cancel := false, pid := 0, secret := 0 } kv vv av nv fv) 29 (0, 0))) := Lib.hid QF.out
  refine wpList_nil ?_
  go_wp2_with (first
    | ((with_reducible refine wpList_load_row (o := ⟨some 45, .load 29 (.tmp 3), _, _, _, _⟩) rfl 29 (.tmp 3) rfl X ?_ 29 (askV { a with kind := 0, cancel := false, pid := 0, secret := 0 } kv vv av nv fv) (0, 0) (.struct fs) HBL.out HU.out ?_ (askInfo' _ _ _ _ _ _) ?_); (· rfl); (· rfl))
    | (go_at_call 54; refine HC.out.mono ?_; rintro e w2 ⟨rfl, hb2⟩; have hfin := HB.out.trans (hb2.mono HB.out.size); clear hb2))
  go_ret
  exact ⟨rfl, hfin⟩
set_option maxHeartbeats 400000 in
set_option maxRecDepth 100000 in
theorem kept_0n (w : World) (a : Ask) (kv vv av nv fv : Value) (hk : a.kind = 0) (hc : a.cancel = false) (hone : (askV { a with kind := 0 } kv vv av nv fv).all (·.oneCell') = true)
    (hn : ∀ w', Below w.heap.size w w' → Calls Try.prog 54 #[.agg (askV { a with kind := 0, keys := [], vals := [] } (.slice none 0 0) (.slice none 0 0) av nv fv)] w' fun e w2 => e = .returned (.bool (decide ({ a with kind := 0, keys := [], vals := [] } = ({} : Ask)))) ∧ Below w'.heap.size w' w2) :
    Calls Try.prog 24 #[.agg (askV a kv vv av nv fv)] w fun e w' => e = .returned (.bool (decide ({ a with kind := 0, keys := [], vals := [] } = ({} : Ask)))) ∧ Below w.heap.size w w' := by
  have q0 : Blk (w.alloc (.cells (askV a kv vv av nv fv) 29)) w.heap.size 29 (askV a kv vv av nv fv) := Blk.new w _ _
  have hB0 : Below w.heap.size w (w.alloc (.cells (askV a kv vv av nv fv) 29)) := (Below.refl _ _).alloc (Nat.le_refl _) _
  obtain ⟨fs, hu⟩ := askTy
  have HU := Lib.hid hu
  have HN := Lib.hid hn
  clear hu hn
  generalize decide ({ a with kind := 0, keys := [], vals := [] } = ({} : Ask)) = bb at *
  go_enter Try.func24, Try.ntmps24
  go_upto_region 1 with fail
  refine wp_region_lit ?_
  change wpList _ _ _ _ _ (w.alloc (.cells (askV a kv vv av nv fv) 29))
  have hs0 : (w.alloc (.cells (askV a kv vv av nv fv) 29)).heap.size = w.heap.size + 1 := by simp
  generalize (w.alloc (.cells (askV a kv vv av nv fv) 29)) = W0 at *
  refine s_load 29 (.tmp 1) _ _ rfl rfl (st_load_ask W0 _ _ q0 rfl) (wanted_none rfl) ?_
  refine s_call1 53 (.tmp 4) _ _ rfl (wanted_none rfl) (enters_of Try.func53 (by kernel_rfl) rfl) (bare_any W0 a kv vv av nv fv hone) ?_
  rintro e w1 ⟨rfl, hb1⟩
  refine ⟨_, rfl, ?_⟩
  have qn : Blk (w1.alloc (.cells (askV {} (.slice none 0 0) (.slice none 0 0) (.slice none 0 0) (.slice none 0 0) (.slice none 0 0)) 29)) w1.heap.size 29 (askV {} (.slice none 0 0) (.slice none 0 0) (.slice none 0 0) (.slice none 0 0) (.slice none 0 0)) := Blk.new _ _ _
  have hz1 := hb1.size
  have QN := Lib.hid qn
  have HO := Lib.hid hone
  clear qn hone
  refine s_val2 _ _ (wanted_none rfl) (alloc_ask _ _) ?_
  dsimp only
  refine wpList_store_mid rfl 29 (.tmp 3) (.tmp 5) rfl w1.heap.size 0 (askV { a with kind := 0 } kv vv av nv fv) rfl rfl (QN.out.there _ (Nat.le_refl _)) (askInfo' _ _ _ _ _ _) (HO.out) ?_
  have qX := QN.out.store (askV { a with kind := 0 } kv vv av nv fv) rfl
  have hk3 := Keeps.sets w1.heap.size (.inl (List.mem_singleton.2 rfl)) (askV { a with kind := 0 } kv vv av nv fv).toList 0 _ (Keeps.refl [w1.heap.size] (w1.alloc (.cells (askV {} (.slice none 0 0) (.slice none 0 0) (.slice none 0 0) (.slice none 0 0) (.slice none 0 0)) 29)))
  have qW : Blk ((w1.alloc (.cells (askV {} (.slice none 0 0) (.slice none 0 0) (.slice none 0 0) (.slice none 0 0) (.slice none 0 0)) 29)).setCells w1.heap.size 0 (askV { a with kind := 0 } kv vv av nv fv).toList) w.heap.size 29 (askV a kv vv av nv fv) :=
    ((q0.below hb1 q0.lt).alloc _).keeps hk3 (fun e => by have := List.mem_singleton.1 e; omega)
  have hle : w.heap.size ≤ w1.heap.size := by omega
  have hB : Below w.heap.size w ((w1.alloc (.cells (askV {} (.slice none 0 0) (.slice none 0 0) (.slice none 0 0) (.slice none 0 0) (.slice none 0 0)) 29)).setCells w1.heap.size 0 (askV { a with kind := 0 } kv vv av nv fv).toList) :=
    ((hB0.trans (hb1.mono (by omega))).alloc hle _).trans (hk3.below (fun i hi => by rw [List.mem_singleton.1 hi]; exact hle) (by simp; omega))
  generalize ((w1.alloc (.cells (askV {} (.slice none 0 0) (.slice none 0 0) (.slice none 0 0) (.slice none 0 0) (.slice none 0 0)) 29)).setCells w1.heap.size 0 (askV { a with kind := 0 } kv vv av nv fv).toList) = W at *
  have hX : w.heap.size + 1 ≤ w1.heap.size := by omega
  clear hk3 QN HO q0 hB0 hb1 hz1
  generalize w1.heap.size = X at *
  have hne : w.heap.size ≠ X := by omega
  have c0 : W.cell? ⟨w.heap.size, 0, none⟩ = some (.int .u8 0) := by rw [qW.cell 0]; show some (u8 a.kind) = _; rw [hk]; rfl
  have c11 : W.cell? ⟨w.heap.size, 11, none⟩ = some (.bool false) := by rw [qW.cell 11]; show some (Value.bool a.cancel) = _; rw [hc]
  have e4 : W.cell? ⟨X, 4, none⟩ = some (kv) := qX.cell 4
  have f4 := qX.frozen 4
  have e5 : W.cell? ⟨X, 5, none⟩ = some (vv) := qX.cell 5
  have f5 := qX.frozen 5
  clear hk hc
  have qF : Blk ((W.setCell ⟨X, 4, none⟩ (.slice none 0 0)).setCell ⟨X, 5, none⟩ (.slice none 0 0)) X 29 (askV { a with kind := 0, keys := [], vals := [] } (.slice none 0 0) (.slice none 0 0) av nv fv) := ((qX.set_ 4 _).set_ 5 _)
  have hbF : Below w.heap.size w ((W.setCell ⟨X, 4, none⟩ (.slice none 0 0)).setCell ⟨X, 5, none⟩ (.slice none 0 0)) := hB.trans ((((Keeps.refl [X] W).set _ _ _ (.inl (by simp))).set _ _ _ (.inl (by simp))).below (fun i hi => by rw [List.mem_singleton.1 hi]; omega) hB.size)
  have HC := Lib.hid (HN.out _ hbF)
  have QF := Lib.hid qF
  have HB := Lib.hid hbF
  clear HN qF hbF hB qX qW hX hs0
  have HBL : Hid (((W.setCell ⟨X, 4, none⟩ (.slice none 0 0)).setCell ⟨X, 5, none⟩ (.slice none 0 0)).heap[X]? = some (.cells (askV { a with kind := 0, keys := [], vals := [] } (.slice none 0 0) (.slice none 0 0) av nv fv) 29 (0, 0))) := Lib.hid QF.out
  refine wpList_nil ?_
  go_wp2_with (first
    | ((with_reducible refine wpList_load_row (o := ⟨some 45, .load 29 (.tmp 3), _, _, _, _⟩) rfl 29 (.tmp 3) rfl X ?_ 29 (askV { a with kind := 0, keys := [], vals := [] } (.slice none 0 0) (.slice none 0 0) av nv fv) (0, 0) (.struct fs) HBL.out HU.out ?_ (askInfo' _ _ _ _ _ _) ?_); (· rfl); (· rfl))
    | (go_at_call 54; refine HC.out.mono ?_; rintro e w2 ⟨rfl, hb2⟩; have hfin := HB.out.trans (hb2.mono HB.out.size); clear hb2))
  go_ret
  exact ⟨rfl, hfin⟩
set_option maxHeartbeats 400000 in
set_option maxRecDepth 100000 in
theorem kept_p (w : World) (a : Ask) (kv vv av nv fv : Value) (hk : a.kind = 112) (hone : (askV { a with kind := 0 } kv vv av nv fv).all (·.oneCell') = true)
    (hn : ∀ w', Below w.heap.size w w' → Calls Try.prog 54 #[.agg (askV { a with kind := 0, sql := [] } kv vv av nv fv)] w' fun e w2 => e = .returned (.bool (decide ({ a with kind := 0, sql := [] } = ({} : Ask)))) ∧ Below w'.heap.size w' w2) :
    Calls Try.prog 24 #[.agg (askV a kv vv av nv fv)] w fun e w' => e = .returned (.bool (decide ({ a with kind := 0, sql := [] } = ({} : Ask)))) ∧ Below w.heap.size w w' := by
  have q0 : Blk (w.alloc (.cells (askV a kv vv av nv fv) 29)) w.heap.size 29 (askV a kv vv av nv fv) := Blk.new w _ _
  have hB0 : Below w.heap.size w (w.alloc (.cells (askV a kv vv av nv fv) 29)) := (Below.refl _ _).alloc (Nat.le_refl _) _
  obtain ⟨fs, hu⟩ := askTy
  have HU := Lib.hid hu
  have HN := Lib.hid hn
  clear hu hn
  generalize decide ({ a with kind := 0, sql := [] } = ({} : Ask)) = bb at *
  go_enter Try.func24, Try.ntmps24
  go_upto_region 1 with fail
  refine wp_region_lit ?_
  change wpList _ _ _ _ _ (w.alloc (.cells (askV a kv vv av nv fv) 29))
  have hs0 : (w.alloc (.cells (askV a kv vv av nv fv) 29)).heap.size = w.heap.size + 1 := by simp
  generalize (w.alloc (.cells (askV a kv vv av nv fv) 29)) = W0 at *
  refine s_load 29 (.tmp 1) _ _ rfl rfl (st_load_ask W0 _ _ q0 rfl) (wanted_none rfl) ?_
  refine s_call1 53 (.tmp 4) _ _ rfl (wanted_none rfl) (enters_of Try.func53 (by kernel_rfl) rfl) (bare_any W0 a kv vv av nv fv hone) ?_
  rintro e w1 ⟨rfl, hb1⟩
  refine ⟨_, rfl, ?_⟩
  have qn : Blk (w1.alloc (.cells (askV {} (.slice none 0 0) (.slice none 0 0) (.slice none 0 0) (.slice none 0 0) (.slice none 0 0)) 29)) w1.heap.size 29 (askV {} (.slice none 0 0) (.slice none 0 0) (.slice none 0 0) (.slice none 0 0) (.slice none 0 0)) := Blk.new _ _ _
  have hz1 := hb1.size
  have QN := Lib.hid qn
  have HO := Lib.hid hone
  clear qn hone
  refine s_val2 _ _ (wanted_none rfl) (alloc_ask _ _) ?_
  dsimp only
  refine wpList_store_mid rfl 29 (.tmp 3) (.tmp 5) rfl w1.heap.size 0 (askV { a with kind := 0 } kv vv av nv fv) rfl rfl (QN.out.there _ (Nat.le_refl _)) (askInfo' _ _ _ _ _ _) (HO.out) ?_
  have qX := QN.out.store (askV { a with kind := 0 } kv vv av nv fv) rfl
  have hk3 := Keeps.sets w1.heap.size (.inl (List.mem_singleton.2 rfl)) (askV { a with kind := 0 } kv vv av nv fv).toList 0 _ (Keeps.refl [w1.heap.size] (w1.alloc (.cells (askV {} (.slice none 0 0) (.slice none 0 0) (.slice none 0 0) (.slice none 0 0) (.slice none 0 0)) 29)))
  have qW : Blk ((w1.alloc (.cells (askV {} (.slice none 0 0) (.slice none 0 0) (.slice none 0 0) (.slice none 0 0) (.slice none 0 0)) 29)).setCells w1.heap.size 0 (askV { a with kind := 0 } kv vv av nv fv).toList) w.heap.size 29 (askV a kv vv av nv fv) :=
    ((q0.below hb1 q0.lt).alloc _).keeps hk3 (fun e => by have := List.mem_singleton.1 e; omega)
  have hle : w.heap.size ≤ w1.heap.size := by omega
  have hB : Below w.heap.size w ((w1.alloc (.cells (askV {} (.slice none 0 0) (.slice none 0 0) (.slice none 0 0) (.slice none 0 0) (.slice none 0 0)) 29)).setCells w1.heap.size 0 (askV { a with kind := 0 } kv vv av nv fv).toList) :=
    ((hB0.trans (hb1.mono (by omega))).alloc hle _).trans (hk3.below (fun i hi => by rw [List.mem_singleton.1 hi]; exact hle) (by simp; omega))
  generalize ((w1.alloc (.cells (askV {} (.slice none 0 0) (.slice none 0 0) (.slice none 0 0) (.slice none 0 0) (.slice none 0 0)) 29)).setCells w1.heap.size 0 (askV { a with kind := 0 } kv vv av nv fv).toList) = W at *
  have hX : w.heap.size + 1 ≤ w1.heap.size := by omega
  clear hk3 QN HO q0 hB0 hb1 hz1
  generalize w1.heap.size = X at *
  have hne : w.heap.size ≠ X := by omega
  have c0 : W.cell? ⟨w.heap.size, 0, none⟩ = some (.int .u8 112) := by rw [qW.cell 0]; show some (u8 a.kind) = _; rw [hk]; rfl
  have e3 : W.cell? ⟨X, 3, none⟩ = some (.string (ba a.sql)) := qX.cell 3
  have f3 := qX.frozen 3
  clear hk
  have qF : Blk (W.setCell ⟨X, 3, none⟩ (.string { data := #[] })) X 29 (askV { a with kind := 0, sql := [] } kv vv av nv fv) := (qX.set_ 3 _)
  have hbF : Below w.heap.size w (W.setCell ⟨X, 3, none⟩ (.string { data := #[] })) := hB.trans (((Keeps.refl [X] W).set _ _ _ (.inl (by simp))).below (fun i hi => by rw [List.mem_singleton.1 hi]; omega) hB.size)
  have HC := Lib.hid (HN.out _ hbF)
  have QF := Lib.hid qF
  have HB := Lib.hid hbF
  clear HN qF hbF hB qX qW hX hs0
  have HBL : Hid ((W.setCell ⟨X, 3, none⟩ (.string { data := #[] })).heap[X]? = some (.cells (askV { a with kind := 0, sql := [] } kv vv av nv fv) 29 (0, 0))) := Lib.hid QF.out
  refine wpList_nil ?_
  go_wp2_with (first
    | ((with_reducible refine wpList_load_row (o := ⟨some 45, .load 29 (.tmp 3), _, _, _, _⟩) rfl 29 (.tmp 3) rfl X ?_ 29 (askV { a with kind := 0, sql := [] } kv vv av nv fv) (0, 0) (.struct fs) HBL.out HU.out ?_ (askInfo' _ _ _ _ _ _) ?_); (· rfl); (· rfl))
    | (go_at_call 54; refine HC.out.mono ?_; rintro e w2 ⟨rfl, hb2⟩; have hfin := HB.out.trans (hb2.mono HB.out.size); clear hb2))
  go_ret
  exact ⟨rfl, hfin⟩
set_option maxHeartbeats 400000 in
set_option maxRecDepth 100000 in
theorem kept_Q (w : World) (a : Ask) (kv vv av nv fv : Value) (hk : a.kind = 81) (hone : (askV { a with kind := 0 } kv vv av nv fv).all (·.oneCell') = true)
    (hn : ∀ w', Below w.heap.size w w' → Calls Try.prog 54 #[.agg (askV { a with kind := 0, sql := [] } kv vv av nv fv)] w' fun e w2 => e = .returned (.bool (decide ({ a with kind := 0, sql := [] } = ({} : Ask)))) ∧ Below w'.heap.size w' w2) :
    Calls Try.prog 24 #[.agg (askV a kv vv av nv fv)] w fun e w' => e = .returned (.bool (decide ({ a with kind := 0, sql := [] } = ({} : Ask)))) ∧ Below w.heap.size w w' := by
  have q0 : Blk (w.alloc (.cells (askV a kv vv av nv fv) 29)) w.heap.size 29 (askV a kv vv av nv fv) := Blk.new w _ _
  have hB0 : Below w.heap.size w (w.alloc (.cells (askV a kv vv av nv fv) 29)) := (Below.refl _ _).alloc (Nat.le_refl _) _
  obtain ⟨fs, hu⟩ := askTy
  have HU := Lib.hid hu
  have HN := Lib.hid hn
  clear hu hn
  generalize decide ({ a with kind := 0, sql := [] } = ({} : Ask)) = bb at *
  go_enter Try.func24, Try.ntmps24
  go_upto_region 1 with fail
  refine wp_region_lit ?_
  change wpList _ _ _ _ _ (w.alloc (.cells (askV a kv vv av nv fv) 29))
  have hs0 : (w.alloc (.cells (askV a kv vv av nv fv) 29)).heap.size = w.heap.size + 1 := by simp
  generalize (w.alloc (.cells (askV a kv vv av nv fv) 29)) = W0 at *
  refine s_load 29 (.tmp 1) _ _ rfl rfl (st_load_ask W0 _ _ q0 rfl) (wanted_none rfl) ?_
  refine s_call1 53 (.tmp 4) _ _ rfl (wanted_none rfl) (enters_of Try.func53 (by kernel_rfl) rfl) (bare_any W0 a kv vv av nv fv hone) ?_
  rintro e w1 ⟨rfl, hb1⟩
  refine ⟨_, rfl, ?_⟩
  have qn : Blk (w1.alloc (.cells (askV {} (.slice none 0 0) (.slice none 0 0) (.slice none 0 0) (.slice none 0 0) (.slice none 0 0)) 29)) w1.heap.size 29 (askV {} (.slice none 0 0) (.slice none 0 0) (.slice none 0 0) (.slice none 0 0) (.slice none 0 0)) := Blk.new _ _ _
  have hz1 := hb1.size
  have QN := Lib.hid qn
  have HO := Lib.hid hone
  clear qn hone
  refine s_val2 _ _ (wanted_none rfl) (alloc_ask _ _) ?_
  dsimp only
  refine wpList_store_mid rfl 29 (.tmp 3) (.tmp 5) rfl w1.heap.size 0 (askV { a with kind := 0 } kv vv av nv fv) rfl rfl (QN.out.there _ (Nat.le_refl _)) (askInfo' _ _ _ _ _ _) (HO.out) ?_
  have qX := QN.out.store (askV { a with kind := 0 } kv vv av nv fv) rfl
  have hk3 := Keeps.sets w1.heap.size (.inl (List.mem_singleton.2 rfl)) (askV { a with kind := 0 } kv vv av nv fv).toList 0 _ (Keeps.refl [w1.heap.size] (w1.alloc (.cells (askV {} (.slice none 0 0) (.slice none 0 0) (.slice none 0 0) (.slice none 0 0) (.slice none 0 0)) 29)))
  have qW : Blk ((w1.alloc (.cells (askV {} (.slice none 0 0) (.slice none 0 0) (.slice none 0 0) (.slice none 0 0) (.slice none 0 0)) 29)).setCells w1.heap.size 0 (askV { a with kind := 0 } kv vv av nv fv).toList) w.heap.size 29 (askV a kv vv av nv fv) :=
    ((q0.below hb1 q0.lt).alloc _).keeps hk3 (fun e => by have := List.mem_singleton.1 e; omega)
  have hle : w.heap.size ≤ w1.heap.size := by omega
  have hB : Below w.heap.size w ((w1.alloc (.cells (askV {} (.slice none 0 0) (.slice none 0 0) (.slice none 0 0) (.slice none 0 0) (.slice none 0 0)) 29)).setCells w1.heap.size 0 (askV { a with kind := 0 } kv vv av nv fv).toList) :=
    ((hB0.trans (hb1.mono (by omega))).alloc hle _).trans (hk3.below (fun i hi => by rw [List.mem_singleton.1 hi]; exact hle) (by simp; omega))
  generalize ((w1.alloc (.cells (askV {} (.slice none 0 0) (.slice none 0 0) (.slice none 0 0) (.slice none 0 0) (.slice none 0 0)) 29)).setCells w1.heap.size 0 (askV { a with kind := 0 } kv vv av nv fv).toList) = W at *
  have hX : w.heap.size + 1 ≤ w1.heap.size := by omega
  clear hk3 QN HO q0 hB0 hb1 hz1
  generalize w1.heap.size = X at *
  have hne : w.heap.size ≠ X := by omega
  have c0 : W.cell? ⟨w.heap.size, 0, none⟩ = some (.int .u8 81) := by rw [qW.cell 0]; show some (u8 a.kind) = _; rw [hk]; rfl
  have e3 : W.cell? ⟨X, 3, none⟩ = some (.string (ba a.sql)) := qX.cell 3
  have f3 := qX.frozen 3
  clear hk
  have qF : Blk (W.setCell ⟨X, 3, none⟩ (.string { data := #[] })) X 29 (askV { a with kind := 0, sql := [] } kv vv av nv fv) := (qX.set_ 3 _)
  have hbF : Below w.heap.size w (W.setCell ⟨X, 3, none⟩ (.string { data := #[] })) := hB.trans (((Keeps.refl [X] W).set _ _ _ (.inl (by simp))).below (fun i hi => by rw [List.mem_singleton.1 hi]; omega) hB.size)
  have HC := Lib.hid (HN.out _ hbF)
  have QF := Lib.hid qF
  have HB := Lib.hid hbF
  clear HN qF hbF hB qX qW hX hs0
  have HBL : Hid ((W.setCell ⟨X, 3, none⟩ (.string { data := #[] })).heap[X]? = some (.cells (askV { a with kind := 0, sql := [] } kv vv av nv fv) 29 (0, 0))) := Lib.hid QF.out
  refine wpList_nil ?_
  go_wp2_with (first
    | ((with_reducible refine wpList_load_row (o := ⟨some 45, .load 29 (.tmp 3), _, _, _, _⟩) rfl 29 (.tmp 3) rfl X ?_ 29 (askV { a with kind := 0, sql := [] } kv vv av nv fv) (0, 0) (.struct fs) HBL.out HU.out ?_ (askInfo' _ _ _ _ _ _) ?_); (· rfl); (· rfl))
    | (go_at_call 54; refine HC.out.mono ?_; rintro e w2 ⟨rfl, hb2⟩; have hfin := HB.out.trans (hb2.mono HB.out.size); clear hb2))
  go_ret
  exact ⟨rfl, hfin⟩
set_option maxHeartbeats 400000 in
set_option maxRecDepth 100000 in
theorem kept_P (w : World) (a : Ask) (kv vv av nv fv : Value) (hk : a.kind = 80) (hone : (askV { a with kind := 0 } kv vv av nv fv).all (·.oneCell') = true)
    (hn : ∀ w', Below w.heap.size w w' → Calls Try.prog 54 #[.agg (askV { a with kind := 0, name := [], sql := [] } kv vv av nv fv)] w' fun e w2 => e = .returned (.bool (decide ({ a with kind := 0, name := [], sql := [] } = ({} : Ask)))) ∧ Below w'.heap.size w' w2) :
    Calls Try.prog 24 #[.agg (askV a kv vv av nv fv)] w fun e w' => e = .returned (.bool (decide ({ a with kind := 0, name := [], sql := [] } = ({} : Ask)))) ∧ Below w.heap.size w w' := by
  have q0 : Blk (w.alloc (.cells (askV a kv vv av nv fv) 29)) w.heap.size 29 (askV a kv vv av nv fv) := Blk.new w _ _
  have hB0 : Below w.heap.size w (w.alloc (.cells (askV a kv vv av nv fv) 29)) := (Below.refl _ _).alloc (Nat.le_refl _) _
  obtain ⟨fs, hu⟩ := askTy
  have HU := Lib.hid hu
  have HN := Lib.hid hn
  clear hu hn
  generalize decide ({ a with kind := 0, name := [], sql := [] } = ({} : Ask)) = bb at *
  go_enter Try.func24, Try.ntmps24
  go_upto_region 1 with fail
  refine wp_region_lit ?_
  change wpList _ _ _ _ _ (w.alloc (.cells (askV a kv vv av nv fv) 29))
  have hs0 : (w.alloc (.cells (askV a kv vv av nv fv) 29)).heap.size = w.heap.size + 1 := by simp
  generalize (w.alloc (.cells (askV a kv vv av nv fv) 29)) = W0 at *
  refine s_load 29 (.tmp 1) _ _ rfl rfl (st_load_ask W0 _ _ q0 rfl) (wanted_none rfl) ?_
  refine s_call1 53 (.tmp 4) _ _ rfl (wanted_none rfl) (enters_of Try.func53 (by kernel_rfl) rfl) (bare_any W0 a kv vv av nv fv hone) ?_
  rintro e w1 ⟨rfl, hb1⟩
  refine ⟨_, rfl, ?_⟩
  have qn : Blk (w1.alloc (.cells (askV {} (.slice none 0 0) (.slice none 0 0) (.slice none 0 0) (.slice none 0 0) (.slice none 0 0)) 29)) w1.heap.size 29 (askV {} (.slice none 0 0) (.slice none 0 0) (.slice none 0 0) (.slice none 0 0) (.slice none 0 0)) := Blk.new _ _ _
  have hz1 := hb1.size
  have QN := Lib.hid qn
  have HO := Lib.hid hone
  clear qn hone
  refine s_val2 _ _ (wanted_none rfl) (alloc_ask _ _) ?_
  dsimp only
  refine wpList_store_mid rfl 29 (.tmp 3) (.tmp 5) rfl w1.heap.size 0 (askV { a with kind := 0 } kv vv av nv fv) rfl rfl (QN.out.there _ (Nat.le_refl _)) (askInfo' _ _ _ _ _ _) (HO.out) ?_
  have qX := QN.out.store (askV { a with kind := 0 } kv vv av nv fv) rfl
  have hk3 := Keeps.sets w1.heap.size (.inl (List.mem_singleton.2 rfl)) (askV { a with kind := 0 } kv vv av nv fv).toList 0 _ (Keeps.refl [w1.heap.size] (w1.alloc (.cells (askV {} (.slice none 0 0) (.slice none 0 0) (.slice none 0 0) (.slice none 0 0) (.slice none 0 0)) 29)))
  have qW : Blk ((w1.alloc (.cells (askV {} (.slice none 0 0) (.slice none 0 0) (.slice none 0 0) (.slice none 0 0) (.slice none 0 0)) 29)).setCells w1.heap.size 0 (askV { a with kind := 0 } kv vv av nv fv).toList) w.heap.size 29 (askV a kv vv av nv fv) :=
    ((q0.below hb1 q0.lt).alloc _).keeps hk3 (fun e => by have := List.mem_singleton.1 e; omega)
  have hle : w.heap.size ≤ w1.heap.size := by omega
  have hB : Below w.heap.size w ((w1.alloc (.cells (askV {} (.slice none 0 0) (.slice none 0 0) (.slice none 0 0) (.slice none 0 0) (.slice none 0 0)) 29)).setCells w1.heap.size 0 (askV { a with kind := 0 } kv vv av nv fv).toList) :=
    ((hB0.trans (hb1.mono (by omega))).alloc hle _).trans (hk3.below (fun i hi => by rw [List.mem_singleton.1 hi]; exact hle) (by simp; omega))
  generalize ((w1.alloc (.cells (askV {} (.slice none 0 0) (.slice none 0 0) (.slice none 0 0) (.slice none 0 0) (.slice none 0 0)) 29)).setCells w1.heap.size 0 (askV { a with kind := 0 } kv vv av nv fv).toList) = W at *
  have hX : w.heap.size + 1 ≤ w1.heap.size := by omega
  clear hk3 QN HO q0 hB0 hb1 hz1
  generalize w1.heap.size = X at *
  have hne : w.heap.size ≠ X := by omega
  have c0 : W.cell? ⟨w.heap.size, 0, none⟩ = some (.int .u8 80) := by rw [qW.cell 0]; show some (u8 a.kind) = _; rw [hk]; rfl
  have e1 : W.cell? ⟨X, 1, none⟩ = some (.string (ba a.name)) := qX.cell 1
  have f1 := qX.frozen 1
  have e3 : W.cell? ⟨X, 3, none⟩ = some (.string (ba a.sql)) := qX.cell 3
  have f3 := qX.frozen 3
  clear hk
  have qF : Blk ((W.setCell ⟨X, 1, none⟩ (.string { data := #[] })).setCell ⟨X, 3, none⟩ (.string { data := #[] })) X 29 (askV { a with kind := 0, name := [], sql := [] } kv vv av nv fv) := ((qX.set_ 1 _).set_ 3 _)
  have hbF : Below w.heap.size w ((W.setCell ⟨X, 1, none⟩ (.string { data := #[] })).setCell ⟨X, 3, none⟩ (.string { data := #[] })) := hB.trans ((((Keeps.refl [X] W).set _ _ _ (.inl (by simp))).set _ _ _ (.inl (by simp))).below (fun i hi => by rw [List.mem_singleton.1 hi]; omega) hB.size)
  have HC := Lib.hid (HN.out _ hbF)
  have QF := Lib.hid qF
  have HB := Lib.hid hbF
  clear HN qF hbF hB qX qW hX hs0
  have HBL : Hid (((W.setCell ⟨X, 1, none⟩ (.string { data := #[] })).setCell ⟨X, 3, none⟩ (.string { data := #[] })).heap[X]? = some (.cells (askV { a with kind := 0, name := [], sql := [] } kv vv av nv fv) 29 (0, 0))) := Lib.hid QF.out
  refine wpList_nil ?_
  go_wp2_with (first
    | ((with_reducible refine wpList_load_row (o := ⟨some 45, .load 29 (.tmp 3), _, _, _, _⟩) rfl 29 (.tmp 3) rfl X ?_ 29 (askV { a with kind := 0, name := [], sql := [] } kv vv av nv fv) (0, 0) (.struct fs) HBL.out HU.out ?_ (askInfo' _ _ _ _ _ _) ?_); (· rfl); (· rfl))
    | (go_at_call 54; refine HC.out.mono ?_; rintro e w2 ⟨rfl, hb2⟩; have hfin := HB.out.trans (hb2.mono HB.out.size); clear hb2))
  go_ret
  exact ⟨rfl, hfin⟩
set_option maxHeartbeats 400000 in
set_option maxRecDepth 100000 in
theorem kept_B (w : World) (a : Ask) (kv vv av nv fv : Value) (hk : a.kind = 66) (hone : (askV { a with kind := 0 } kv vv av nv fv).all (·.oneCell') = true)
    (hn : ∀ w', Below w.heap.size w w' → Calls Try.prog 54 #[.agg (askV { a with kind := 0, portal := [], name := [], args := [], null := [], formats := [] } kv vv (.slice none 0 0) (.slice none 0 0) (.slice none 0 0))] w' fun e w2 => e = .returned (.bool (decide ({ a with kind := 0, portal := [], name := [], args := [], null := [], formats := [] } = ({} : Ask)))) ∧ Below w'.heap.size w' w2) :
    Calls Try.prog 24 #[.agg (askV a kv vv av nv fv)] w fun e w' => e = .returned (.bool (decide ({ a with kind := 0, portal := [], name := [], args := [], null := [], formats := [] } = ({} : Ask)))) ∧ Below w.heap.size w w' := by
  have q0 : Blk (w.alloc (.cells (askV a kv vv av nv fv) 29)) w.heap.size 29 (askV a kv vv av nv fv) := Blk.new w _ _
  have hB0 : Below w.heap.size w (w.alloc (.cells (askV a kv vv av nv fv) 29)) := (Below.refl _ _).alloc (Nat.le_refl _) _
  obtain ⟨fs, hu⟩ := askTy
  have HU := Lib.hid hu
  have HN := Lib.hid hn
  clear hu hn
  generalize decide ({ a with kind := 0, portal := [], name := [], args := [], null := [], formats := [] } = ({} : Ask)) = bb at *
  go_enter Try.func24, Try.ntmps24
  go_upto_region 1 with fail
  refine wp_region_lit ?_
  change wpList _ _ _ _ _ (w.alloc (.cells (askV a kv vv av nv fv) 29))
  have hs0 : (w.alloc (.cells (askV a kv vv av nv fv) 29)).heap.size = w.heap.size + 1 := by simp
  generalize (w.alloc (.cells (askV a kv vv av nv fv) 29)) = W0 at *
  refine s_load 29 (.tmp 1) _ _ rfl rfl (st_load_ask W0 _ _ q0 rfl) (wanted_none rfl) ?_
  refine s_call1 53 (.tmp 4) _ _ rfl (wanted_none rfl) (enters_of Try.func53 (by kernel_rfl) rfl) (bare_any W0 a kv vv av nv fv hone) ?_
  rintro e w1 ⟨rfl, hb1⟩
  refine ⟨_, rfl, ?_⟩
  have qn : Blk (w1.alloc (.cells (askV {} (.slice none 0 0) (.slice none 0 0) (.slice none 0 0) (.slice none 0 0) (.slice none 0 0)) 29)) w1.heap.size 29 (askV {} (.slice none 0 0) (.slice none 0 0) (.slice none 0 0) (.slice none 0 0) (.slice none 0 0)) := Blk.new _ _ _
  have hz1 := hb1.size
  have QN := Lib.hid qn
  have HO := Lib.hid hone
  clear qn hone
  refine s_val2 _ _ (wanted_none rfl) (alloc_ask _ _) ?_
  dsimp only
  refine wpList_store_mid rfl 29 (.tmp 3) (.tmp 5) rfl w1.heap.size 0 (askV { a with kind := 0 } kv vv av nv fv) rfl rfl (QN.out.there _ (Nat.le_refl _)) (askInfo' _ _ _ _ _ _) (HO.out) ?_
  have qX := QN.out.store (askV { a with kind := 0 } kv vv av nv fv) rfl
  have hk3 := Keeps.sets w1.heap.size (.inl (List.mem_singleton.2 rfl)) (askV { a with kind := 0 } kv vv av nv fv).toList 0 _ (Keeps.refl [w1.heap.size] (w1.alloc (.cells (askV {} (.slice none 0 0) (.slice none 0 0) (.slice none 0 0) (.slice none 0 0) (.slice none 0 0)) 29)))
  have qW : Blk ((w1.alloc (.cells (askV {} (.slice none 0 0) (.slice none 0 0) (.slice none 0 0) (.slice none 0 0) (.slice none 0 0)) 29)).setCells w1.heap.size 0 (askV { a with kind := 0 } kv vv av nv fv).toList) w.heap.size 29 (askV a kv vv av nv fv) :=
    ((q0.below hb1 q0.lt).alloc _).keeps hk3 (fun e => by have := List.mem_singleton.1 e; omega)
  have hle : w.heap.size ≤ w1.heap.size := by omega
  have hB : Below w.heap.size w ((w1.alloc (.cells (askV {} (.slice none 0 0) (.slice none 0 0) (.slice none 0 0) (.slice none 0 0) (.slice none 0 0)) 29)).setCells w1.heap.size 0 (askV { a with kind := 0 } kv vv av nv fv).toList) :=
    ((hB0.trans (hb1.mono (by omega))).alloc hle _).trans (hk3.below (fun i hi => by rw [List.mem_singleton.1 hi]; exact hle) (by simp; omega))
  generalize ((w1.alloc (.cells (askV {} (.slice none 0 0) (.slice none 0 0) (.slice none 0 0) (.slice none 0 0) (.slice none 0 0)) 29)).setCells w1.heap.size 0 (askV { a with kind := 0 } kv vv av nv fv).toList) = W at *
  have hX : w.heap.size + 1 ≤ w1.heap.size := by omega
  clear hk3 QN HO q0 hB0 hb1 hz1
  generalize w1.heap.size = X at *
  have hne : w.heap.size ≠ X := by omega
  have c0 : W.cell? ⟨w.heap.size, 0, none⟩ = some (.int .u8 66) := by rw [qW.cell 0]; show some (u8 a.kind) = _; rw [hk]; rfl
  have e2 : W.cell? ⟨X, 2, none⟩ = some (.string (ba a.portal)) := qX.cell 2
  have f2 := qX.frozen 2
  have e1 : W.cell? ⟨X, 1, none⟩ = some (.string (ba a.name)) := qX.cell 1
  have f1 := qX.frozen 1
  have e6 : W.cell? ⟨X, 6, none⟩ = some (av) := qX.cell 6
  have f6 := qX.frozen 6
  have e7 : W.cell? ⟨X, 7, none⟩ = some (nv) := qX.cell 7
  have f7 := qX.frozen 7
  have e8 : W.cell? ⟨X, 8, none⟩ = some (fv) := qX.cell 8
  have f8 := qX.frozen 8
  clear hk
  have qF : Blk (((((W.setCell ⟨X, 2, none⟩ (.string { data := #[] })).setCell ⟨X, 1, none⟩ (.string { data := #[] })).setCell ⟨X, 6, none⟩ (.slice none 0 0)).setCell ⟨X, 7, none⟩ (.slice none 0 0)).setCell ⟨X, 8, none⟩ (.slice none 0 0)) X 29 (askV { a with kind := 0, portal := [], name := [], args := [], null := [], formats := [] } kv vv (.slice none 0 0) (.slice none 0 0) (.slice none 0 0)) := (((((qX.set_ 2 _).set_ 1 _).set_ 6 _).set_ 7 _).set_ 8 _)
  have hbF : Below w.heap.size w (((((W.setCell ⟨X, 2, none⟩ (.string { data := #[] })).setCell ⟨X, 1, none⟩ (.string { data := #[] })).setCell ⟨X, 6, none⟩ (.slice none 0 0)).setCell ⟨X, 7, none⟩ (.slice none 0 0)).setCell ⟨X, 8, none⟩ (.slice none 0 0)) := hB.trans (((((((Keeps.refl [X] W).set _ _ _ (.inl (by simp))).set _ _ _ (.inl (by simp))).set _ _ _ (.inl (by simp))).set _ _ _ (.inl (by simp))).set _ _ _ (.inl (by simp))).below (fun i hi => by rw [List.mem_singleton.1 hi]; omega) hB.size)
  have HC := Lib.hid (HN.out _ hbF)
  have QF := Lib.hid qF
  have HB := Lib.hid hbF
  clear HN qF hbF hB qX qW hX hs0
  have HBL : Hid ((((((W.setCell ⟨X, 2, none⟩ (.string { data := #[] })).setCell ⟨X, 1, none⟩ (.string { data := #[] })).setCell ⟨X, 6, none⟩ (.slice none 0 0)).setCell ⟨X, 7, none⟩ (.slice none 0 0)).setCell ⟨X, 8, none⟩ (.slice none 0 0)).heap[X]? = some (.cells (askV { a with kind := 0, portal := [], name := [], args := [], null := [], formats := [] } kv vv (.slice none 0 0) (.slice none 0 0) (.slice none 0 0)) 29 (0, 0))) := Lib.hid QF.out
  refine wpList_nil ?_
  go_wp2_with (first
    | ((with_reducible refine wpList_load_row (o := ⟨some 45, .load 29 (.tmp 3), _, _, _, _⟩) rfl 29 (.tmp 3) rfl X ?_ 29 (askV { a with kind := 0, portal := [], name := [], args := [], null := [], formats := [] } kv vv (.slice none 0 0) (.slice none 0 0) (.slice none 0 0)) (0, 0) (.struct fs) HBL.out HU.out ?_ (askInfo' _ _ _ _ _ _) ?_); (· rfl); (· rfl))
    | (go_at_call 54; refine HC.out.mono ?_; rintro e w2 ⟨rfl, hb2⟩; have hfin := HB.out.trans (hb2.mono HB.out.size); clear hb2))
  go_ret
  exact ⟨rfl, hfin⟩
set_option maxHeartbeats 400000 in
set_option maxRecDepth 100000 in
theorem kept_D (w : World) (a : Ask) (kv vv av nv fv : Value) (hk : a.kind = 68) (hone : (askV { a with kind := 0 } kv vv av nv fv).all (·.oneCell') = true)
    (hn : ∀ w', Below w.heap.size w w' → Calls Try.prog 54 #[.agg (askV { a with kind := 0, what := 0, name := [] } kv vv av nv fv)] w' fun e w2 => e = .returned (.bool (decide ({ a with kind := 0, what := 0, name := [] } = ({} : Ask)))) ∧ Below w'.heap.size w' w2) :
    Calls Try.prog 24 #[.agg (askV a kv vv av nv fv)] w fun e w' => e = .returned (.bool (decide ({ a with kind := 0, what := 0, name := [] } = ({} : Ask)))) ∧ Below w.heap.size w w' := by
  have q0 : Blk (w.alloc (.cells (askV a kv vv av nv fv) 29)) w.heap.size 29 (askV a kv vv av nv fv) := Blk.new w _ _
  have hB0 : Below w.heap.size w (w.alloc (.cells (askV a kv vv av nv fv) 29)) := (Below.refl _ _).alloc (Nat.le_refl _) _
  obtain ⟨fs, hu⟩ := askTy
  have HU := Lib.hid hu
  have HN := Lib.hid hn
  clear hu hn
  generalize decide ({ a with kind := 0, what := 0, name := [] } = ({} : Ask)) = bb at *
  go_enter Try.func24, Try.ntmps24
  go_upto_region 1 with fail
  refine wp_region_lit ?_
  change wpList _ _ _ _ _ (w.alloc (.cells (askV a kv vv av nv fv) 29))
  have hs0 : (w.alloc (.cells (askV a kv vv av nv fv) 29)).heap.size = w.heap.size + 1 := by simp
  generalize (w.alloc (.cells (askV a kv vv av nv fv) 29)) = W0 at *
  refine s_load 29 (.tmp 1) _ _ rfl rfl (st_load_ask W0 _ _ q0 rfl) (wanted_none rfl) ?_
  refine s_call1 53 (.tmp 4) _ _ rfl (wanted_none rfl) (enters_of Try.func53 (by kernel_rfl) rfl) (bare_any W0 a kv vv av nv fv hone) ?_
  rintro e w1 ⟨rfl, hb1⟩
  refine ⟨_, rfl, ?_⟩
  have qn : Blk (w1.alloc (.cells (askV {} (.slice none 0 0) (.slice none 0 0) (.slice none 0 0) (.slice none 0 0) (.slice none 0 0)) 29)) w1.heap.size 29 (askV {} (.slice none 0 0) (.slice none 0 0) (.slice none 0 0) (.slice none 0 0) (.slice none 0 0)) := Blk.new _ _ _
  have hz1 := hb1.size
  have QN := Lib.hid qn
  have HO := Lib.hid hone
  clear qn hone
  refine s_val2 _ _ (wanted_none rfl) (alloc_ask _ _) ?_
  dsimp only
  refine wpList_store_mid rfl 29 (.tmp 3) (.tmp 5) rfl w1.heap.size 0 (askV { a with kind := 0 } kv vv av nv fv) rfl rfl (QN.out.there _ (Nat.le_refl _)) (askInfo' _ _ _ _ _ _) (HO.out) ?_
  have qX := QN.out.store (askV { a with kind := 0 } kv vv av nv fv) rfl
  have hk3 := Keeps.sets w1.heap.size (.inl (List.mem_singleton.2 rfl)) (askV { a with kind := 0 } kv vv av nv fv).toList 0 _ (Keeps.refl [w1.heap.size] (w1.alloc (.cells (askV {} (.slice none 0 0) (.slice none 0 0) (.slice none 0 0) (.slice none 0 0) (.slice none 0 0)) 29)))
  have qW : Blk ((w1.alloc (.cells (askV {} (.slice none 0 0) (.slice none 0 0) (.slice none 0 0) (.slice none 0 0) (.slice none 0 0)) 29)).setCells w1.heap.size 0 (askV { a with kind := 0 } kv vv av nv fv).toList) w.heap.size 29 (askV a kv vv av nv fv) :=
    ((q0.below hb1 q0.lt).alloc _).keeps hk3 (fun e => by have := List.mem_singleton.1 e; omega)
  have hle : w.heap.size ≤ w1.heap.size := by omega
  have hB : Below w.heap.size w ((w1.alloc (.cells (askV {} (.slice none 0 0) (.slice none 0 0) (.slice none 0 0) (.slice none 0 0) (.slice none 0 0)) 29)).setCells w1.heap.size 0 (askV { a with kind := 0 } kv vv av nv fv).toList) :=
    ((hB0.trans (hb1.mono (by omega))).alloc hle _).trans (hk3.below (fun i hi => by rw [List.mem_singleton.1 hi]; exact hle) (by simp; omega))
  generalize ((w1.alloc (.cells (askV {} (.slice none 0 0) (.slice none 0 0) (.slice none 0 0) (.slice none 0 0) (.slice none 0 0)) 29)).setCells w1.heap.size 0 (askV { a with kind := 0 } kv vv av nv fv).toList) = W at *
  have hX : w.heap.size + 1 ≤ w1.heap.size := by omega
  clear hk3 QN HO q0 hB0 hb1 hz1
  generalize w1.heap.size = X at *
  have hne : w.heap.size ≠ X := by omega
  have c0 : W.cell? ⟨w.heap.size, 0, none⟩ = some (.int .u8 68) := by rw [qW.cell 0]; show some (u8 a.kind) = _; rw [hk]; rfl
  have e10 : W.cell? ⟨X, 10, none⟩ = some (u8 a.what) := qX.cell 10
  have f10 := qX.frozen 10
  have e1 : W.cell? ⟨X, 1, none⟩ = some (.string (ba a.name)) := qX.cell 1
  have f1 := qX.frozen 1
  clear hk
  have qF : Blk ((W.setCell ⟨X, 10, none⟩ (.int .u8 0)).setCell ⟨X, 1, none⟩ (.string { data := #[] })) X 29 (askV { a with kind := 0, what := 0, name := [] } kv vv av nv fv) := ((qX.set_ 10 _).set_ 1 _)
  have hbF : Below w.heap.size w ((W.setCell ⟨X, 10, none⟩ (.int .u8 0)).setCell ⟨X, 1, none⟩ (.string { data := #[] })) := hB.trans ((((Keeps.refl [X] W).set _ _ _ (.inl (by simp))).set _ _ _ (.inl (by simp))).below (fun i hi => by rw [List.mem_singleton.1 hi]; omega) hB.size)
  have HC := Lib.hid (HN.out _ hbF)
  have QF := Lib.hid qF
  have HB := Lib.hid hbF
  clear HN qF hbF hB qX qW hX hs0
  have HBL : Hid (((W.setCell ⟨X, 10, none⟩ (.int .u8 0)).setCell ⟨X, 1, none⟩ (.string { data := #[] })).heap[X]? = some (.cells (askV { a with kind := 0, what := 0, name := [] } kv vv av nv fv) 29 (0, 0))) := Lib.hid QF.out
  refine wpList_nil ?_
  go_wp2_with (first
    | ((with_reducible refine wpList_load_row (o := ⟨some 45, .load 29 (.tmp 3), _, _, _, _⟩) rfl 29 (.tmp 3) rfl X ?_ 29 (askV { a with kind := 0, what := 0, name := [] } kv vv av nv fv) (0, 0) (.struct fs) HBL.out HU.out ?_ (askInfo' _ _ _ _ _ _) ?_); (· rfl); (· rfl))
    | (go_at_call 54; refine HC.out.mono ?_; rintro e w2 ⟨rfl, hb2⟩; have hfin := HB.out.trans (hb2.mono HB.out.size); clear hb2))
  go_ret
  exact ⟨rfl, hfin⟩
set_option maxHeartbeats 400000 in
set_option maxRecDepth 100000 in
theorem kept_C (w : World) (a : Ask) (kv vv av nv fv : Value) (hk : a.kind = 67) (hone : (askV { a with kind := 0 } kv vv av nv fv).all (·.oneCell') = true)
    (hn : ∀ w', Below w.heap.size w w' → Calls Try.prog 54 #[.agg (askV { a with kind := 0, what := 0, name := [] } kv vv av nv fv)] w' fun e w2 => e = .returned (.bool (decide ({ a with kind := 0, what := 0, name := [] } = ({} : Ask)))) ∧ Below w'.heap.size w' w2) :
    Calls Try.prog 24 #[.agg (askV a kv vv av nv fv)] w fun e w' => e = .returned (.bool (decide ({ a with kind := 0, what := 0, name := [] } = ({} : Ask)))) ∧ Below w.heap.size w w' := by
  have q0 : Blk (w.alloc (.cells (askV a kv vv av nv fv) 29)) w.heap.size 29 (askV a kv vv av nv fv) := Blk.new w _ _
  have hB0 : Below w.heap.size w (w.alloc (.cells (askV a kv vv av nv fv) 29)) := (Below.refl _ _).alloc (Nat.le_refl _) _
  obtain ⟨fs, hu⟩ := askTy
  have HU := Lib.hid hu
  have HN := Lib.hid hn
  clear hu hn
  generalize decide ({ a with kind := 0, what := 0, name := [] } = ({} : Ask)) = bb at *
  go_enter Try.func24, Try.ntmps24
  go_upto_region 1 with fail
  refine wp_region_lit ?_
  change wpList _ _ _ _ _ (w.alloc (.cells (askV a kv vv av nv fv) 29))
  have hs0 : (w.alloc (.cells (askV a kv vv av nv fv) 29)).heap.size = w.heap.size + 1 := by simp
  generalize (w.alloc (.cells (askV a kv vv av nv fv) 29)) = W0 at *
  refine s_load 29 (.tmp 1) _ _ rfl rfl (st_load_ask W0 _ _ q0 rfl) (wanted_none rfl) ?_
  refine s_call1 53 (.tmp 4) _ _ rfl (wanted_none rfl) (enters_of Try.func53 (by kernel_rfl) rfl) (bare_any W0 a kv vv av nv fv hone) ?_
  rintro e w1 ⟨rfl, hb1⟩
  refine ⟨_, rfl, ?_⟩
  have qn : Blk (w1.alloc (.cells (askV {} (.slice none 0 0) (.slice none 0 0) (.slice none 0 0) (.slice none 0 0) (.slice none 0 0)) 29)) w1.heap.size 29 (askV {} (.slice none 0 0) (.slice none 0 0) (.slice none 0 0) (.slice none 0 0) (.slice none 0 0)) := Blk.new _ _ _
  have hz1 := hb1.size
  have QN := Lib.hid qn
  have HO := Lib.hid hone
  clear qn hone
  refine s_val2 _ _ (wanted_none rfl) (alloc_ask _ _) ?_
  dsimp only
  refine wpList_store_mid rfl 29 (.tmp 3) (.tmp 5) rfl w1.heap.size 0 (askV { a with kind := 0 } kv vv av nv fv) rfl rfl (QN.out.there _ (Nat.le_refl _)) (askInfo' _ _ _ _ _ _) (HO.out) ?_
  have qX := QN.out.store (askV { a with kind := 0 } kv vv av nv fv) rfl
  have hk3 := Keeps.sets w1.heap.size (.inl (List.mem_singleton.2 rfl)) (askV { a with kind := 0 } kv vv av nv fv).toList 0 _ (Keeps.refl [w1.heap.size] (w1.alloc (.cells (askV {} (.slice none 0 0) (.slice none 0 0) (.slice none 0 0) (.slice none 0 0) (.slice none 0 0)) 29)))
  have qW : Blk ((w1.alloc (.cells (askV {} (.slice none 0 0) (.slice none 0 0) (.slice none 0 0) (.slice none 0 0) (.slice none 0 0)) 29)).setCells w1.heap.size 0 (askV { a with kind := 0 } kv vv av nv fv).toList) w.heap.size 29 (askV a kv vv av nv fv) :=
    ((q0.below hb1 q0.lt).alloc _).keeps hk3 (fun e => by have := List.mem_singleton.1 e; omega)
  have hle : w.heap.size ≤ w1.heap.size := by omega
  have hB : Below w.heap.size w ((w1.alloc (.cells (askV {} (.slice none 0 0) (.slice none 0 0) (.slice none 0 0) (.slice none 0 0) (.slice none 0 0)) 29)).setCells w1.heap.size 0 (askV { a with kind := 0 } kv vv av nv fv).toList) :=
    ((hB0.trans (hb1.mono (by omega))).alloc hle _).trans (hk3.below (fun i hi => by rw [List.mem_singleton.1 hi]; exact hle) (by simp; omega))
  generalize ((w1.alloc (.cells (askV {} (.slice none 0 0) (.slice none 0 0) (.slice none 0 0) (.slice none 0 0) (.slice none 0 0)) 29)).setCells w1.heap.size 0 (askV { a with kind := 0 } kv vv av nv fv).toList) = W at *
  have hX : w.heap.size + 1 ≤ w1.heap.size := by omega
  clear hk3 QN HO q0 hB0 hb1 hz1
  generalize w1.heap.size = X at *
  have hne : w.heap.size ≠ X := by omega
  have c0 : W.cell? ⟨w.heap.size, 0, none⟩ = some (.int .u8 67) := by rw [qW.cell 0]; show some (u8 a.kind) = _; rw [hk]; rfl
  have e10 : W.cell? ⟨X, 10, none⟩ = some (u8 a.what) := qX.cell 10
  have f10 := qX.frozen 10
  have e1 : W.cell? ⟨X, 1, none⟩ = some (.string (ba a.name)) := qX.cell 1
  have f1 := qX.frozen 1
  clear hk
  have qF : Blk ((W.setCell ⟨X, 10, none⟩ (.int .u8 0)).setCell ⟨X, 1, none⟩ (.string { data := #[] })) X 29 (askV { a with kind := 0, what := 0, name := [] } kv vv av nv fv) := ((qX.set_ 10 _).set_ 1 _)
  have hbF : Below w.heap.size w ((W.setCell ⟨X, 10, none⟩ (.int .u8 0)).setCell ⟨X, 1, none⟩ (.string { data := #[] })) := hB.trans ((((Keeps.refl [X] W).set _ _ _ (.inl (by simp))).set _ _ _ (.inl (by simp))).below (fun i hi => by rw [List.mem_singleton.1 hi]; omega) hB.size)
  have HC := Lib.hid (HN.out _ hbF)
  have QF := Lib.hid qF
  have HB := Lib.hid hbF
  clear HN qF hbF hB qX qW hX hs0
  have HBL : Hid (((W.setCell ⟨X, 10, none⟩ (.int .u8 0)).setCell ⟨X, 1, none⟩ (.string { data := #[] })).heap[X]? = some (.cells (askV { a with kind := 0, what := 0, name := [] } kv vv av nv fv) 29 (0, 0))) := Lib.hid QF.out
  refine wpList_nil ?_
  go_wp2_with (first
    | ((with_reducible refine wpList_load_row (o := ⟨some 45, .load 29 (.tmp 3), _, _, _, _⟩) rfl 29 (.tmp 3) rfl X ?_ 29 (askV { a with kind := 0, what := 0, name := [] } kv vv av nv fv) (0, 0) (.struct fs) HBL.out HU.out ?_ (askInfo' _ _ _ _ _ _) ?_); (· rfl); (· rfl))
    | (go_at_call 54; refine HC.out.mono ?_; rintro e w2 ⟨rfl, hb2⟩; have hfin := HB.out.trans (hb2.mono HB.out.size); clear hb2))
  go_ret
  exact ⟨rfl, hfin⟩
set_option maxHeartbeats 400000 in
set_option maxRecDepth 100000 in
theorem kept_E (w : World) (a : Ask) (kv vv av nv fv : Value) (hk : a.kind = 69) (hone : (askV { a with kind := 0 } kv vv av nv fv).all (·.oneCell') = true)
    (hn : ∀ w', Below w.heap.size w w' → Calls Try.prog 54 #[.agg (askV { a with kind := 0, portal := [], most := 0 } kv vv av nv fv)] w' fun e w2 => e = .returned (.bool (decide ({ a with kind := 0, portal := [], most := 0 } = ({} : Ask)))) ∧ Below w'.heap.size w' w2) :
    Calls Try.prog 24 #[.agg (askV a kv vv av nv fv)] w fun e w' => e = .returned (.bool (decide ({ a with kind := 0, portal := [], most := 0 } = ({} : Ask)))) ∧ Below w.heap.size w w' := by
  have q0 : Blk (w.alloc (.cells (askV a kv vv av nv fv) 29)) w.heap.size 29 (askV a kv vv av nv fv) := Blk.new w _ _
  have hB0 : Below w.heap.size w (w.alloc (.cells (askV a kv vv av nv fv) 29)) := (Below.refl _ _).alloc (Nat.le_refl _) _
  obtain ⟨fs, hu⟩ := askTy
  have HU := Lib.hid hu
  have HN := Lib.hid hn
  clear hu hn
  generalize decide ({ a with kind := 0, portal := [], most := 0 } = ({} : Ask)) = bb at *
  go_enter Try.func24, Try.ntmps24
  go_upto_region 1 with fail
  refine wp_region_lit ?_
  change wpList _ _ _ _ _ (w.alloc (.cells (askV a kv vv av nv fv) 29))
  have hs0 : (w.alloc (.cells (askV a kv vv av nv fv) 29)).heap.size = w.heap.size + 1 := by simp
  generalize (w.alloc (.cells (askV a kv vv av nv fv) 29)) = W0 at *
  refine s_load 29 (.tmp 1) _ _ rfl rfl (st_load_ask W0 _ _ q0 rfl) (wanted_none rfl) ?_
  refine s_call1 53 (.tmp 4) _ _ rfl (wanted_none rfl) (enters_of Try.func53 (by kernel_rfl) rfl) (bare_any W0 a kv vv av nv fv hone) ?_
  rintro e w1 ⟨rfl, hb1⟩
  refine ⟨_, rfl, ?_⟩
  have qn : Blk (w1.alloc (.cells (askV {} (.slice none 0 0) (.slice none 0 0) (.slice none 0 0) (.slice none 0 0) (.slice none 0 0)) 29)) w1.heap.size 29 (askV {} (.slice none 0 0) (.slice none 0 0) (.slice none 0 0) (.slice none 0 0) (.slice none 0 0)) := Blk.new _ _ _
  have hz1 := hb1.size
  have QN := Lib.hid qn
  have HO := Lib.hid hone
  clear qn hone
  refine s_val2 _ _ (wanted_none rfl) (alloc_ask _ _) ?_
  dsimp only
  refine wpList_store_mid rfl 29 (.tmp 3) (.tmp 5) rfl w1.heap.size 0 (askV { a with kind := 0 } kv vv av nv fv) rfl rfl (QN.out.there _ (Nat.le_refl _)) (askInfo' _ _ _ _ _ _) (HO.out) ?_
  have qX := QN.out.store (askV { a with kind := 0 } kv vv av nv fv) rfl
  have hk3 := Keeps.sets w1.heap.size (.inl (List.mem_singleton.2 rfl)) (askV { a with kind := 0 } kv vv av nv fv).toList 0 _ (Keeps.refl [w1.heap.size] (w1.alloc (.cells (askV {} (.slice none 0 0) (.slice none 0 0) (.slice none 0 0) (.slice none 0 0) (.slice none 0 0)) 29)))
  have qW : Blk ((w1.alloc (.cells (askV {} (.slice none 0 0) (.slice none 0 0) (.slice none 0 0) (.slice none 0 0) (.slice none 0 0)) 29)).setCells w1.heap.size 0 (askV { a with kind := 0 } kv vv av nv fv).toList) w.heap.size 29 (askV a kv vv av nv fv) :=
    ((q0.below hb1 q0.lt).alloc _).keeps hk3 (fun e => by have := List.mem_singleton.1 e; omega)
  have hle : w.heap.size ≤ w1.heap.size := by omega
  have hB : Below w.heap.size w ((w1.alloc (.cells (askV {} (.slice none 0 0) (.slice none 0 0) (.slice none 0 0) (.slice none 0 0) (.slice none 0 0)) 29)).setCells w1.heap.size 0 (askV { a with kind := 0 } kv vv av nv fv).toList) :=
    ((hB0.trans (hb1.mono (by omega))).alloc hle _).trans (hk3.below (fun i hi => by rw [List.mem_singleton.1 hi]; exact hle) (by simp; omega))
  generalize ((w1.alloc (.cells (askV {} (.slice none 0 0) (.slice none 0 0) (.slice none 0 0) (.slice none 0 0) (.slice none 0 0)) 29)).setCells w1.heap.size 0 (askV { a with kind := 0 } kv vv av nv fv).toList) = W at *
  have hX : w.heap.size + 1 ≤ w1.heap.size := by omega
  clear hk3 QN HO q0 hB0 hb1 hz1
  generalize w1.heap.size = X at *
  have hne : w.heap.size ≠ X := by omega
  have c0 : W.cell? ⟨w.heap.size, 0, none⟩ = some (.int .u8 69) := by rw [qW.cell 0]; show some (u8 a.kind) = _; rw [hk]; rfl
  have e2 : W.cell? ⟨X, 2, none⟩ = some (.string (ba a.portal)) := qX.cell 2
  have f2 := qX.frozen 2
  have e9 : W.cell? ⟨X, 9, none⟩ = some (.int .i64 a.most) := qX.cell 9
  have f9 := qX.frozen 9
  clear hk
  have qF : Blk ((W.setCell ⟨X, 2, none⟩ (.string { data := #[] })).setCell ⟨X, 9, none⟩ (.int .i64 0)) X 29 (askV { a with kind := 0, portal := [], most := 0 } kv vv av nv fv) := ((qX.set_ 2 _).set_ 9 _)
  have hbF : Below w.heap.size w ((W.setCell ⟨X, 2, none⟩ (.string { data := #[] })).setCell ⟨X, 9, none⟩ (.int .i64 0)) := hB.trans ((((Keeps.refl [X] W).set _ _ _ (.inl (by simp))).set _ _ _ (.inl (by simp))).below (fun i hi => by rw [List.mem_singleton.1 hi]; omega) hB.size)
  have HC := Lib.hid (HN.out _ hbF)
  have QF := Lib.hid qF
  have HB := Lib.hid hbF
  clear HN qF hbF hB qX qW hX hs0
  have HBL : Hid (((W.setCell ⟨X, 2, none⟩ (.string { data := #[] })).setCell ⟨X, 9, none⟩ (.int .i64 0)).heap[X]? = some (.cells (askV { a with kind := 0, portal := [], most := 0 } kv vv av nv fv) 29 (0, 0))) := Lib.hid QF.out
  refine wpList_nil ?_
  go_wp2_with (first
    | ((with_reducible refine wpList_load_row (o := ⟨some 45, .load 29 (.tmp 3), _, _, _, _⟩) rfl 29 (.tmp 3) rfl X ?_ 29 (askV { a with kind := 0, portal := [], most := 0 } kv vv av nv fv) (0, 0) (.struct fs) HBL.out HU.out ?_ (askInfo' _ _ _ _ _ _) ?_); (· rfl); (· rfl))
    | (go_at_call 54; refine HC.out.mono ?_; rintro e w2 ⟨rfl, hb2⟩; have hfin := HB.out.trans (hb2.mono HB.out.size); clear hb2))
  go_ret
  exact ⟨rfl, hfin⟩
set_option maxHeartbeats 400000 in
set_option maxRecDepth 100000 in
theorem kept_X (w : World) (a : Ask) (kv vv av nv fv : Value) (hk : a.kind = 88) (hone : (askV { a with kind := 0 } kv vv av nv fv).all (·.oneCell') = true)
    (hn : ∀ w', Below w.heap.size w w' → Calls Try.prog 54 #[.agg (askV { a with kind := 0 } kv vv av nv fv)] w' fun e w2 => e = .returned (.bool (decide ({ a with kind := 0 } = ({} : Ask)))) ∧ Below w'.heap.size w' w2) :
    Calls Try.prog 24 #[.agg (askV a kv vv av nv fv)] w fun e w' => e = .returned (.bool (decide ({ a with kind := 0 } = ({} : Ask)))) ∧ Below w.heap.size w w' := by
  have q0 : Blk (w.alloc (.cells (askV a kv vv av nv fv) 29)) w.heap.size 29 (askV a kv vv av nv fv) := Blk.new w _ _
  have hB0 : Below w.heap.size w (w.alloc (.cells (askV a kv vv av nv fv) 29)) := (Below.refl _ _).alloc (Nat.le_refl _) _
  obtain ⟨fs, hu⟩ := askTy
  have HU := Lib.hid hu
  have HN := Lib.hid hn
  clear hu hn
  generalize decide ({ a with kind := 0 } = ({} : Ask)) = bb at *
  go_enter Try.func24, Try.ntmps24
  go_upto_region 1 with fail
  refine wp_region_lit ?_
  change wpList _ _ _ _ _ (w.alloc (.cells (askV a kv vv av nv fv) 29))
  have hs0 : (w.alloc (.cells (askV a kv vv av nv fv) 29)).heap.size = w.heap.size + 1 := by simp
  generalize (w.alloc (.cells (askV a kv vv av nv fv) 29)) = W0 at *
  refine s_load 29 (.tmp 1) _ _ rfl rfl (st_load_ask W0 _ _ q0 rfl) (wanted_none rfl) ?_
  refine s_call1 53 (.tmp 4) _ _ rfl (wanted_none rfl) (enters_of Try.func53 (by kernel_rfl) rfl) (bare_any W0 a kv vv av nv fv hone) ?_
  rintro e w1 ⟨rfl, hb1⟩
  refine ⟨_, rfl, ?_⟩
  have qn : Blk (w1.alloc (.cells (askV {} (.slice none 0 0) (.slice none 0 0) (.slice none 0 0) (.slice none 0 0) (.slice none 0 0)) 29)) w1.heap.size 29 (askV {} (.slice none 0 0) (.slice none 0 0) (.slice none 0 0) (.slice none 0 0) (.slice none 0 0)) := Blk.new _ _ _
  have hz1 := hb1.size
  have QN := Lib.hid qn
  have HO := Lib.hid hone
  clear qn hone
  refine s_val2 _ _ (wanted_none rfl) (alloc_ask _ _) ?_
  dsimp only
  refine wpList_store_mid rfl 29 (.tmp 3) (.tmp 5) rfl w1.heap.size 0 (askV { a with kind := 0 } kv vv av nv fv) rfl rfl (QN.out.there _ (Nat.le_refl _)) (askInfo' _ _ _ _ _ _) (HO.out) ?_
  have qX := QN.out.store (askV { a with kind := 0 } kv vv av nv fv) rfl
  have hk3 := Keeps.sets w1.heap.size (.inl (List.mem_singleton.2 rfl)) (askV { a with kind := 0 } kv vv av nv fv).toList 0 _ (Keeps.refl [w1.heap.size] (w1.alloc (.cells (askV {} (.slice none 0 0) (.slice none 0 0) (.slice none 0 0) (.slice none 0 0) (.slice none 0 0)) 29)))
  have qW : Blk ((w1.alloc (.cells (askV {} (.slice none 0 0) (.slice none 0 0) (.slice none 0 0) (.slice none 0 0) (.slice none 0 0)) 29)).setCells w1.heap.size 0 (askV { a with kind := 0 } kv vv av nv fv).toList) w.heap.size 29 (askV a kv vv av nv fv) :=
    ((q0.below hb1 q0.lt).alloc _).keeps hk3 (fun e => by have := List.mem_singleton.1 e; omega)
  have hle : w.heap.size ≤ w1.heap.size := by omega
  have hB : Below w.heap.size w ((w1.alloc (.cells (askV {} (.slice none 0 0) (.slice none 0 0) (.slice none 0 0) (.slice none 0 0) (.slice none 0 0)) 29)).setCells w1.heap.size 0 (askV { a with kind := 0 } kv vv av nv fv).toList) :=
    ((hB0.trans (hb1.mono (by omega))).alloc hle _).trans (hk3.below (fun i hi => by rw [List.mem_singleton.1 hi]; exact hle) (by simp; omega))
  generalize ((w1.alloc (.cells (askV {} (.slice none 0 0) (.slice none 0 0) (.slice none 0 0) (.slice none 0 0) (.slice none 0 0)) 29)).setCells w1.heap.size 0 (askV { a with kind := 0 } kv vv av nv fv).toList) = W at *
  have hX : w.heap.size + 1 ≤ w1.heap.size := by omega
  clear hk3 QN HO q0 hB0 hb1 hz1
  generalize w1.heap.size = X at *
  have hne : w.heap.size ≠ X := by omega
  have c0 : W.cell? ⟨w.heap.size, 0, none⟩ = some (.int .u8 88) := by rw [qW.cell 0]; show some (u8 a.kind) = _; rw [hk]; rfl
  clear hk
  have qF : Blk W X 29 (askV { a with kind := 0 } kv vv av nv fv) := qX
  have hbF : Below w.heap.size w W := hB.trans ((Keeps.refl [X] W).below (fun i hi => by rw [List.mem_singleton.1 hi]; omega) hB.size)
  have HC := Lib.hid (HN.out _ hbF)
  have QF := Lib.hid qF
  have HB := Lib.hid hbF
  clear HN qF hbF hB qX qW hX hs0
  have HBL : Hid (W.heap[X]? = some (.cells (askV { a with kind := 0 } kv vv av nv fv) 29 (0, 0))) := Lib.hid QF.out
  refine wpList_nil ?_
  go_wp2_with (first
    | ((with_reducible refine wpList_load_row (o := ⟨some 45, .load 29 (.tmp 3), _, _, _, _⟩) rfl 29 (.tmp 3) rfl X ?_ 29 (askV { a with kind := 0 } kv vv av nv fv) (0, 0) (.struct fs) HBL.out HU.out ?_ (askInfo' _ _ _ _ _ _) ?_); (· rfl); (· rfl))
    | (go_at_call 54; refine HC.out.mono ?_; rintro e w2 ⟨rfl, hb2⟩; have hfin := HB.out.trans (hb2.mono HB.out.size); clear hb2))
  go_ret
  exact ⟨rfl, hfin⟩
set_option maxHeartbeats 400000 in
set_option maxRecDepth 100000 in
theorem kept_S (w : World) (a : Ask) (kv vv av nv fv : Value) (hk : a.kind = 83) (hone : (askV { a with kind := 0 } kv vv av nv fv).all (·.oneCell') = true)
    (hn : ∀ w', Below w.heap.size w w' → Calls Try.prog 54 #[.agg (askV { a with kind := 0 } kv vv av nv fv)] w' fun e w2 => e = .returned (.bool (decide ({ a with kind := 0 } = ({} : Ask)))) ∧ Below w'.heap.size w' w2) :
    Calls Try.prog 24 #[.agg (askV a kv vv av nv fv)] w fun e w' => e = .returned (.bool (decide ({ a with kind := 0 } = ({} : Ask)))) ∧ Below w.heap.size w w' := by
  have q0 : Blk (w.alloc (.cells (askV a kv vv av nv fv) 29)) w.heap.size 29 (askV a kv vv av nv fv) := Blk.new w _ _
  have hB0 : Below w.heap.size w (w.alloc (.cells (askV a kv vv av nv fv) 29)) := (Below.refl _ _).alloc (Nat.le_refl _) _
  obtain ⟨fs, hu⟩ := askTy
  have HU := Lib.hid hu
  have HN := Lib.hid hn
  clear hu hn
  generalize decide ({ a with kind := 0 } = ({} : Ask)) = bb at *
  go_enter Try.func24, Try.ntmps24
  go_upto_region 1 with fail
  refine wp_region_lit ?_
  change wpList _ _ _ _ _ (w.alloc (.cells (askV a kv vv av nv fv) 29))
  have hs0 : (w.alloc (.cells (askV a kv vv av nv fv) 29)).heap.size = w.heap.size + 1 := by simp
  generalize (w.alloc (.cells (askV a kv vv av nv fv) 29)) = W0 at *
  refine s_load 29 (.tmp 1) _ _ rfl rfl (st_load_ask W0 _ _ q0 rfl) (wanted_none rfl) ?_
  refine s_call1 53 (.tmp 4) _ _ rfl (wanted_none rfl) (enters_of Try.func53 (by kernel_rfl) rfl) (bare_any W0 a kv vv av nv fv hone) ?_
  rintro e w1 ⟨rfl, hb1⟩
  refine ⟨_, rfl, ?_⟩
  have qn : Blk (w1.alloc (.cells (askV {} (.slice none 0 0) (.slice none 0 0) (.slice none 0 0) (.slice none 0 0) (.slice none 0 0)) 29)) w1.heap.size 29 (askV {} (.slice none 0 0) (.slice none 0 0) (.slice none 0 0) (.slice none 0 0) (.slice none 0 0)) := Blk.new _ _ _
  have hz1 := hb1.size
  have QN := Lib.hid qn
  have HO := Lib.hid hone
  clear qn hone
  refine s_val2 _ _ (wanted_none rfl) (alloc_ask _ _) ?_
  dsimp only
  refine wpList_store_mid rfl 29 (.tmp 3) (.tmp 5) rfl w1.heap.size 0 (askV { a with kind := 0 } kv vv av nv fv) rfl rfl (QN.out.there _ (Nat.le_refl _)) (askInfo' _ _ _ _ _ _) (HO.out) ?_
  have qX := QN.out.store (askV { a with kind := 0 } kv vv av nv fv) rfl
  have hk3 := Keeps.sets w1.heap.size (.inl (List.mem_singleton.2 rfl)) (askV { a with kind := 0 } kv vv av nv fv).toList 0 _ (Keeps.refl [w1.heap.size] (w1.alloc (.cells (askV {} (.slice none 0 0) (.slice none 0 0) (.slice none 0 0) (.slice none 0 0) (.slice none 0 0)) 29)))
  have qW : Blk ((w1.alloc (.cells (askV {} (.slice none 0 0) (.slice none 0 0) (.slice none 0 0) (.slice none 0 0) (.slice none 0 0)) 29)).setCells w1.heap.size 0 (askV { a with kind := 0 } kv vv av nv fv).toList) w.heap.size 29 (askV a kv vv av nv fv) :=
    ((q0.below hb1 q0.lt).alloc _).keeps hk3 (fun e => by have := List.mem_singleton.1 e; omega)
  have hle : w.heap.size ≤ w1.heap.size := by omega
  have hB : Below w.heap.size w ((w1.alloc (.cells (askV {} (.slice none 0 0) (.slice none 0 0) (.slice none 0 0) (.slice none 0 0) (.slice none 0 0)) 29)).setCells w1.heap.size 0 (askV { a with kind := 0 } kv vv av nv fv).toList) :=
    ((hB0.trans (hb1.mono (by omega))).alloc hle _).trans (hk3.below (fun i hi => by rw [List.mem_singleton.1 hi]; exact hle) (by simp; omega))
  generalize ((w1.alloc (.cells (askV {} (.slice none 0 0) (.slice none 0 0) (.slice none 0 0) (.slice none 0 0) (.slice none 0 0)) 29)).setCells w1.heap.size 0 (askV { a with kind := 0 } kv vv av nv fv).toList) = W at *
  have hX : w.heap.size + 1 ≤ w1.heap.size := by omega
  clear hk3 QN HO q0 hB0 hb1 hz1
  generalize w1.heap.size = X at *
  have hne : w.heap.size ≠ X := by omega
  have c0 : W.cell? ⟨w.heap.size, 0, none⟩ = some (.int .u8 83) := by rw [qW.cell 0]; show some (u8 a.kind) = _; rw [hk]; rfl
  clear hk
  have qF : Blk W X 29 (askV { a with kind := 0 } kv vv av nv fv) := qX
  have hbF : Below w.heap.size w W := hB.trans ((Keeps.refl [X] W).below (fun i hi => by rw [List.mem_singleton.1 hi]; omega) hB.size)
  have HC := Lib.hid (HN.out _ hbF)
  have QF := Lib.hid qF
  have HB := Lib.hid hbF
  clear HN qF hbF hB qX qW hX hs0
  have HBL : Hid (W.heap[X]? = some (.cells (askV { a with kind := 0 } kv vv av nv fv) 29 (0, 0))) := Lib.hid QF.out
  refine wpList_nil ?_
  go_wp2_with (first
    | ((with_reducible refine wpList_load_row (o := ⟨some 45, .load 29 (.tmp 3), _, _, _, _⟩) rfl 29 (.tmp 3) rfl X ?_ 29 (askV { a with kind := 0 } kv vv av nv fv) (0, 0) (.struct fs) HBL.out HU.out ?_ (askInfo' _ _ _ _ _ _) ?_); (· rfl); (· rfl))
    | (go_at_call 54; refine HC.out.mono ?_; rintro e w2 ⟨rfl, hb2⟩; have hfin := HB.out.trans (hb2.mono HB.out.size); clear hb2))
  go_ret
  exact ⟨rfl, hfin⟩
set_option maxHeartbeats 400000 in
set_option maxRecDepth 100000 in
theorem kept_H (w : World) (a : Ask) (kv vv av nv fv : Value) (hk : a.kind = 72) (hone : (askV { a with kind := 0 } kv vv av nv fv).all (·.oneCell') = true)
    (hn : ∀ w', Below w.heap.size w w' → Calls Try.prog 54 #[.agg (askV { a with kind := 0 } kv vv av nv fv)] w' fun e w2 => e = .returned (.bool (decide ({ a with kind := 0 } = ({} : Ask)))) ∧ Below w'.heap.size w' w2) :
    Calls Try.prog 24 #[.agg (askV a kv vv av nv fv)] w fun e w' => e = .returned (.bool (decide ({ a with kind := 0 } = ({} : Ask)))) ∧ Below w.heap.size w w' := by
  have q0 : Blk (w.alloc (.cells (askV a kv vv av nv fv) 29)) w.heap.size 29 (askV a kv vv av nv fv) := Blk.new w _ _
  have hB0 : Below w.heap.size w (w.alloc (.cells (askV a kv vv av nv fv) 29)) := (Below.refl _ _).alloc (Nat.le_refl _) _
  obtain ⟨fs, hu⟩ := askTy
  have HU := Lib.hid hu
  have HN := Lib.hid hn
  clear hu hn
  generalize decide ({ a with kind := 0 } = ({} : Ask)) = bb at *
  go_enter Try.func24, Try.ntmps24
  go_upto_region 1 with fail
  refine wp_region_lit ?_
  change wpList _ _ _ _ _ (w.alloc (.cells (askV a kv vv av nv fv) 29))
  have hs0 : (w.alloc (.cells (askV a kv vv av nv fv) 29)).heap.size = w.heap.size + 1 := by simp
  generalize (w.alloc (.cells (askV a kv vv av nv fv) 29)) = W0 at *
  refine s_load 29 (.tmp 1) _ _ rfl rfl (st_load_ask W0 _ _ q0 rfl) (wanted_none rfl) ?_
  refine s_call1 53 (.tmp 4) _ _ rfl (wanted_none rfl) (enters_of Try.func53 (by kernel_rfl) rfl) (bare_any W0 a kv vv av nv fv hone) ?_
  rintro e w1 ⟨rfl, hb1⟩
  refine ⟨_, rfl, ?_⟩
  have qn : Blk (w1.alloc (.cells (askV {} (.slice none 0 0) (.slice none 0 0) (.slice none 0 0) (.slice none 0 0) (.slice none 0 0)) 29)) w1.heap.size 29 (askV {} (.slice none 0 0) (.slice none 0 0) (.slice none 0 0) (.slice none 0 0) (.slice none 0 0)) := Blk.new _ _ _
  have hz1 := hb1.size
  have QN := Lib.hid qn
  have HO := Lib.hid hone
  clear qn hone
  refine s_val2 _ _ (wanted_none rfl) (alloc_ask _ _) ?_
  dsimp only
  refine wpList_store_mid rfl 29 (.tmp 3) (.tmp 5) rfl w1.heap.size 0 (askV { a with kind := 0 } kv vv av nv fv) rfl rfl (QN.out.there _ (Nat.le_refl _)) (askInfo' _ _ _ _ _ _) (HO.out) ?_
  have qX := QN.out.store (askV { a with kind := 0 } kv vv av nv fv) rfl
  have hk3 := Keeps.sets w1.heap.size (.inl (List.mem_singleton.2 rfl)) (askV { a with kind := 0 } kv vv av nv fv).toList 0 _ (Keeps.refl [w1.heap.size] (w1.alloc (.cells (askV {} (.slice none 0 0) (.slice none 0 0) (.slice none 0 0) (.slice none 0 0) (.slice none 0 0)) 29)))
  have qW : Blk ((w1.alloc (.cells (askV {} (.slice none 0 0) (.slice none 0 0) (.slice none 0 0) (.slice none 0 0) (.slice none 0 0)) 29)).setCells w1.heap.size 0 (askV { a with kind := 0 } kv vv av nv fv).toList) w.heap.size 29 (askV a kv vv av nv fv) :=
    ((q0.below hb1 q0.lt).alloc _).keeps hk3 (fun e => by have := List.mem_singleton.1 e; omega)
  have hle : w.heap.size ≤ w1.heap.size := by omega
  have hB : Below w.heap.size w ((w1.alloc (.cells (askV {} (.slice none 0 0) (.slice none 0 0) (.slice none 0 0) (.slice none 0 0) (.slice none 0 0)) 29)).setCells w1.heap.size 0 (askV { a with kind := 0 } kv vv av nv fv).toList) :=
    ((hB0.trans (hb1.mono (by omega))).alloc hle _).trans (hk3.below (fun i hi => by rw [List.mem_singleton.1 hi]; exact hle) (by simp; omega))
  generalize ((w1.alloc (.cells (askV {} (.slice none 0 0) (.slice none 0 0) (.slice none 0 0) (.slice none 0 0) (.slice none 0 0)) 29)).setCells w1.heap.size 0 (askV { a with kind := 0 } kv vv av nv fv).toList) = W at *
  have hX : w.heap.size + 1 ≤ w1.heap.size := by omega
  clear hk3 QN HO q0 hB0 hb1 hz1
  generalize w1.heap.size = X at *
  have hne : w.heap.size ≠ X := by omega
  have c0 : W.cell? ⟨w.heap.size, 0, none⟩ = some (.int .u8 72) := by rw [qW.cell 0]; show some (u8 a.kind) = _; rw [hk]; rfl
  clear hk
  have qF : Blk W X 29 (askV { a with kind := 0 } kv vv av nv fv) := qX
  have hbF : Below w.heap.size w W := hB.trans ((Keeps.refl [X] W).below (fun i hi => by rw [List.mem_singleton.1 hi]; omega) hB.size)
  have HC := Lib.hid (HN.out _ hbF)
  have QF := Lib.hid qF
  have HB := Lib.hid hbF
  clear HN qF hbF hB qX qW hX hs0
  have HBL : Hid (W.heap[X]? = some (.cells (askV { a with kind := 0 } kv vv av nv fv) 29 (0, 0))) := Lib.hid QF.out
  refine wpList_nil ?_
  go_wp2_with (first
    | ((with_reducible refine wpList_load_row (o := ⟨some 45, .load 29 (.tmp 3), _, _, _, _⟩) rfl 29 (.tmp 3) rfl X ?_ 29 (askV { a with kind := 0 } kv vv av nv fv) (0, 0) (.struct fs) HBL.out HU.out ?_ (askInfo' _ _ _ _ _ _) ?_); (· rfl); (· rfl))
    | (go_at_call 54; refine HC.out.mono ?_; rintro e w2 ⟨rfl, hb2⟩; have hfin := HB.out.trans (hb2.mono HB.out.size); clear hb2))
  go_ret
  exact ⟨rfl, hfin⟩
set_option maxHeartbeats 400000 in
set_option maxRecDepth 100000 in
theorem kept_no (w : World) (a : Ask) (kv vv av nv fv : Value) (hk : kd a.kind = none) (hone : (askV { a with kind := 0 } kv vv av nv fv).all (·.oneCell') = true) :
    Calls Try.prog 24 #[.agg (askV a kv vv av nv fv)] w fun e w' => e = .returned (.bool false) ∧ Below w.heap.size w w' := by
  have hn : True := trivial
  have hks : (((a.kind.toNat : Int) == 0) = false) ∧ (((a.kind.toNat : Int) == 112) = false) ∧ (((a.kind.toNat : Int) == 81) = false) ∧ (((a.kind.toNat : Int) == 80) = false) ∧ (((a.kind.toNat : Int) == 66) = false) ∧ (((a.kind.toNat : Int) == 68) = false) ∧ (((a.kind.toNat : Int) == 67) = false) ∧ (((a.kind.toNat : Int) == 69) = false) ∧ (((a.kind.toNat : Int) == 88) = false) ∧ (((a.kind.toNat : Int) == 83) = false) ∧ (((a.kind.toNat : Int) == 72) = false) := by
    unfold kd at hk
    refine ⟨?_, ?_, ?_, ?_, ?_, ?_, ?_, ?_, ?_, ?_, ?_⟩ <;>
    · rw [beq_eq_false_iff_ne]
      intro e
      rw [show a.kind = UInt8.ofNat a.kind.toNat by simp] at hk
      have e2 := Int.ofNat_inj.1 e
      rw [e2] at hk
      simp at hk
  clear hk
  have q0 : Blk (w.alloc (.cells (askV a kv vv av nv fv) 29)) w.heap.size 29 (askV a kv vv av nv fv) := Blk.new w _ _
  have hB0 : Below w.heap.size w (w.alloc (.cells (askV a kv vv av nv fv) 29)) := (Below.refl _ _).alloc (Nat.le_refl _) _
  obtain ⟨fs, hu⟩ := askTy
  have HU := Lib.hid hu
  have HN := Lib.hid hn
  clear hu hn
  go_enter Try.func24, Try.ntmps24
  go_upto_region 1 with fail
  refine wp_region_lit ?_
  change wpList _ _ _ _ _ (w.alloc (.cells (askV a kv vv av nv fv) 29))
  have hs0 : (w.alloc (.cells (askV a kv vv av nv fv) 29)).heap.size = w.heap.size + 1 := by simp
  generalize (w.alloc (.cells (askV a kv vv av nv fv) 29)) = W0 at *
  refine s_load 29 (.tmp 1) _ _ rfl rfl (st_load_ask W0 _ _ q0 rfl) (wanted_none rfl) ?_
  refine s_call1 53 (.tmp 4) _ _ rfl (wanted_none rfl) (enters_of Try.func53 (by kernel_rfl) rfl) (bare_any W0 a kv vv av nv fv hone) ?_
  rintro e w1 ⟨rfl, hb1⟩
  refine ⟨_, rfl, ?_⟩
  have qn : Blk (w1.alloc (.cells (askV {} (.slice none 0 0) (.slice none 0 0) (.slice none 0 0) (.slice none 0 0) (.slice none 0 0)) 29)) w1.heap.size 29 (askV {} (.slice none 0 0) (.slice none 0 0) (.slice none 0 0) (.slice none 0 0) (.slice none 0 0)) := Blk.new _ _ _
  have hz1 := hb1.size
  have QN := Lib.hid qn
  have HO := Lib.hid hone
  clear qn hone
  refine s_val2 _ _ (wanted_none rfl) (alloc_ask _ _) ?_
  dsimp only
  refine wpList_store_mid rfl 29 (.tmp 3) (.tmp 5) rfl w1.heap.size 0 (askV { a with kind := 0 } kv vv av nv fv) rfl rfl (QN.out.there _ (Nat.le_refl _)) (askInfo' _ _ _ _ _ _) (HO.out) ?_
  have qX := QN.out.store (askV { a with kind := 0 } kv vv av nv fv) rfl
  have hk3 := Keeps.sets w1.heap.size (.inl (List.mem_singleton.2 rfl)) (askV { a with kind := 0 } kv vv av nv fv).toList 0 _ (Keeps.refl [w1.heap.size] (w1.alloc (.cells (askV {} (.slice none 0 0) (.slice none 0 0) (.slice none 0 0) (.slice none 0 0) (.slice none 0 0)) 29)))
  have qW : Blk ((w1.alloc (.cells (askV {} (.slice none 0 0) (.slice none 0 0) (.slice none 0 0) (.slice none 0 0) (.slice none 0 0)) 29)).setCells w1.heap.size 0 (askV { a with kind := 0 } kv vv av nv fv).toList) w.heap.size 29 (askV a kv vv av nv fv) :=
    ((q0.below hb1 q0.lt).alloc _).keeps hk3 (fun e => by have := List.mem_singleton.1 e; omega)
  have hle : w.heap.size ≤ w1.heap.size := by omega
  have hB : Below w.heap.size w ((w1.alloc (.cells (askV {} (.slice none 0 0) (.slice none 0 0) (.slice none 0 0) (.slice none 0 0) (.slice none 0 0)) 29)).setCells w1.heap.size 0 (askV { a with kind := 0 } kv vv av nv fv).toList) :=
    ((hB0.trans (hb1.mono (by omega))).alloc hle _).trans (hk3.below (fun i hi => by rw [List.mem_singleton.1 hi]; exact hle) (by simp; omega))
  generalize ((w1.alloc (.cells (askV {} (.slice none 0 0) (.slice none 0 0) (.slice none 0 0) (.slice none 0 0) (.slice none 0 0)) 29)).setCells w1.heap.size 0 (askV { a with kind := 0 } kv vv av nv fv).toList) = W at *
  have hX : w.heap.size + 1 ≤ w1.heap.size := by omega
  clear hk3 QN HO q0 hB0 hb1 hz1
  generalize w1.heap.size = X at *
  have hne : w.heap.size ≠ X := by omega
  have c0 : W.cell? ⟨w.heap.size, 0, none⟩ = some (.int .u8 (a.kind.toNat : Int)) := qW.cell 0
  have HB := Lib.hid hB
  clear hB qX qW hX hs0 HN
  obtain ⟨n0, n112, n81, n80, n66, n68, n67, n69, n88, n83, n72⟩ := hks
  refine wpList_nil ?_
  go_wp2
  go_ret
  exact ⟨rfl, HB.out⟩
theorem sig_dec {p q : Prop} [Decidable p] [Decidable q] (h : p ↔ q) : decide p = decide q := by
  by_cases hp : p
  · rw [decide_eq_true hp, decide_eq_true (h.1 hp)]
  · rw [decide_eq_false hp, decide_eq_false (fun hq => hp (h.2 hq))]
theorem kept_any (w : World) (a : Ask) (v : Value) (h1 : AR (fun b => b < w.heap.size) w v a) :
    Calls Try.prog 24 #[v] w fun e w' => e = .returned (.bool (decide (Kept a))) ∧ Below w.heap.size w w' := by
  obtain ⟨kv, vv, av, nv, fv, rfl, k1, k2, k3, k4, k5⟩ := h1.ex
  have hone : (askV { a with kind := 0 } kv vv av nv fv).all (·.oneCell') = true := askOne _ _ _ _ _ _ k1.one k2.one k3.one k4.one k5.one
  have st : ∀ {w' : World} {x : Value} {xs : List Value}, Below w.heap.size w w' → LR (fun b => b < w.heap.size) w x xs → LR (fun b => b < w.heap.size) w' x xs := fun hb h => h.step (fun b hb2 => hb.block b hb2) (fun _ h => h)
  have nn : ∀ (w' : World) (b : Ask) (kv vv av nv fv : Value), LR (fun b => b < w.heap.size) w kv (strs b.keys) → LR (fun b => b < w.heap.size) w vv (strs b.vals) → LR (fun b => b < w.heap.size) w av (strs b.args) → LR (fun b => b < w.heap.size) w nv (bools b.null) → LR (fun b => b < w.heap.size) w fv (ints b.formats) → b.kind = 0 → Below w.heap.size w w' →
      Calls Try.prog 54 #[.agg (askV b kv vv av nv fv)] w' fun e w2 => e = .returned (.bool (decide (b = ({} : Ask)))) ∧ Below w'.heap.size w' w2 := by
    intro w' b kv vv av nv fv l1 l2 l3 l4 l5 hb0 hb
    have := nothing_any (P := fun b => b < w.heap.size) w' b _ ⟨kv, vv, av, nv, fv, rfl, st hb l1, st hb l2, st hb l3, st hb l4, st hb l5⟩
    rw [hb0] at this
    exact this
  by_cases h0 : kd a.kind = none
  · have hf : ¬ Kept a := by unfold Kept; rw [h0]; exact id
    rw [decide_eq_false hf]
    exact kept_no w a kv vv av nv fv h0 hone
  by_cases hk : a.kind = 0
  · cases hc : a.cancel with
    | true =>
      refine (kept_0c w a kv vv av nv fv hk hc hone (fun w' hb => nn w' _ _ _ _ _ _ k1 k2 k3 k4 k5 rfl hb)).mono ?_
      rintro e w' ⟨rfl, hb⟩
      refine ⟨?_, hb⟩
      have : ({ a with kind := 0, cancel := false, pid := 0, secret := 0 } = ({} : Ask)) ↔ Kept a := by
        unfold Kept
        rw [hk]
        show _ ↔ keptD _ a
        unfold keptD
        simp only [hc, hk]
        obtain ⟨a0, a1, a2, a3, a4, a5, a6, a7, a8, a9, a10, a11, a12, a13⟩ := a
        simp at hk hc ⊢
        try simp [hk, hc]
      rw [sig_dec this]
    | false =>
      refine (kept_0n w a kv vv av nv fv hk hc hone (fun w' hb => nn w' _ _ _ _ _ _ (LR.nil _ _) (LR.nil _ _) k3 k4 k5 rfl hb)).mono ?_
      rintro e w' ⟨rfl, hb⟩
      refine ⟨?_, hb⟩
      have : ({ a with kind := 0, keys := [], vals := [] } = ({} : Ask)) ↔ Kept a := by
        unfold Kept
        rw [hk]
        show _ ↔ keptD _ a
        unfold keptD
        simp only [hc, hk]
        obtain ⟨a0, a1, a2, a3, a4, a5, a6, a7, a8, a9, a10, a11, a12, a13⟩ := a
        simp at hk hc ⊢
        try simp [hk, hc]
      rw [sig_dec this]
  have z0 := hk
  clear hk
  by_cases hk : a.kind = 112
  · refine (kept_p w a kv vv av nv fv hk hone (fun w' hb => nn w' _ _ _ _ _ _ k1 k2 k3 k4 k5 rfl hb)).mono ?_
    rintro e w' ⟨rfl, hb⟩
    refine ⟨?_, hb⟩
    have : ({ a with kind := 0, sql := [] } = ({} : Ask)) ↔ Kept a := by
      unfold Kept
      rw [hk]
      show _ ↔ keptD _ a
      unfold keptD
      simp only [hk]
      obtain ⟨a0, a1, a2, a3, a4, a5, a6, a7, a8, a9, a10, a11, a12, a13⟩ := a
      simp at hk ⊢
      try simp [hk]
    rw [sig_dec this]
  have z112 := hk
  clear hk
  by_cases hk : a.kind = 81
  · refine (kept_Q w a kv vv av nv fv hk hone (fun w' hb => nn w' _ _ _ _ _ _ k1 k2 k3 k4 k5 rfl hb)).mono ?_
    rintro e w' ⟨rfl, hb⟩
    refine ⟨?_, hb⟩
    have : ({ a with kind := 0, sql := [] } = ({} : Ask)) ↔ Kept a := by
      unfold Kept
      rw [hk]
      show _ ↔ keptD _ a
      unfold keptD
      simp only [hk]
      obtain ⟨a0, a1, a2, a3, a4, a5, a6, a7, a8, a9, a10, a11, a12, a13⟩ := a
      simp at hk ⊢
      try simp [hk]
    rw [sig_dec this]
  have z81 := hk
  clear hk
  by_cases hk : a.kind = 80
  · refine (kept_P w a kv vv av nv fv hk hone (fun w' hb => nn w' _ _ _ _ _ _ k1 k2 k3 k4 k5 rfl hb)).mono ?_
    rintro e w' ⟨rfl, hb⟩
    refine ⟨?_, hb⟩
    have : ({ a with kind := 0, name := [], sql := [] } = ({} : Ask)) ↔ Kept a := by
      unfold Kept
      rw [hk]
      show _ ↔ keptD _ a
      unfold keptD
      simp only [hk]
      obtain ⟨a0, a1, a2, a3, a4, a5, a6, a7, a8, a9, a10, a11, a12, a13⟩ := a
      simp at hk ⊢
      try simp [hk]
    rw [sig_dec this]
  have z80 := hk
  clear hk
  by_cases hk : a.kind = 66
  · refine (kept_B w a kv vv av nv fv hk hone (fun w' hb => nn w' _ _ _ _ _ _ k1 k2 (LR.nil _ _) (LR.nil _ _) (LR.nil _ _) rfl hb)).mono ?_
    rintro e w' ⟨rfl, hb⟩
    refine ⟨?_, hb⟩
    have : ({ a with kind := 0, portal := [], name := [], args := [], null := [], formats := [] } = ({} : Ask)) ↔ Kept a := by
      unfold Kept
      rw [hk]
      show _ ↔ keptD _ a
      unfold keptD
      simp only [hk]
      obtain ⟨a0, a1, a2, a3, a4, a5, a6, a7, a8, a9, a10, a11, a12, a13⟩ := a
      simp at hk ⊢
      try simp [hk]
    rw [sig_dec this]
  have z66 := hk
  clear hk
  by_cases hk : a.kind = 68
  · refine (kept_D w a kv vv av nv fv hk hone (fun w' hb => nn w' _ _ _ _ _ _ k1 k2 k3 k4 k5 rfl hb)).mono ?_
    rintro e w' ⟨rfl, hb⟩
    refine ⟨?_, hb⟩
    have : ({ a with kind := 0, what := 0, name := [] } = ({} : Ask)) ↔ Kept a := by
      unfold Kept
      rw [hk]
      show _ ↔ keptD _ a
      unfold keptD
      simp only [hk]
      obtain ⟨a0, a1, a2, a3, a4, a5, a6, a7, a8, a9, a10, a11, a12, a13⟩ := a
      simp at hk ⊢
      try simp [hk]
    rw [sig_dec this]
  have z68 := hk
  clear hk
  by_cases hk : a.kind = 67
  · refine (kept_C w a kv vv av nv fv hk hone (fun w' hb => nn w' _ _ _ _ _ _ k1 k2 k3 k4 k5 rfl hb)).mono ?_
    rintro e w' ⟨rfl, hb⟩
    refine ⟨?_, hb⟩
    have : ({ a with kind := 0, what := 0, name := [] } = ({} : Ask)) ↔ Kept a := by
      unfold Kept
      rw [hk]
      show _ ↔ keptD _ a
      unfold keptD
      simp only [hk]
      obtain ⟨a0, a1, a2, a3, a4, a5, a6, a7, a8, a9, a10, a11, a12, a13⟩ := a
      simp at hk ⊢
      try simp [hk]
    rw [sig_dec this]
  have z67 := hk
  clear hk
  by_cases hk : a.kind = 69
  · refine (kept_E w a kv vv av nv fv hk hone (fun w' hb => nn w' _ _ _ _ _ _ k1 k2 k3 k4 k5 rfl hb)).mono ?_
    rintro e w' ⟨rfl, hb⟩
    refine ⟨?_, hb⟩
    have : ({ a with kind := 0, portal := [], most := 0 } = ({} : Ask)) ↔ Kept a := by
      unfold Kept
      rw [hk]
      show _ ↔ keptD _ a
      unfold keptD
      simp only [hk]
      obtain ⟨a0, a1, a2, a3, a4, a5, a6, a7, a8, a9, a10, a11, a12, a13⟩ := a
      simp at hk ⊢
      try simp [hk]
    rw [sig_dec this]
  have z69 := hk
  clear hk
  by_cases hk : a.kind = 88
  · refine (kept_X w a kv vv av nv fv hk hone (fun w' hb => nn w' _ _ _ _ _ _ k1 k2 k3 k4 k5 rfl hb)).mono ?_
    rintro e w' ⟨rfl, hb⟩
    refine ⟨?_, hb⟩
    have : ({ a with kind := 0 } = ({} : Ask)) ↔ Kept a := by
      unfold Kept
      rw [hk]
      show _ ↔ keptD _ a
      unfold keptD
      simp only [hk]
      obtain ⟨a0, a1, a2, a3, a4, a5, a6, a7, a8, a9, a10, a11, a12, a13⟩ := a
      simp at hk ⊢
      try simp [hk]
    rw [sig_dec this]
  have z88 := hk
  clear hk
  by_cases hk : a.kind = 83
  · refine (kept_S w a kv vv av nv fv hk hone (fun w' hb => nn w' _ _ _ _ _ _ k1 k2 k3 k4 k5 rfl hb)).mono ?_
    rintro e w' ⟨rfl, hb⟩
    refine ⟨?_, hb⟩
    have : ({ a with kind := 0 } = ({} : Ask)) ↔ Kept a := by
      unfold Kept
      rw [hk]
      show _ ↔ keptD _ a
      unfold keptD
      simp only [hk]
      obtain ⟨a0, a1, a2, a3, a4, a5, a6, a7, a8, a9, a10, a11, a12, a13⟩ := a
      simp at hk ⊢
      try simp [hk]
    rw [sig_dec this]
  have z83 := hk
  clear hk
  by_cases hk : a.kind = 72
  · refine (kept_H w a kv vv av nv fv hk hone (fun w' hb => nn w' _ _ _ _ _ _ k1 k2 k3 k4 k5 rfl hb)).mono ?_
    rintro e w' ⟨rfl, hb⟩
    refine ⟨?_, hb⟩
    have : ({ a with kind := 0 } = ({} : Ask)) ↔ Kept a := by
      unfold Kept
      rw [hk]
      show _ ↔ keptD _ a
      unfold keptD
      simp only [hk]
      obtain ⟨a0, a1, a2, a3, a4, a5, a6, a7, a8, a9, a10, a11, a12, a13⟩ := a
      simp at hk ⊢
      try simp [hk]
    rw [sig_dec this]
  have z72 := hk
  clear hk
  exact absurd (by unfold kd; simp [z0, z112, z81, z80, z66, z68, z67, z69, z88, z83, z72]) h0
end Go.Proofs.Ytojgeilihoilnaa
