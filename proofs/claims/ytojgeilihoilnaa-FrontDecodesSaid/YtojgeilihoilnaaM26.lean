/- What the document's own read reads of a message, of every kind that there is. Condition: the body is of at most 6,000 bytes.
   What the document's own Decode answers. Condition: the body is of at most 6,000 bytes. -/
import Derived.Test.YtojgeilihoilnaaM25
import Derived.Deep.CutBlock
import Derived.Deep.RegionHeld3
set_option linter.unusedSimpArgs false
set_option linter.unusedVariables false
namespace Go.Proofs.Ytojgeilihoilnaa
open Go.ChangeShapes Go.WideShapes Go.ChangeAt Go.RowKit
set_option linter.unusedVariables false
set_option linter.unusedSimpArgs false
attribute [local go_sem ↓] Go.wp_at_zero Go.wp_at_succ

theorem head_of (s : ByteArray) (hz : 0 < s.size) (c : UInt8) (r : Tx) (e : s.data.toList = c :: r) : s[0] = c := by
  have h : s.data.toList[0]? = some c := by rw [e]; rfl
  have h2 : s.data[0]? = some c := by simpa using h
  have h3 : s[0] = s.data[0]'hz := rfl
  rw [h3]
  rw [Array.getElem?_eq_getElem hz] at h2
  injection h2
set_option maxHeartbeats 2000000 in
set_option maxRecDepth 100000 in
theorem read_88 (s : ByteArray) (hs : s.size ≤ 6000) (w : World) :
    Calls Try.prog 19 #[.agg #[.int .u8 88, .string s]] w (RdP (Reads 88 s) w) := by
  have hb1 := bel_alloc w (.cells #[.int .u8 88, .string s] 23)
  obtain ⟨bz, bi, hB⟩ := two_made (w.alloc (.cells #[.int .u8 88, .string s] 23)) { kind := 88 } rfl rfl rfl rfl rfl
  have bm := (Blk.new w 23 #[.int .u8 88, .string s]).below hB (by simp)
  replace hB := grow_ hb1 hB
  rw [show (w.alloc (.cells #[.int .u8 88, .string s] 23)).heap.size = w.heap.size + 1 by simp] at bz bi
  clear hb1
  go_enter Try.func19, Try.ntmps19
  go_upto_region 2 with fail
  refine wp_region_lit ?_
  change wpList _ _ _ _ _ (((w.alloc (.cells #[.int .u8 88, .string s] 23)).alloc (.cells (askV {} nl nl nl nl nl) 29)).alloc (.cells (askV { kind := 88 } nl nl nl nl nl) 29))
  generalize ((w.alloc (.cells #[.int .u8 88, .string s] 23)).alloc (.cells (askV {} nl nl nl nl nl) 29)).alloc (.cells (askV { kind := 88 } nl nl nl nl nl) 29) = W at *
  have m0 : W.cell? ⟨w.heap.size, 0, none⟩ = some (.int .u8 88) := bm.cell 0
  have m1 : W.cell? ⟨w.heap.size, 1, none⟩ = some (.string s) := bm.cell 1
  have LZ := Lib.hid bz.lt
  have BZ0 := Lib.hid bz
  have HB0 := Lib.hid hB
  have BI0 := Lib.hid bi
  clear bz hB bi bm
  have BIX := BI0
  have BZ := Lib.hid (BZ0.out.keeps BIX.out.kp (by simp))
  go_wp2_with (first
    | ((with_reducible refine load_blk (op := ⟨some 104, .load 29 (.tmp 3), _, _, _, _⟩) 3 _ _ ?_ ?_ rfl ?_ BIX.out.blk ?_); (· rfl); (· rfl); (· rfl))
    | ((with_reducible refine store_blk (op := ⟨none, .store 29 (.tmp 2) (.tmp 104), _, _, _, _⟩) 2 104 _ _ _ ?_ ?_ (AR.one BIX.out.ar) rfl rfl ?_ ?_ BZ.out ?_); (· rfl); (· rfl); (· rfl); (· rfl); (intro W4 hq hk)))
  have hbx := HB0.out.trans (BIX.out.kp.below (fun i hi => by rw [List.mem_singleton.1 hi]; omega) HB0.out.size)
  refine bodyPost_ret (v := .agg (askV { kind := 88 } nl nl nl nl nl)) (ret_out (by rfl) _ _ _ _ (by rfl) hq rfl) rfl ?_
  exact ⟨_, _, rfl, reads_nothing 88 s rfl, ar_keeps BIX.out.ar hk LZ.out HB0.out.size, hbx.trans (hk.below (fun i hi => by rw [List.mem_singleton.1 hi]; omega) hbx.size)⟩
set_option maxHeartbeats 2000000 in
set_option maxRecDepth 100000 in
theorem read_83 (s : ByteArray) (hs : s.size ≤ 6000) (w : World) :
    Calls Try.prog 19 #[.agg #[.int .u8 83, .string s]] w (RdP (Reads 83 s) w) := by
  have hb1 := bel_alloc w (.cells #[.int .u8 83, .string s] 23)
  obtain ⟨bz, bi, hB⟩ := two_made (w.alloc (.cells #[.int .u8 83, .string s] 23)) { kind := 83 } rfl rfl rfl rfl rfl
  have bm := (Blk.new w 23 #[.int .u8 83, .string s]).below hB (by simp)
  replace hB := grow_ hb1 hB
  rw [show (w.alloc (.cells #[.int .u8 83, .string s] 23)).heap.size = w.heap.size + 1 by simp] at bz bi
  clear hb1
  go_enter Try.func19, Try.ntmps19
  go_upto_region 2 with fail
  refine wp_region_lit ?_
  change wpList _ _ _ _ _ (((w.alloc (.cells #[.int .u8 83, .string s] 23)).alloc (.cells (askV {} nl nl nl nl nl) 29)).alloc (.cells (askV { kind := 83 } nl nl nl nl nl) 29))
  generalize ((w.alloc (.cells #[.int .u8 83, .string s] 23)).alloc (.cells (askV {} nl nl nl nl nl) 29)).alloc (.cells (askV { kind := 83 } nl nl nl nl nl) 29) = W at *
  have m0 : W.cell? ⟨w.heap.size, 0, none⟩ = some (.int .u8 83) := bm.cell 0
  have m1 : W.cell? ⟨w.heap.size, 1, none⟩ = some (.string s) := bm.cell 1
  have LZ := Lib.hid bz.lt
  have BZ0 := Lib.hid bz
  have HB0 := Lib.hid hB
  have BI0 := Lib.hid bi
  clear bz hB bi bm
  have BIX := BI0
  have BZ := Lib.hid (BZ0.out.keeps BIX.out.kp (by simp))
  go_wp2_with (first
    | ((with_reducible refine load_blk (op := ⟨some 104, .load 29 (.tmp 3), _, _, _, _⟩) 3 _ _ ?_ ?_ rfl ?_ BIX.out.blk ?_); (· rfl); (· rfl); (· rfl))
    | ((with_reducible refine store_blk (op := ⟨none, .store 29 (.tmp 2) (.tmp 104), _, _, _, _⟩) 2 104 _ _ _ ?_ ?_ (AR.one BIX.out.ar) rfl rfl ?_ ?_ BZ.out ?_); (· rfl); (· rfl); (· rfl); (· rfl); (intro W4 hq hk)))
  have hbx := HB0.out.trans (BIX.out.kp.below (fun i hi => by rw [List.mem_singleton.1 hi]; omega) HB0.out.size)
  refine bodyPost_ret (v := .agg (askV { kind := 83 } nl nl nl nl nl)) (ret_out (by rfl) _ _ _ _ (by rfl) hq rfl) rfl ?_
  exact ⟨_, _, rfl, reads_nothing 83 s rfl, ar_keeps BIX.out.ar hk LZ.out HB0.out.size, hbx.trans (hk.below (fun i hi => by rw [List.mem_singleton.1 hi]; omega) hbx.size)⟩
set_option maxHeartbeats 2000000 in
set_option maxRecDepth 100000 in
theorem read_72 (s : ByteArray) (hs : s.size ≤ 6000) (w : World) :
    Calls Try.prog 19 #[.agg #[.int .u8 72, .string s]] w (RdP (Reads 72 s) w) := by
  have hb1 := bel_alloc w (.cells #[.int .u8 72, .string s] 23)
  obtain ⟨bz, bi, hB⟩ := two_made (w.alloc (.cells #[.int .u8 72, .string s] 23)) { kind := 72 } rfl rfl rfl rfl rfl
  have bm := (Blk.new w 23 #[.int .u8 72, .string s]).below hB (by simp)
  replace hB := grow_ hb1 hB
  rw [show (w.alloc (.cells #[.int .u8 72, .string s] 23)).heap.size = w.heap.size + 1 by simp] at bz bi
  clear hb1
  go_enter Try.func19, Try.ntmps19
  go_upto_region 2 with fail
  refine wp_region_lit ?_
  change wpList _ _ _ _ _ (((w.alloc (.cells #[.int .u8 72, .string s] 23)).alloc (.cells (askV {} nl nl nl nl nl) 29)).alloc (.cells (askV { kind := 72 } nl nl nl nl nl) 29))
  generalize ((w.alloc (.cells #[.int .u8 72, .string s] 23)).alloc (.cells (askV {} nl nl nl nl nl) 29)).alloc (.cells (askV { kind := 72 } nl nl nl nl nl) 29) = W at *
  have m0 : W.cell? ⟨w.heap.size, 0, none⟩ = some (.int .u8 72) := bm.cell 0
  have m1 : W.cell? ⟨w.heap.size, 1, none⟩ = some (.string s) := bm.cell 1
  have LZ := Lib.hid bz.lt
  have BZ0 := Lib.hid bz
  have HB0 := Lib.hid hB
  have BI0 := Lib.hid bi
  clear bz hB bi bm
  have BIX := BI0
  have BZ := Lib.hid (BZ0.out.keeps BIX.out.kp (by simp))
  go_wp2_with (first
    | ((with_reducible refine load_blk (op := ⟨some 104, .load 29 (.tmp 3), _, _, _, _⟩) 3 _ _ ?_ ?_ rfl ?_ BIX.out.blk ?_); (· rfl); (· rfl); (· rfl))
    | ((with_reducible refine store_blk (op := ⟨none, .store 29 (.tmp 2) (.tmp 104), _, _, _, _⟩) 2 104 _ _ _ ?_ ?_ (AR.one BIX.out.ar) rfl rfl ?_ ?_ BZ.out ?_); (· rfl); (· rfl); (· rfl); (· rfl); (intro W4 hq hk)))
  have hbx := HB0.out.trans (BIX.out.kp.below (fun i hi => by rw [List.mem_singleton.1 hi]; omega) HB0.out.size)
  refine bodyPost_ret (v := .agg (askV { kind := 72 } nl nl nl nl nl)) (ret_out (by rfl) _ _ _ _ (by rfl) hq rfl) rfl ?_
  exact ⟨_, _, rfl, reads_nothing 72 s rfl, ar_keeps BIX.out.ar hk LZ.out HB0.out.size, hbx.trans (hk.below (fun i hi => by rw [List.mem_singleton.1 hi]; omega) hbx.size)⟩
set_option maxHeartbeats 2000000 in
set_option maxRecDepth 100000 in
theorem read_112 (s : ByteArray) (hs : s.size ≤ 6000) (w : World) :
    Calls Try.prog 19 #[.agg #[.int .u8 112, .string s]] w (RdP (Reads 112 s) w) := by
  have hb1 := bel_alloc w (.cells #[.int .u8 112, .string s] 23)
  obtain ⟨bz, bi, hB⟩ := two_made (w.alloc (.cells #[.int .u8 112, .string s] 23)) { kind := 112 } rfl rfl rfl rfl rfl
  have bm := (Blk.new w 23 #[.int .u8 112, .string s]).below hB (by simp)
  replace hB := grow_ hb1 hB
  rw [show (w.alloc (.cells #[.int .u8 112, .string s] 23)).heap.size = w.heap.size + 1 by simp] at bz bi
  clear hb1
  go_enter Try.func19, Try.ntmps19
  go_upto_region 2 with fail
  refine wp_region_lit ?_
  change wpList _ _ _ _ _ (((w.alloc (.cells #[.int .u8 112, .string s] 23)).alloc (.cells (askV {} nl nl nl nl nl) 29)).alloc (.cells (askV { kind := 112 } nl nl nl nl nl) 29))
  generalize ((w.alloc (.cells #[.int .u8 112, .string s] 23)).alloc (.cells (askV {} nl nl nl nl nl) 29)).alloc (.cells (askV { kind := 112 } nl nl nl nl nl) 29) = W at *
  have m0 : W.cell? ⟨w.heap.size, 0, none⟩ = some (.int .u8 112) := bm.cell 0
  have m1 : W.cell? ⟨w.heap.size, 1, none⟩ = some (.string s) := bm.cell 1
  have LZ := Lib.hid bz.lt
  have BZ0 := Lib.hid bz
  have HB0 := Lib.hid hB
  have BI0 := Lib.hid bi
  clear bz hB bi bm
  have c3 : W.cell? ⟨w.heap.size + 2, 3, none⟩ = some (.string ⟨#[]⟩) := BI0.out.cell 3
  have f3 := BI0.out.frozen 3
  obtain ⟨t, p1, e1, h1⟩ := tripT (gText s 0)
  have H1 := Lib.hid h1
  clear h1
  have BIX := Lib.hid (BI0.out.fld 3 (.string (ba t)) { kind := 112, sql := t } rfl rfl)
  go_wp2_with fail
  refine (cText s hs _ _ _ _ H1.out _).mono ?_; rintro e w1 ⟨rfl, hw1⟩; obtain rfl := hw1.symm
  have BZ := Lib.hid (BZ0.out.keeps BIX.out.kp (by simp))
  go_wp2_with (first
    | ((with_reducible refine load_blk (op := ⟨some 104, .load 29 (.tmp 3), _, _, _, _⟩) 3 _ _ ?_ ?_ rfl ?_ BIX.out.blk ?_); (· rfl); (· rfl); (· rfl))
    | ((with_reducible refine store_blk (op := ⟨none, .store 29 (.tmp 2) (.tmp 104), _, _, _, _⟩) 2 104 _ _ _ ?_ ?_ (AR.one BIX.out.ar) rfl rfl ?_ ?_ BZ.out ?_); (· rfl); (· rfl); (· rfl); (· rfl); (intro W4 hq hk)))
  have hbx := HB0.out.trans (BIX.out.kp.below (fun i hi => by rw [List.mem_singleton.1 hi]; omega) HB0.out.size)
  refine bodyPost_ret (v := .agg (askV { kind := 112, sql := t } nl nl nl nl nl)) (ret_out (by rfl) _ _ _ _ (by rfl) hq rfl) rfl ?_
  exact ⟨_, _, rfl, (by have h := reads_sql 112 s rfl hs; rw [H1.out, ba_list] at h; exact h), ar_keeps BIX.out.ar hk LZ.out HB0.out.size, hbx.trans (hk.below (fun i hi => by rw [List.mem_singleton.1 hi]; omega) hbx.size)⟩
set_option maxHeartbeats 2000000 in
set_option maxRecDepth 100000 in
theorem read_81 (s : ByteArray) (hs : s.size ≤ 6000) (w : World) :
    Calls Try.prog 19 #[.agg #[.int .u8 81, .string s]] w (RdP (Reads 81 s) w) := by
  have hb1 := bel_alloc w (.cells #[.int .u8 81, .string s] 23)
  obtain ⟨bz, bi, hB⟩ := two_made (w.alloc (.cells #[.int .u8 81, .string s] 23)) { kind := 81 } rfl rfl rfl rfl rfl
  have bm := (Blk.new w 23 #[.int .u8 81, .string s]).below hB (by simp)
  replace hB := grow_ hb1 hB
  rw [show (w.alloc (.cells #[.int .u8 81, .string s] 23)).heap.size = w.heap.size + 1 by simp] at bz bi
  clear hb1
  go_enter Try.func19, Try.ntmps19
  go_upto_region 2 with fail
  refine wp_region_lit ?_
  change wpList _ _ _ _ _ (((w.alloc (.cells #[.int .u8 81, .string s] 23)).alloc (.cells (askV {} nl nl nl nl nl) 29)).alloc (.cells (askV { kind := 81 } nl nl nl nl nl) 29))
  generalize ((w.alloc (.cells #[.int .u8 81, .string s] 23)).alloc (.cells (askV {} nl nl nl nl nl) 29)).alloc (.cells (askV { kind := 81 } nl nl nl nl nl) 29) = W at *
  have m0 : W.cell? ⟨w.heap.size, 0, none⟩ = some (.int .u8 81) := bm.cell 0
  have m1 : W.cell? ⟨w.heap.size, 1, none⟩ = some (.string s) := bm.cell 1
  have LZ := Lib.hid bz.lt
  have BZ0 := Lib.hid bz
  have HB0 := Lib.hid hB
  have BI0 := Lib.hid bi
  clear bz hB bi bm
  have c3 : W.cell? ⟨w.heap.size + 2, 3, none⟩ = some (.string ⟨#[]⟩) := BI0.out.cell 3
  have f3 := BI0.out.frozen 3
  obtain ⟨t, p1, e1, h1⟩ := tripT (gText s 0)
  have H1 := Lib.hid h1
  clear h1
  have BIX := Lib.hid (BI0.out.fld 3 (.string (ba t)) { kind := 81, sql := t } rfl rfl)
  go_wp2_with fail
  refine (cText s hs _ _ _ _ H1.out _).mono ?_; rintro e w1 ⟨rfl, hw1⟩; obtain rfl := hw1.symm
  have BZ := Lib.hid (BZ0.out.keeps BIX.out.kp (by simp))
  go_wp2_with (first
    | ((with_reducible refine load_blk (op := ⟨some 104, .load 29 (.tmp 3), _, _, _, _⟩) 3 _ _ ?_ ?_ rfl ?_ BIX.out.blk ?_); (· rfl); (· rfl); (· rfl))
    | ((with_reducible refine store_blk (op := ⟨none, .store 29 (.tmp 2) (.tmp 104), _, _, _, _⟩) 2 104 _ _ _ ?_ ?_ (AR.one BIX.out.ar) rfl rfl ?_ ?_ BZ.out ?_); (· rfl); (· rfl); (· rfl); (· rfl); (intro W4 hq hk)))
  have hbx := HB0.out.trans (BIX.out.kp.below (fun i hi => by rw [List.mem_singleton.1 hi]; omega) HB0.out.size)
  refine bodyPost_ret (v := .agg (askV { kind := 81, sql := t } nl nl nl nl nl)) (ret_out (by rfl) _ _ _ _ (by rfl) hq rfl) rfl ?_
  exact ⟨_, _, rfl, (by have h := reads_sql 81 s rfl hs; rw [H1.out, ba_list] at h; exact h), ar_keeps BIX.out.ar hk LZ.out HB0.out.size, hbx.trans (hk.below (fun i hi => by rw [List.mem_singleton.1 hi]; omega) hbx.size)⟩
set_option maxHeartbeats 2000000 in
set_option maxRecDepth 100000 in
theorem read_80 (s : ByteArray) (hs : s.size ≤ 6000) (w : World) :
    Calls Try.prog 19 #[.agg #[.int .u8 80, .string s]] w (RdP (Reads 80 s) w) := by
  have hb1 := bel_alloc w (.cells #[.int .u8 80, .string s] 23)
  obtain ⟨bz, bi, hB⟩ := two_made (w.alloc (.cells #[.int .u8 80, .string s] 23)) { kind := 80 } rfl rfl rfl rfl rfl
  have bm := (Blk.new w 23 #[.int .u8 80, .string s]).below hB (by simp)
  replace hB := grow_ hb1 hB
  rw [show (w.alloc (.cells #[.int .u8 80, .string s] 23)).heap.size = w.heap.size + 1 by simp] at bz bi
  clear hb1
  go_enter Try.func19, Try.ntmps19
  go_upto_region 2 with fail
  refine wp_region_lit ?_
  change wpList _ _ _ _ _ (((w.alloc (.cells #[.int .u8 80, .string s] 23)).alloc (.cells (askV {} nl nl nl nl nl) 29)).alloc (.cells (askV { kind := 80 } nl nl nl nl nl) 29))
  generalize ((w.alloc (.cells #[.int .u8 80, .string s] 23)).alloc (.cells (askV {} nl nl nl nl nl) 29)).alloc (.cells (askV { kind := 80 } nl nl nl nl nl) 29) = W at *
  have m0 : W.cell? ⟨w.heap.size, 0, none⟩ = some (.int .u8 80) := bm.cell 0
  have m1 : W.cell? ⟨w.heap.size, 1, none⟩ = some (.string s) := bm.cell 1
  have LZ := Lib.hid bz.lt
  have BZ0 := Lib.hid bz
  have HB0 := Lib.hid hB
  have BI0 := Lib.hid bi
  clear bz hB bi bm
  have c1 : W.cell? ⟨w.heap.size + 2, 1, none⟩ = some (.string ⟨#[]⟩) := BI0.out.cell 1
  have f1 := BI0.out.frozen 1
  have c3 : W.cell? ⟨w.heap.size + 2, 3, none⟩ = some (.string ⟨#[]⟩) := BI0.out.cell 3
  have f3 := BI0.out.frozen 3
  obtain ⟨t, p1, e1, h1⟩ := tripT (gText s 0)
  obtain ⟨u, p2, e2, h2⟩ := tripT (gText s p1)
  have H1 := Lib.hid h1
  have H2 := Lib.hid h2
  clear h1 h2
  have BIX := Lib.hid ((BI0.out.fld 1 (.string (ba t)) { kind := 80, name := t } rfl rfl).fld 3 (.string (ba u)) { kind := 80, name := t, sql := u } rfl rfl)
  go_wp2_with fail
  refine (cText s hs _ _ _ _ H1.out _).mono ?_; rintro e w1 ⟨rfl, hw1⟩; obtain rfl := hw1.symm
  go_wp2_with fail
  refine (cText s hs _ _ _ _ H2.out _).mono ?_; rintro e w1 ⟨rfl, hw1⟩; obtain rfl := hw1.symm
  have BZ := Lib.hid (BZ0.out.keeps BIX.out.kp (by simp))
  go_wp2_with (first
    | ((with_reducible refine load_blk (op := ⟨some 104, .load 29 (.tmp 3), _, _, _, _⟩) 3 _ _ ?_ ?_ rfl ?_ BIX.out.blk ?_); (· rfl); (· rfl); (· rfl))
    | ((with_reducible refine store_blk (op := ⟨none, .store 29 (.tmp 2) (.tmp 104), _, _, _, _⟩) 2 104 _ _ _ ?_ ?_ (AR.one BIX.out.ar) rfl rfl ?_ ?_ BZ.out ?_); (· rfl); (· rfl); (· rfl); (· rfl); (intro W4 hq hk)))
  have hbx := HB0.out.trans (BIX.out.kp.below (fun i hi => by rw [List.mem_singleton.1 hi]; omega) HB0.out.size)
  refine bodyPost_ret (v := .agg (askV { kind := 80, name := t, sql := u } nl nl nl nl nl)) (ret_out (by rfl) _ _ _ _ (by rfl) hq rfl) rfl ?_
  exact ⟨_, _, rfl, (by have h := reads_parse 80 s rfl hs; rw [H1.out] at h; simp only at h; rw [H2.out, ba_list, ba_list] at h; exact h), ar_keeps BIX.out.ar hk LZ.out HB0.out.size, hbx.trans (hk.below (fun i hi => by rw [List.mem_singleton.1 hi]; omega) hbx.size)⟩
set_option maxHeartbeats 2000000 in
set_option maxRecDepth 100000 in
theorem read_68_0 (s : ByteArray) (hs : s.size ≤ 6000) (w : World) (hz : s.size = 0) :
    Calls Try.prog 19 #[.agg #[.int .u8 68, .string s]] w (RdP (Reads 68 s) w) := by
  have hb1 := bel_alloc w (.cells #[.int .u8 68, .string s] 23)
  obtain ⟨bz, bi, hB⟩ := two_made (w.alloc (.cells #[.int .u8 68, .string s] 23)) { kind := 68 } rfl rfl rfl rfl rfl
  have bm := (Blk.new w 23 #[.int .u8 68, .string s]).below hB (by simp)
  replace hB := grow_ hb1 hB
  rw [show (w.alloc (.cells #[.int .u8 68, .string s] 23)).heap.size = w.heap.size + 1 by simp] at bz bi
  clear hb1
  go_enter Try.func19, Try.ntmps19
  go_upto_region 2 with fail
  refine wp_region_lit ?_
  change wpList _ _ _ _ _ (((w.alloc (.cells #[.int .u8 68, .string s] 23)).alloc (.cells (askV {} nl nl nl nl nl) 29)).alloc (.cells (askV { kind := 68 } nl nl nl nl nl) 29))
  generalize ((w.alloc (.cells #[.int .u8 68, .string s] 23)).alloc (.cells (askV {} nl nl nl nl nl) 29)).alloc (.cells (askV { kind := 68 } nl nl nl nl nl) 29) = W at *
  have m0 : W.cell? ⟨w.heap.size, 0, none⟩ = some (.int .u8 68) := bm.cell 0
  have m1 : W.cell? ⟨w.heap.size, 1, none⟩ = some (.string s) := bm.cell 1
  have LZ := Lib.hid bz.lt
  have BZ0 := Lib.hid bz
  have HB0 := Lib.hid hB
  have BI0 := Lib.hid bi
  clear bz hB bi bm
  have c1 : W.cell? ⟨w.heap.size + 2, 1, none⟩ = some (.string ⟨#[]⟩) := BI0.out.cell 1
  have f1 := BI0.out.frozen 1
  have c10 : W.cell? ⟨w.heap.size + 2, 10, none⟩ = some (.int .u8 0) := BI0.out.cell 10
  have f10 := BI0.out.frozen 10
  obtain ⟨t, p1, e1, h1⟩ := tripT (gText s 1)
  have H1 := Lib.hid h1
  have HZ := Lib.hid hz
  clear h1
  have BIX := Lib.hid (BI0.out.fld 1 (.string (ba t)) { kind := 68, name := t } rfl rfl)
  go_wp2_with fail
  refine (cText s hs _ _ _ _ H1.out _).mono ?_; rintro e w1 ⟨rfl, hw1⟩; obtain rfl := hw1.symm
  have BZ := Lib.hid (BZ0.out.keeps BIX.out.kp (by simp))
  go_wp2_with (first
    | ((with_reducible refine load_blk (op := ⟨some 104, .load 29 (.tmp 3), _, _, _, _⟩) 3 _ _ ?_ ?_ rfl ?_ BIX.out.blk ?_); (· rfl); (· rfl); (· rfl))
    | ((with_reducible refine store_blk (op := ⟨none, .store 29 (.tmp 2) (.tmp 104), _, _, _, _⟩) 2 104 _ _ _ ?_ ?_ (AR.one BIX.out.ar) rfl rfl ?_ ?_ BZ.out ?_); (· rfl); (· rfl); (· rfl); (· rfl); (intro W4 hq hk)))
  have hbx := HB0.out.trans (BIX.out.kp.below (fun i hi => by rw [List.mem_singleton.1 hi]; omega) HB0.out.size)
  refine bodyPost_ret (v := .agg (askV { kind := 68, name := t } nl nl nl nl nl)) (ret_out (by rfl) _ _ _ _ (by rfl) hq rfl) rfl ?_
  exact ⟨_, _, rfl, (by have h := reads_named 68 s 0 rfl hs (fun c r e => by have := congrArg List.length e; rw [← Lib.size_eq, HZ.out] at this; simp at this); rw [H1.out, ba_list] at h; exact h), ar_keeps BIX.out.ar hk LZ.out HB0.out.size, hbx.trans (hk.below (fun i hi => by rw [List.mem_singleton.1 hi]; omega) hbx.size)⟩
set_option maxHeartbeats 2000000 in
set_option maxRecDepth 100000 in
theorem read_68_1 (s : ByteArray) (hs : s.size ≤ 6000) (w : World) (hz : 0 < s.size) :
    Calls Try.prog 19 #[.agg #[.int .u8 68, .string s]] w (RdP (Reads 68 s) w) := by
  have hb1 := bel_alloc w (.cells #[.int .u8 68, .string s] 23)
  obtain ⟨bz, bi, hB⟩ := two_made (w.alloc (.cells #[.int .u8 68, .string s] 23)) { kind := 68 } rfl rfl rfl rfl rfl
  have bm := (Blk.new w 23 #[.int .u8 68, .string s]).below hB (by simp)
  replace hB := grow_ hb1 hB
  rw [show (w.alloc (.cells #[.int .u8 68, .string s] 23)).heap.size = w.heap.size + 1 by simp] at bz bi
  clear hb1
  go_enter Try.func19, Try.ntmps19
  go_upto_region 2 with fail
  refine wp_region_lit ?_
  change wpList _ _ _ _ _ (((w.alloc (.cells #[.int .u8 68, .string s] 23)).alloc (.cells (askV {} nl nl nl nl nl) 29)).alloc (.cells (askV { kind := 68 } nl nl nl nl nl) 29))
  generalize ((w.alloc (.cells #[.int .u8 68, .string s] 23)).alloc (.cells (askV {} nl nl nl nl nl) 29)).alloc (.cells (askV { kind := 68 } nl nl nl nl nl) 29) = W at *
  have m0 : W.cell? ⟨w.heap.size, 0, none⟩ = some (.int .u8 68) := bm.cell 0
  have m1 : W.cell? ⟨w.heap.size, 1, none⟩ = some (.string s) := bm.cell 1
  have LZ := Lib.hid bz.lt
  have BZ0 := Lib.hid bz
  have HB0 := Lib.hid hB
  have BI0 := Lib.hid bi
  clear bz hB bi bm
  have c1 : W.cell? ⟨w.heap.size + 2, 1, none⟩ = some (.string ⟨#[]⟩) := BI0.out.cell 1
  have f1 := BI0.out.frozen 1
  have c10 : W.cell? ⟨w.heap.size + 2, 10, none⟩ = some (.int .u8 0) := BI0.out.cell 10
  have f10 := BI0.out.frozen 10
  obtain ⟨t, p1, e1, h1⟩ := tripT (gText s 1)
  have H1 := Lib.hid h1
  have HZ := Lib.hid hz
  clear h1
  have BIX := Lib.hid ((BI0.out.fld 10 (.int .u8 (s[0].toNat : Int)) { kind := 68, what := s[0] } rfl rfl).fld 1 (.string (ba t)) { kind := 68, what := s[0], name := t } rfl rfl)
  go_wp2_with fail
  refine (cText s hs _ _ _ _ H1.out _).mono ?_; rintro e w1 ⟨rfl, hw1⟩; obtain rfl := hw1.symm
  have BZ := Lib.hid (BZ0.out.keeps BIX.out.kp (by simp))
  go_wp2_with (first
    | ((with_reducible refine load_blk (op := ⟨some 104, .load 29 (.tmp 3), _, _, _, _⟩) 3 _ _ ?_ ?_ rfl ?_ BIX.out.blk ?_); (· rfl); (· rfl); (· rfl))
    | ((with_reducible refine store_blk (op := ⟨none, .store 29 (.tmp 2) (.tmp 104), _, _, _, _⟩) 2 104 _ _ _ ?_ ?_ (AR.one BIX.out.ar) rfl rfl ?_ ?_ BZ.out ?_); (· rfl); (· rfl); (· rfl); (· rfl); (intro W4 hq hk)))
  have hbx := HB0.out.trans (BIX.out.kp.below (fun i hi => by rw [List.mem_singleton.1 hi]; omega) HB0.out.size)
  refine bodyPost_ret (v := .agg (askV { kind := 68, what := s[0], name := t } nl nl nl nl nl)) (ret_out (by rfl) _ _ _ _ (by rfl) hq rfl) rfl ?_
  exact ⟨_, _, rfl, (by have h := reads_named 68 s s[0] rfl hs (fun c r e => head_of s HZ.out c r e); rw [H1.out, ba_list] at h; exact h), ar_keeps BIX.out.ar hk LZ.out HB0.out.size, hbx.trans (hk.below (fun i hi => by rw [List.mem_singleton.1 hi]; omega) hbx.size)⟩
set_option maxHeartbeats 2000000 in
set_option maxRecDepth 100000 in
theorem read_67_0 (s : ByteArray) (hs : s.size ≤ 6000) (w : World) (hz : s.size = 0) :
    Calls Try.prog 19 #[.agg #[.int .u8 67, .string s]] w (RdP (Reads 67 s) w) := by
  have hb1 := bel_alloc w (.cells #[.int .u8 67, .string s] 23)
  obtain ⟨bz, bi, hB⟩ := two_made (w.alloc (.cells #[.int .u8 67, .string s] 23)) { kind := 67 } rfl rfl rfl rfl rfl
  have bm := (Blk.new w 23 #[.int .u8 67, .string s]).below hB (by simp)
  replace hB := grow_ hb1 hB
  rw [show (w.alloc (.cells #[.int .u8 67, .string s] 23)).heap.size = w.heap.size + 1 by simp] at bz bi
  clear hb1
  go_enter Try.func19, Try.ntmps19
  go_upto_region 2 with fail
  refine wp_region_lit ?_
  change wpList _ _ _ _ _ (((w.alloc (.cells #[.int .u8 67, .string s] 23)).alloc (.cells (askV {} nl nl nl nl nl) 29)).alloc (.cells (askV { kind := 67 } nl nl nl nl nl) 29))
  generalize ((w.alloc (.cells #[.int .u8 67, .string s] 23)).alloc (.cells (askV {} nl nl nl nl nl) 29)).alloc (.cells (askV { kind := 67 } nl nl nl nl nl) 29) = W at *
  have m0 : W.cell? ⟨w.heap.size, 0, none⟩ = some (.int .u8 67) := bm.cell 0
  have m1 : W.cell? ⟨w.heap.size, 1, none⟩ = some (.string s) := bm.cell 1
  have LZ := Lib.hid bz.lt
  have BZ0 := Lib.hid bz
  have HB0 := Lib.hid hB
  have BI0 := Lib.hid bi
  clear bz hB bi bm
  have c1 : W.cell? ⟨w.heap.size + 2, 1, none⟩ = some (.string ⟨#[]⟩) := BI0.out.cell 1
  have f1 := BI0.out.frozen 1
  have c10 : W.cell? ⟨w.heap.size + 2, 10, none⟩ = some (.int .u8 0) := BI0.out.cell 10
  have f10 := BI0.out.frozen 10
  obtain ⟨t, p1, e1, h1⟩ := tripT (gText s 1)
  have H1 := Lib.hid h1
  have HZ := Lib.hid hz
  clear h1
  have BIX := Lib.hid (BI0.out.fld 1 (.string (ba t)) { kind := 67, name := t } rfl rfl)
  go_wp2_with fail
  refine (cText s hs _ _ _ _ H1.out _).mono ?_; rintro e w1 ⟨rfl, hw1⟩; obtain rfl := hw1.symm
  have BZ := Lib.hid (BZ0.out.keeps BIX.out.kp (by simp))
  go_wp2_with (first
    | ((with_reducible refine load_blk (op := ⟨some 104, .load 29 (.tmp 3), _, _, _, _⟩) 3 _ _ ?_ ?_ rfl ?_ BIX.out.blk ?_); (· rfl); (· rfl); (· rfl))
    | ((with_reducible refine store_blk (op := ⟨none, .store 29 (.tmp 2) (.tmp 104), _, _, _, _⟩) 2 104 _ _ _ ?_ ?_ (AR.one BIX.out.ar) rfl rfl ?_ ?_ BZ.out ?_); (· rfl); (· rfl); (· rfl); (· rfl); (intro W4 hq hk)))
  have hbx := HB0.out.trans (BIX.out.kp.below (fun i hi => by rw [List.mem_singleton.1 hi]; omega) HB0.out.size)
  refine bodyPost_ret (v := .agg (askV { kind := 67, name := t } nl nl nl nl nl)) (ret_out (by rfl) _ _ _ _ (by rfl) hq rfl) rfl ?_
  exact ⟨_, _, rfl, (by have h := reads_named 67 s 0 rfl hs (fun c r e => by have := congrArg List.length e; rw [← Lib.size_eq, HZ.out] at this; simp at this); rw [H1.out, ba_list] at h; exact h), ar_keeps BIX.out.ar hk LZ.out HB0.out.size, hbx.trans (hk.below (fun i hi => by rw [List.mem_singleton.1 hi]; omega) hbx.size)⟩
set_option maxHeartbeats 2000000 in
set_option maxRecDepth 100000 in
theorem read_67_1 (s : ByteArray) (hs : s.size ≤ 6000) (w : World) (hz : 0 < s.size) :
    Calls Try.prog 19 #[.agg #[.int .u8 67, .string s]] w (RdP (Reads 67 s) w) := by
  have hb1 := bel_alloc w (.cells #[.int .u8 67, .string s] 23)
  obtain ⟨bz, bi, hB⟩ := two_made (w.alloc (.cells #[.int .u8 67, .string s] 23)) { kind := 67 } rfl rfl rfl rfl rfl
  have bm := (Blk.new w 23 #[.int .u8 67, .string s]).below hB (by simp)
  replace hB := grow_ hb1 hB
  rw [show (w.alloc (.cells #[.int .u8 67, .string s] 23)).heap.size = w.heap.size + 1 by simp] at bz bi
  clear hb1
  go_enter Try.func19, Try.ntmps19
  go_upto_region 2 with fail
  refine wp_region_lit ?_
  change wpList _ _ _ _ _ (((w.alloc (.cells #[.int .u8 67, .string s] 23)).alloc (.cells (askV {} nl nl nl nl nl) 29)).alloc (.cells (askV { kind := 67 } nl nl nl nl nl) 29))
  generalize ((w.alloc (.cells #[.int .u8 67, .string s] 23)).alloc (.cells (askV {} nl nl nl nl nl) 29)).alloc (.cells (askV { kind := 67 } nl nl nl nl nl) 29) = W at *
  have m0 : W.cell? ⟨w.heap.size, 0, none⟩ = some (.int .u8 67) := bm.cell 0
  have m1 : W.cell? ⟨w.heap.size, 1, none⟩ = some (.string s) := bm.cell 1
  have LZ := Lib.hid bz.lt
  have BZ0 := Lib.hid bz
  have HB0 := Lib.hid hB
  have BI0 := Lib.hid bi
  clear bz hB bi bm
  have c1 : W.cell? ⟨w.heap.size + 2, 1, none⟩ = some (.string ⟨#[]⟩) := BI0.out.cell 1
  have f1 := BI0.out.frozen 1
  have c10 : W.cell? ⟨w.heap.size + 2, 10, none⟩ = some (.int .u8 0) := BI0.out.cell 10
  have f10 := BI0.out.frozen 10
  obtain ⟨t, p1, e1, h1⟩ := tripT (gText s 1)
  have H1 := Lib.hid h1
  have HZ := Lib.hid hz
  clear h1
  have BIX := Lib.hid ((BI0.out.fld 10 (.int .u8 (s[0].toNat : Int)) { kind := 67, what := s[0] } rfl rfl).fld 1 (.string (ba t)) { kind := 67, what := s[0], name := t } rfl rfl)
  go_wp2_with fail
  refine (cText s hs _ _ _ _ H1.out _).mono ?_; rintro e w1 ⟨rfl, hw1⟩; obtain rfl := hw1.symm
  have BZ := Lib.hid (BZ0.out.keeps BIX.out.kp (by simp))
  go_wp2_with (first
    | ((with_reducible refine load_blk (op := ⟨some 104, .load 29 (.tmp 3), _, _, _, _⟩) 3 _ _ ?_ ?_ rfl ?_ BIX.out.blk ?_); (· rfl); (· rfl); (· rfl))
    | ((with_reducible refine store_blk (op := ⟨none, .store 29 (.tmp 2) (.tmp 104), _, _, _, _⟩) 2 104 _ _ _ ?_ ?_ (AR.one BIX.out.ar) rfl rfl ?_ ?_ BZ.out ?_); (· rfl); (· rfl); (· rfl); (· rfl); (intro W4 hq hk)))
  have hbx := HB0.out.trans (BIX.out.kp.below (fun i hi => by rw [List.mem_singleton.1 hi]; omega) HB0.out.size)
  refine bodyPost_ret (v := .agg (askV { kind := 67, what := s[0], name := t } nl nl nl nl nl)) (ret_out (by rfl) _ _ _ _ (by rfl) hq rfl) rfl ?_
  exact ⟨_, _, rfl, (by have h := reads_named 67 s s[0] rfl hs (fun c r e => head_of s HZ.out c r e); rw [H1.out, ba_list] at h; exact h), ar_keeps BIX.out.ar hk LZ.out HB0.out.size, hbx.trans (hk.below (fun i hi => by rw [List.mem_singleton.1 hi]; omega) hbx.size)⟩
set_option maxHeartbeats 2000000 in
set_option maxRecDepth 100000 in
theorem read_69 (s : ByteArray) (hs : s.size ≤ 6000) (w : World) :
    Calls Try.prog 19 #[.agg #[.int .u8 69, .string s]] w (RdP (Reads 69 s) w) := by
  have hb1 := bel_alloc w (.cells #[.int .u8 69, .string s] 23)
  obtain ⟨bz, bi, hB⟩ := two_made (w.alloc (.cells #[.int .u8 69, .string s] 23)) { kind := 69 } rfl rfl rfl rfl rfl
  have bm := (Blk.new w 23 #[.int .u8 69, .string s]).below hB (by simp)
  replace hB := grow_ hb1 hB
  rw [show (w.alloc (.cells #[.int .u8 69, .string s] 23)).heap.size = w.heap.size + 1 by simp] at bz bi
  clear hb1
  go_enter Try.func19, Try.ntmps19
  go_upto_region 2 with fail
  refine wp_region_lit ?_
  change wpList _ _ _ _ _ (((w.alloc (.cells #[.int .u8 69, .string s] 23)).alloc (.cells (askV {} nl nl nl nl nl) 29)).alloc (.cells (askV { kind := 69 } nl nl nl nl nl) 29))
  generalize ((w.alloc (.cells #[.int .u8 69, .string s] 23)).alloc (.cells (askV {} nl nl nl nl nl) 29)).alloc (.cells (askV { kind := 69 } nl nl nl nl nl) 29) = W at *
  have m0 : W.cell? ⟨w.heap.size, 0, none⟩ = some (.int .u8 69) := bm.cell 0
  have m1 : W.cell? ⟨w.heap.size, 1, none⟩ = some (.string s) := bm.cell 1
  have LZ := Lib.hid bz.lt
  have BZ0 := Lib.hid bz
  have HB0 := Lib.hid hB
  have BI0 := Lib.hid bi
  clear bz hB bi bm
  have c2 : W.cell? ⟨w.heap.size + 2, 2, none⟩ = some (.string ⟨#[]⟩) := BI0.out.cell 2
  have f2 := BI0.out.frozen 2
  have c9 : W.cell? ⟨w.heap.size + 2, 9, none⟩ = some (.int .i64 0) := BI0.out.cell 9
  have f9 := BI0.out.frozen 9
  obtain ⟨t, p1, e1, h1⟩ := tripT (gText s 0)
  obtain ⟨n, p2, e2, h2⟩ := trip3 (g32 s p1)
  have H1 := Lib.hid h1
  have H2 := Lib.hid h2
  clear h1 h2
  go_wp2_with fail
  refine (cText s hs _ _ _ _ H1.out _).mono ?_; rintro e w1 ⟨rfl, hw1⟩; obtain rfl := hw1.symm
  go_wp2_with fail
  refine (c32 s hs _ _ _ _ H2.out _).mono ?_; rintro e w1 ⟨rfl, hb1⟩
  have BI1 := Lib.hid (BI0.out.below hb1)
  clear c2 f2 c9 f9 m0 m1 hb1
  have c2 : w1.cell? ⟨w.heap.size + 2, 2, none⟩ = some (.string ⟨#[]⟩) := BI1.out.cell 2
  have f2 := BI1.out.frozen 2
  have c9 : w1.cell? ⟨w.heap.size + 2, 9, none⟩ = some (.int .i64 0) := BI1.out.cell 9
  have f9 := BI1.out.frozen 9
  have BIX := Lib.hid ((BI1.out.fld 2 (.string (ba t)) { kind := 69, portal := t } rfl rfl).fld 9 (.int .i64 n) { kind := 69, portal := t, most := n } rfl rfl)
  have BZ := Lib.hid (BZ0.out.keeps BIX.out.kp (by simp))
  go_wp2_with (first
    | ((with_reducible refine load_blk (op := ⟨some 104, .load 29 (.tmp 3), _, _, _, _⟩) 3 _ _ ?_ ?_ rfl ?_ BIX.out.blk ?_); (· rfl); (· rfl); (· rfl))
    | ((with_reducible refine store_blk (op := ⟨none, .store 29 (.tmp 2) (.tmp 104), _, _, _, _⟩) 2 104 _ _ _ ?_ ?_ (AR.one BIX.out.ar) rfl rfl ?_ ?_ BZ.out ?_); (· rfl); (· rfl); (· rfl); (· rfl); (intro W4 hq hk)))
  have hbx := HB0.out.trans (BIX.out.kp.below (fun i hi => by rw [List.mem_singleton.1 hi]; omega) HB0.out.size)
  refine bodyPost_ret (v := .agg (askV { kind := 69, portal := t, most := n } nl nl nl nl nl)) (ret_out (by rfl) _ _ _ _ (by rfl) hq rfl) rfl ?_
  exact ⟨_, _, rfl, (by have h := reads_exec 69 s rfl hs; rw [H1.out] at h; simp only at h; rw [H2.out, ba_list] at h; exact h), ar_keeps BIX.out.ar hk LZ.out HB0.out.size, hbx.trans (hk.below (fun i hi => by rw [List.mem_singleton.1 hi]; omega) hbx.size)⟩
set_option maxHeartbeats 2000000 in
set_option maxRecDepth 100000 in
theorem read_0 (s : ByteArray) (hs : s.size ≤ 6000) (w : World) :
    Calls Try.prog 19 #[.agg #[.int .u8 0, .string s]] w (RdP (Reads 0 s) w) := by
  have hb1 := bel_alloc w (.cells #[.int .u8 0, .string s] 23)
  obtain ⟨bz, bi, hB⟩ := two_made (w.alloc (.cells #[.int .u8 0, .string s] 23)) { kind := 0 } rfl rfl rfl rfl rfl
  have bm := (Blk.new w 23 #[.int .u8 0, .string s]).below hB (by simp)
  replace hB := grow_ hb1 hB
  rw [show (w.alloc (.cells #[.int .u8 0, .string s] 23)).heap.size = w.heap.size + 1 by simp] at bz bi
  clear hb1
  go_enter Try.func19, Try.ntmps19
  go_upto_region 2 with fail
  refine wp_region_lit ?_
  change wpList _ _ _ _ _ (((w.alloc (.cells #[.int .u8 0, .string s] 23)).alloc (.cells (askV {} nl nl nl nl nl) 29)).alloc (.cells (askV { kind := 0 } nl nl nl nl nl) 29))
  generalize ((w.alloc (.cells #[.int .u8 0, .string s] 23)).alloc (.cells (askV {} nl nl nl nl nl) 29)).alloc (.cells (askV { kind := 0 } nl nl nl nl nl) 29) = W at *
  have m0 : W.cell? ⟨w.heap.size, 0, none⟩ = some (.int .u8 0) := bm.cell 0
  have m1 : W.cell? ⟨w.heap.size, 1, none⟩ = some (.string s) := bm.cell 1
  have LZ := Lib.hid bz.lt
  have BZ0 := Lib.hid bz
  have HB0 := Lib.hid hB
  have BI0 := Lib.hid bi
  clear bz hB bi bm
  clear BI0
  go_wp2_with fail
  refine (first_any s hs _).mono ?_; rintro e w1 ⟨v, r, rfl, hr, har, hb1⟩
  have hbx := grow_ HB0.out hb1
  have BZ := Lib.hid (BZ0.out.below hb1 BZ0.out.lt)
  have HAR := Lib.hid har
  have hone : v.all (·.oneCell') = true := by
    obtain ⟨kv, vv, av, nv, fv, e, _⟩ := har.ex
    injection e with e
    subst e
    exact har.one
  have hsz : v.size = 14 := by
    obtain ⟨kv, vv, av, nv, fv, e, _⟩ := har.ex
    injection e with e
    rw [e]; rfl
  have HO := Lib.hid hone
  have HSZ := Lib.hid hsz
  clear hone hsz har
  go_wp2_with ((with_reducible refine store_blk (op := ⟨none, .store 29 (.tmp 2) (.tmp 33), _, _, _, _⟩) 2 33 _ v _ ?_ HSZ.out HO.out rfl rfl ?_ ?_ BZ.out ?_); (· rfl); (· rfl); (· rfl); (intro W4 hq hk))
  refine bodyPost_ret (v := .agg v) (ret_out (by rfl) _ _ _ _ (by rfl) hq HSZ.out) rfl ?_
  exact ⟨_, r, rfl, hr, ar_keeps HAR.out hk LZ.out HB0.out.size, hbx.trans (hk.below (fun i hi => by rw [List.mem_singleton.1 hi]; omega) hbx.size)⟩
set_option maxHeartbeats 2000000 in
set_option maxRecDepth 100000 in
theorem read_66 (s : ByteArray) (hs : s.size ≤ 6000) (w : World) :
    Calls Try.prog 19 #[.agg #[.int .u8 66, .string s]] w (RdP (Reads 66 s) w) := by
  have hb1 := bel_alloc w (.cells #[.int .u8 66, .string s] 23)
  obtain ⟨bz, bi, hB⟩ := two_made (w.alloc (.cells #[.int .u8 66, .string s] 23)) { kind := 66 } rfl rfl rfl rfl rfl
  have bm := (Blk.new w 23 #[.int .u8 66, .string s]).below hB (by simp)
  replace hB := grow_ hb1 hB
  rw [show (w.alloc (.cells #[.int .u8 66, .string s] 23)).heap.size = w.heap.size + 1 by simp] at bz bi
  clear hb1
  go_enter Try.func19, Try.ntmps19
  go_upto_region 2 with fail
  refine wp_region_lit ?_
  change wpList _ _ _ _ _ (((w.alloc (.cells #[.int .u8 66, .string s] 23)).alloc (.cells (askV {} nl nl nl nl nl) 29)).alloc (.cells (askV { kind := 66 } nl nl nl nl nl) 29))
  generalize ((w.alloc (.cells #[.int .u8 66, .string s] 23)).alloc (.cells (askV {} nl nl nl nl nl) 29)).alloc (.cells (askV { kind := 66 } nl nl nl nl nl) 29) = W at *
  have m0 : W.cell? ⟨w.heap.size, 0, none⟩ = some (.int .u8 66) := bm.cell 0
  have m1 : W.cell? ⟨w.heap.size, 1, none⟩ = some (.string s) := bm.cell 1
  have LZ := Lib.hid bz.lt
  have BZ0 := Lib.hid bz
  have HB0 := Lib.hid hB
  have BI0 := Lib.hid bi
  clear bz hB bi bm
  clear BI0
  go_wp2_with fail
  refine (binding_any s hs _).mono ?_; rintro e w1 ⟨v, r, rfl, hr, har, hb1⟩
  have hbx := grow_ HB0.out hb1
  have BZ := Lib.hid (BZ0.out.below hb1 BZ0.out.lt)
  have HAR := Lib.hid har
  have hone : v.all (·.oneCell') = true := by
    obtain ⟨kv, vv, av, nv, fv, e, _⟩ := har.ex
    injection e with e
    subst e
    exact har.one
  have hsz : v.size = 14 := by
    obtain ⟨kv, vv, av, nv, fv, e, _⟩ := har.ex
    injection e with e
    rw [e]; rfl
  have HO := Lib.hid hone
  have HSZ := Lib.hid hsz
  clear hone hsz har
  go_wp2_with ((with_reducible refine store_blk (op := ⟨none, .store 29 (.tmp 2) (.tmp 37), _, _, _, _⟩) 2 37 _ v _ ?_ HSZ.out HO.out rfl rfl ?_ ?_ BZ.out ?_); (· rfl); (· rfl); (· rfl); (intro W4 hq hk))
  refine bodyPost_ret (v := .agg v) (ret_out (by rfl) _ _ _ _ (by rfl) hq HSZ.out) rfl ?_
  exact ⟨_, r, rfl, hr, ar_keeps HAR.out hk LZ.out HB0.out.size, hbx.trans (hk.below (fun i hi => by rw [List.mem_singleton.1 hi]; omega) hbx.size)⟩
theorem read_any (k : UInt8) (s : ByteArray) (hs : s.size ≤ 6000) (w : World) (hk : (kd k).isSome = true) : Calls Try.prog 19 #[.agg #[u8 k, .string s]] w (RdP (Reads k s) w) := by
  rcases kd_inv k with h | ⟨rfl, h⟩ | ⟨rfl | rfl, h⟩ | ⟨rfl | rfl | rfl, h⟩ | ⟨rfl, h⟩ | ⟨rfl, h⟩ | ⟨rfl | rfl, h⟩ | ⟨rfl, h⟩
  · rw [h] at hk; cases hk
  · exact read_0 s hs w
  · exact read_112 s hs w
  · exact read_81 s hs w
  · exact read_88 s hs w
  · exact read_83 s hs w
  · exact read_72 s hs w
  · exact read_80 s hs w
  · exact read_66 s hs w
  · by_cases hz : s.size = 0
    · exact read_68_0 s hs w hz
    · exact read_68_1 s hs w (by omega)
  · by_cases hz : s.size = 0
    · exact read_67_0 s hs w hz
    · exact read_67_1 s hs w (by omega)
  · exact read_69 s hs w
end Go.Proofs.Ytojgeilihoilnaa
namespace Go.Proofs.Ytojgeilihoilnaa
open Go.ChangeShapes Go.WideShapes Go.ChangeAt Go.RowKit
set_option linter.unusedVariables false
set_option linter.unusedSimpArgs false

theorem dout {f : Func} (hf : f.results = #[.cell 2 29, .tmp 3]) (g : Nat) (wf : World) (tmps : Array Value) (c : Int) (cs : Array Value) (h2 : tmps.getD 2 undef = .pointer (some ⟨g, 0, none⟩)) (h3 : tmps.getD 3 undef = .int .i64 c) (hb : Blk wf g 29 cs) (hz : cs.size = 14) :
    (results f tmps).run Try.prog wf = .ok (.tuple #[.agg cs, .int .i64 c]) wf := by
  obtain ⟨fs, hu⟩ := askTy
  have hl := run_loadVar_row (P := Try.prog) wf g 29 29 cs (0, 0) (.struct fs) hb hu rfl (by rw [askInfo, hz])
  have h2' : tmps[2]?.getD undef = .pointer (some ⟨g, 0, none⟩) := by simpa using h2
  have h3' : tmps[3]?.getD undef = .int .i64 c := by simpa using h3
  simp [results, hf, h2', h3', asAddr, hl]
section
variable {ops : Array Oper} {Q : Exit → Act → World → Prop} {a : Act} {w : World} {op : Oper} {rest : List Oper}
theorem store_box2 (B d x : Nat) (r : Ask) (v cs : Array Value) (hz : cs.size = 14) (hgd : op.guard = none) (ho : op.op = .store 29 (.tmp d) (.tmp x)) (hx : a.eval (.tmp d) = .pointer (some ⟨w.heap.size, 0, none⟩)) (hy : a.eval (.tmp x) = .agg v)
    (har : AR (fun i => B ≤ i ∧ i < w.heap.size) w (.agg v) r) (h : ∀ W kv vv av nv fv, Blk W w.heap.size 29 (askV r kv vv av nv fv) → AR (fun i => B ≤ i ∧ i < w.heap.size) W (.agg (askV r kv vv av nv fv)) r → Below w.heap.size w W → wpList Try.prog ops Q rest (a.put op.dst undef) W) : wpList Try.prog ops Q (op :: rest) a (w.alloc (.cells cs 29)) := by
  have har2 := har
  obtain ⟨kv, vv, av, nv, fv, e, _⟩ := har.ex
  injection e with e
  subst e
  have hq := (Blk.new w 29 cs).store (askV r kv vv av nv fv) (by rw [hz]; rfl)
  have hk := Keeps.sets w.heap.size (.inl (List.mem_singleton.2 rfl)) (askV r kv vv av nv fv).toList 0 _ (Keeps.refl [w.heap.size] (w.alloc (.cells cs 29)))
  have hb : Below w.heap.size w ((w.alloc (.cells cs 29)).setCells w.heap.size 0 (askV r kv vv av nv fv).toList) :=
    (bel_alloc w _).trans (hk.below (fun i hi => by rw [List.mem_singleton.1 hi]; exact Nat.le_refl _) (by simp))
  exact wpList_store_mid hgd 29 (.tmp d) (.tmp x) ho w.heap.size 0 _ hx hy ((Blk.new w 29 cs).there _ (by rw [hz]; exact Nat.le_refl _)) askInfo har.one (h _ kv vv av nv fv hq (har2.step (fun i hi => hb.block i hi.2) (fun _ h => h)) hb)
end
theorem bne_no {x y : List UInt8} (h : ¬ x = y) : (!x == y) = true := by rw [beq_eq_false_iff_ne.2 h]; rfl
/-- what the document's own Decode does -/
def RDecP (r : Ask) (c : Int) (w : World) (e : Ending) (w' : World) : Prop := ∃ v, e = .returned (.tuple #[.agg v, .int .i64 c]) ∧ AR (fun i => i < w'.heap.size) w' (.agg v) r ∧ Below w.heap.size w w'
theorem rdec_ok {k : UInt8} {s : ByteArray} {r : Ask} (h : Reads k s r) (hr : RightP r) (hb : body r = s.data.toList) : decP k s.data.toList = (r, 0) := by
  have := dec_ok hr
  rw [h.1, hb] at this
  exact this
theorem rdec_no {k : UInt8} {s : ByteArray} {r : Ask} (h : Reads k s r) (hk : (kd k).isSome = true) (hn : ¬ (RightP r ∧ body r = s.data.toList)) : decP k s.data.toList = ({}, 4) := by
  by_cases hz : (decP k s.data.toList).2 = 0
  · exfalso
    obtain ⟨h1, h2, h3⟩ := dec_inv hz
    have e := h.2.2 _ h1 h2 h3
    exact hn ⟨by rw [e]; exact h1, by rw [e]; exact h3⟩
  · rw [dec_no hz, hk]; rfl
theorem body_s (w : World) (r : Ask) (v : Value) (T : ByteArray) (hT : ba (body r) = T) (f : Few r) (h : RightP r) (har : AR (fun i => i < w.heap.size) w v r) : Calls Try.prog 20 #[v] w fun e w' => e = .returned (.string T) ∧ Below w.heap.size w w' := by
  subst hT
  exact rbody_any w r v f h.1.vals h.1.null har
set_option maxHeartbeats 2000000 in
set_option maxRecDepth 100000 in
theorem rdec_kind (n : Int) (s : ByteArray) (hs : s.size ≤ 6000) (w : World) (n0 : (n == 0) = false) (n112 : (n == 112) = false) (n81 : (n == 81) = false) (n80 : (n == 80) = false) (n66 : (n == 66) = false) (n68 : (n == 68) = false) (n67 : (n == 67) = false) (n69 : (n == 69) = false) (n88 : (n == 88) = false) (n83 : (n == 83) = false) (n72 : (n == 72) = false) :
    Calls Try.prog 10 #[.agg #[.int .u8 n, .string s]] w (RDecP {} 5 w) := by
  have hb1 := bel_alloc w (.cells #[.int .u8 n, .string s] 23)
  have hb2 := bel_alloc (w.alloc (.cells #[.int .u8 n, .string s] 23)) (.cells (askV {} nl nl nl nl nl) 29)
  have bm := (Blk.new w 23 #[.int .u8 n, .string s]).below hb2 (by simp)
  have bz := Blk.new (w.alloc (.cells #[.int .u8 n, .string s] 23)) 29 (askV {} nl nl nl nl nl)
  rw [show (w.alloc (.cells #[.int .u8 n, .string s] 23)).heap.size = w.heap.size + 1 by simp] at bz
  have hB := grow_ hb1 hb2
  clear hb1 hb2
  go_enter Try.func10, Try.ntmps10
  go_upto_region 1 with fail
  refine wp_region_lit ?_
  change wpList _ _ _ _ _ ((w.alloc (.cells #[.int .u8 n, .string s] 23)).alloc (.cells (askV {} nl nl nl nl nl) 29))
  generalize (w.alloc (.cells #[.int .u8 n, .string s] 23)).alloc (.cells (askV {} nl nl nl nl nl) 29) = W at *
  have m0 : W.cell? ⟨w.heap.size, 0, none⟩ = some (.int .u8 n) := bm.cell 0
  have m1 : W.cell? ⟨w.heap.size, 1, none⟩ = some (.string s) := bm.cell 1
  have LZ := Lib.hid bz.lt
  have BZ := Lib.hid bz
  clear bz
  go_wp2_with ((with_reducible refine store_blk (op := ⟨none, .store 29 (.tmp 2) (.tmp 7), _, _, _, _⟩) 2 7 _ (askV {} nl nl nl nl nl) _ ?_ ?_ (askOne _ _ _ _ _ _ rfl rfl rfl rfl rfl) rfl rfl ?_ ?_ BZ.out ?_); (· rfl); (· rfl); (· rfl); (· rfl); (intro W4 hq hk))
  refine bodyPost_ret (v := .tuple #[.agg (askV {} nl nl nl nl nl), .int .i64 5]) (dout (by rfl) _ _ _ _ _ (by rfl) (by rfl) hq rfl) rfl ?_
  exact ⟨_, rfl, ar_flat' _ _ _ rfl rfl rfl rfl rfl, hB.trans (hk.below (fun i hi => by rw [List.mem_singleton.1 hi]; omega) hB.size)⟩
set_option maxHeartbeats 2000000 in
set_option maxRecDepth 100000 in
theorem rdec_some (n : Int) (s : ByteArray) (hs : s.size ≤ 6000) (w : World) (k : UInt8) (hkn : Hid ((k.toNat : Int) = n)) (hks : Hid ((kd k).isSome = true)) (hn : Hid (n = 0 ∨ n = 112 ∨ n = 81 ∨ n = 80 ∨ n = 66 ∨ n = 68 ∨ n = 67 ∨ n = 69 ∨ n = 88 ∨ n = 83 ∨ n = 72)) :
    Calls Try.prog 10 #[.agg #[.int .u8 n, .string s]] w (RDecP (decP k s.data.toList).1 (decP k s.data.toList).2 w) := by
  have hb1 := bel_alloc w (.cells #[.int .u8 n, .string s] 23)
  have hb2 := bel_alloc (w.alloc (.cells #[.int .u8 n, .string s] 23)) (.cells (askV {} nl nl nl nl nl) 29)
  have bm := (Blk.new w 23 #[.int .u8 n, .string s]).below hb2 (by simp)
  have bz := Blk.new (w.alloc (.cells #[.int .u8 n, .string s] 23)) 29 (askV {} nl nl nl nl nl)
  rw [show (w.alloc (.cells #[.int .u8 n, .string s] 23)).heap.size = w.heap.size + 1 by simp] at bz
  have hB := grow_ hb1 hb2
  clear hb1 hb2
  go_enter Try.func10, Try.ntmps10
  go_upto_region 1 with fail
  refine wp_region_lit ?_
  change wpList _ _ _ _ _ ((w.alloc (.cells #[.int .u8 n, .string s] 23)).alloc (.cells (askV {} nl nl nl nl nl) 29))
  generalize (w.alloc (.cells #[.int .u8 n, .string s] 23)).alloc (.cells (askV {} nl nl nl nl nl) 29) = W at *
  have m0 : W.cell? ⟨w.heap.size, 0, none⟩ = some (.int .u8 n) := bm.cell 0
  have m1 : W.cell? ⟨w.heap.size, 1, none⟩ = some (.string s) := bm.cell 1
  have LZ := Lib.hid bz.lt
  go_upto_block 0 with fail
  go_cut [3] from 5 to 19 (fun s3 wx => s3 = .int .i64 0 ∧ wx = W)
  case first =>
    rcases hn.out with h | h | h | h | h | h | h | h | h | h | h
    all_goals
      subst h
      go_wp2
      go_meet
      exact ⟨rfl, rfl⟩
  case rest =>
    obtain ⟨rfl, hwc⟩ := hcut
    obtain rfl := hwc.symm
    have rd : ∀ w', Calls Try.prog 19 #[.agg #[.int .u8 n, .string s]] w' (RdP (Reads k s) w') := fun w' => by
      have h := read_any k s hs w' hks.out
      have e := hkn.out
      subst e
      exact h
    have RD := Lib.hid rd
    clear rd
    go_wp2_with fail
    refine (RD.out _).mono ?_; rintro e w1 ⟨v, r, rfl, hr, har, hb1⟩
    have HR := Lib.hid hr
    have HB1 := Lib.hid (grow_ hB hb1)
    have BM1 := Lib.hid (bm.below hb1 bm.lt)
    have BZ1 := Lib.hid (bz.below hb1 bz.lt)
    have LW := Lib.hid hb1.size
    clear hr hb1 bm bz hB m0 m1
    go_upto_region 15 with ((with_reducible refine store_box2 (op := ⟨none, .store 29 (.tmp 4) (.tmp 21), _, _, _, _⟩) W.heap.size 4 21 _ _ _ ?_ rfl rfl ?_ ?_ har ?_); (· rfl); (· rfl); (· rfl); (intro W2 kv vv av nv fv q4 har2 hb2))
    have HB2 := Lib.hid (grow_ HB1.out hb2)
    have bm2 := BM1.out.below hb2 BM1.out.lt
    have BZ2 := Lib.hid (BZ1.out.below hb2 BZ1.out.lt)
    have x1 : W2.cell? ⟨w.heap.size, 1, none⟩ = some (.string s) := bm2.cell 1
    have lm := bm2.lt
    have HAR := Lib.hid har2
    have LG := Lib.hid hb2.size
    clear har har2 hb2 bm2 HB1 BM1 BZ1
    have HF : Hid (Few r) := Lib.hid HR.out.2.1
    by_cases h : RightP r
    · have H := Lib.hid h
      clear h
      by_cases hbo : body r = s.data.toList
      · have HT : Hid (ba (body r) = s) := Lib.hid (by rw [hbo, ba_of])
        have e := rdec_ok HR.out H.out hbo
        have DE := Lib.hid e
        clear e hbo
        refine wp_region_held_drew (S := (fun w' => w'.cell? ⟨w.heap.size, 1, none⟩ = some (.string s) ∧ Blk w' w1.heap.size 29 (askV r kv vv av nv fv) ∧ Below W2.heap.size W2 w')) (by kernel_rfl) ?_ (fun hS => ?_)
        · exact ⟨x1, q4.drew_, bel_drew _⟩
        try dsimp only at hS
        refine wpAnyH_take (i := 0) (v := ?_) rfl (by kernel_rfl) (by kernel_rfl) (by kernel_rfl) (fun _ _ _ h => h) (Or.inl ⟨by kernel_rfl, ?_⟩) hS ?_
        rotate_left
        · intro wz hSz; try dsimp only at hSz
          simp only [List.getElem_toArray, List.getElem_cons_succ, List.getElem_cons_zero]
          refine lask_ _ _ _ hSz.2.1 rfl ?_
          rfl
        try simp only [Act.put, List.getElem_toArray, List.getElem_cons_succ, List.getElem_cons_zero, List.setIfInBounds_toArray, List.set_cons_zero, List.set_cons_succ]
        refine wpAnyH_ready (rs := [1]) (by kernel_rfl) (by simp) (AllReadyH.cons rfl (fun K hK => ?_) AllReadyH.nil)
        go_simp
        (go_at_call 16; refine (rr_yes _ r _ HF.out ((HAR.out.step (fun i hi => hS.2.2.block i (Nat.lt_of_lt_of_le hi.2 LG.out)) (fun i hi => Nat.lt_of_lt_of_le (Nat.lt_of_lt_of_le hi.2 LG.out) hS.2.2.size))) H.out).mono ?_; rintro e wq ⟨rfl, hb⟩)
        refine hK.out _ _ ?_ (fun hSn => ?_)
        · exact ⟨((bcell hb).1 _ _ (Nat.lt_of_lt_of_le lm hS.2.2.size)).trans hS.1, hS.2.1.below hb hS.2.1.lt, grow_ hS.2.2 hb⟩
        clear hK K hS
        have hS := hSn
        clear hSn
        try dsimp only at hS
        try simp only [Act.put, List.getElem_toArray, List.getElem_cons_succ, List.getElem_cons_zero, List.setIfInBounds_toArray, List.set_cons_zero, List.set_cons_succ]
        refine wpAnyH_take (i := 2) (v := ?_) rfl (by kernel_rfl) (by kernel_rfl) (by kernel_rfl) (fun _ _ _ h => h) (Or.inl ⟨by kernel_rfl, ?_⟩) hS ?_
        rotate_left
        · intro wz hSz; try dsimp only at hSz
          go_simp
          all_goals with_reducible rfl
        try simp only [Act.put, List.getElem_toArray, List.getElem_cons_succ, List.getElem_cons_zero, List.setIfInBounds_toArray, List.set_cons_zero, List.set_cons_succ]
        refine wpAnyH_take (i := 3) (v := ?_) rfl (by kernel_rfl) (by kernel_rfl) (by kernel_rfl) (fun _ _ _ h => h) (Or.inl ⟨by kernel_rfl, ?_⟩) hS ?_
        rotate_left
        · intro wz hSz; try dsimp only at hSz
          go_simp
          all_goals with_reducible rfl
        try simp only [Act.put, List.getElem_toArray, List.getElem_cons_succ, List.getElem_cons_zero, List.setIfInBounds_toArray, List.set_cons_zero, List.set_cons_succ]
        refine wpAnyH_take (i := 4) (v := ?_) rfl (by kernel_rfl) (by kernel_rfl) (by kernel_rfl) (fun _ _ _ h => h) (Or.inl ⟨by kernel_rfl, ?_⟩) hS ?_
        rotate_left
        · intro wz hSz; try dsimp only at hSz
          simp only [List.getElem_toArray, List.getElem_cons_succ, List.getElem_cons_zero]
          refine lask_ _ _ _ hSz.2.1 rfl ?_
          rfl
        try simp only [Act.put, List.getElem_toArray, List.getElem_cons_succ, List.getElem_cons_zero, List.setIfInBounds_toArray, List.set_cons_zero, List.set_cons_succ]
        refine wpAnyH_take (i := 6) (v := ?_) rfl (by kernel_rfl) (by kernel_rfl) (by kernel_rfl) (fun _ _ _ h => h) (Or.inl ⟨by kernel_rfl, ?_⟩) hS ?_
        rotate_left
        · intro wz hSz; try dsimp only at hSz
          go_simp
          all_goals with_reducible rfl
        try simp only [Act.put, List.getElem_toArray, List.getElem_cons_succ, List.getElem_cons_zero, List.setIfInBounds_toArray, List.set_cons_zero, List.set_cons_succ]
        refine wpAnyH_take (i := 7) (v := ?_) rfl (by kernel_rfl) (by kernel_rfl) (by kernel_rfl) (fun _ _ _ h => h) (Or.inl ⟨by kernel_rfl, ?_⟩) hS ?_
        rotate_left
        · intro wz hSz; try dsimp only at hSz
          go_simp
          all_goals with_reducible rfl
        try simp only [Act.put, List.getElem_toArray, List.getElem_cons_succ, List.getElem_cons_zero, List.setIfInBounds_toArray, List.set_cons_zero, List.set_cons_succ]
        refine wpAnyH_ready (rs := [5]) (by kernel_rfl) (by simp) (AllReadyH.cons rfl (fun K hK => ?_) AllReadyH.nil)
        go_simp
        (go_at_call 20; refine (body_s _ r _ s HT.out HF.out H.out ((HAR.out.step (fun i hi => hS.2.2.block i (Nat.lt_of_lt_of_le hi.2 LG.out)) (fun i hi => Nat.lt_of_lt_of_le (Nat.lt_of_lt_of_le hi.2 LG.out) hS.2.2.size)))).mono ?_; rintro e wq ⟨rfl, hb⟩)
        refine hK.out _ _ ?_ (fun hSn => ?_)
        · exact ⟨((bcell hb).1 _ _ (Nat.lt_of_lt_of_le lm hS.2.2.size)).trans hS.1, hS.2.1.below hb hS.2.1.lt, grow_ hS.2.2 hb⟩
        clear hK K hS
        have hS := hSn
        clear hSn
        try dsimp only at hS
        try simp only [Act.put, List.getElem_toArray, List.getElem_cons_succ, List.getElem_cons_zero, List.setIfInBounds_toArray, List.set_cons_zero, List.set_cons_succ]
        refine wpAnyH_take (i := 8) (v := ?_) rfl (by kernel_rfl) (by kernel_rfl) (by kernel_rfl) (fun _ _ _ h => h) (Or.inl ⟨by kernel_rfl, ?_⟩) hS ?_
        rotate_left
        · intro wz hSz; try dsimp only at hSz
          go_simp
          all_goals with_reducible rfl
        try simp only [Act.put, List.getElem_toArray, List.getElem_cons_succ, List.getElem_cons_zero, List.setIfInBounds_toArray, List.set_cons_zero, List.set_cons_succ]
        refine wpAnyH_take (i := 9) (v := ?_) rfl (by kernel_rfl) (by kernel_rfl) (by kernel_rfl) (fun _ _ _ h => h) (Or.inl ⟨by kernel_rfl, ?_⟩) hS ?_
        rotate_left
        · intro wz hSz; try dsimp only at hSz
          go_simp
          all_goals with_reducible rfl
        try simp only [Act.put, List.getElem_toArray, List.getElem_cons_succ, List.getElem_cons_zero, List.setIfInBounds_toArray, List.set_cons_zero, List.set_cons_succ]
        refine wpAnyH_done (by kernel_rfl) ?_ _
        have BZ := Lib.hid (BZ2.out.below hS.2.2 BZ2.out.lt)
        have hB3 := grow_ HB2.out hS.2.2
        have Q4 := Lib.hid hS.2.1
        go_wp2_with (first
          | ((with_reducible refine load_blk (op := ⟨some 33, .load 29 (.tmp 4), _, _, _, _⟩) 4 _ _ ?_ ?_ rfl ?_ Q4.out ?_); (· rfl); (· rfl); (· rfl))
          | ((with_reducible refine store_blk (op := ⟨none, .store 29 (.tmp 2) (.tmp 33), _, _, _, _⟩) 2 33 _ _ _ ?_ ?_ (AR.one HAR.out) rfl rfl ?_ ?_ BZ.out ?_); (· rfl); (· rfl); (· rfl); (· rfl); (intro W4 hq hk)))
        refine bodyPost_ret (v := .tuple #[.agg (askV r kv vv av nv fv), .int .i64 0]) (dout (by rfl) _ _ _ _ _ (by rfl) (by rfl) hq rfl) rfl ?_
        have a3 := HAR.out.step (P' := fun i => W.heap.size ≤ i ∧ i < w1.heap.size) (fun i hi => hS.2.2.block i (Nat.lt_of_lt_of_le hi.2 LG.out)) (fun _ h => h)
        rw [DE.out]
        exact ⟨_, rfl, a3.step (fun i hi => hk.block i (Nat.lt_of_lt_of_le (Nat.lt_of_lt_of_le hi.2 LG.out) hS.2.2.size) (by have := LZ.out; simp; omega)) (fun i hi => Nat.lt_of_lt_of_le (Nat.lt_of_lt_of_le (Nat.lt_of_lt_of_le hi.2 LG.out) hS.2.2.size) hk.size), hB3.trans (hk.below (fun i hi => by rw [List.mem_singleton.1 hi]; omega) hB3.size)⟩
      · have hne : Hid (¬ (ba (body r)).toList = s.toList) := Lib.hid (fun e => hbo (by rw [Lib.toList_data, Lib.toList_data, ba_list] at e; exact e))
        have e := rdec_no HR.out hks.out (fun h => hbo h.2)
        have DE := Lib.hid e
        clear e hbo
        refine wp_region_held_drew (S := (fun w' => w'.cell? ⟨w.heap.size, 1, none⟩ = some (.string s) ∧ Blk w' w1.heap.size 29 (askV r kv vv av nv fv) ∧ Below W2.heap.size W2 w')) (by kernel_rfl) ?_ (fun hS => ?_)
        · exact ⟨x1, q4.drew_, bel_drew _⟩
        try dsimp only at hS
        refine wpAnyH_take (i := 0) (v := ?_) rfl (by kernel_rfl) (by kernel_rfl) (by kernel_rfl) (fun _ _ _ h => h) (Or.inl ⟨by kernel_rfl, ?_⟩) hS ?_
        rotate_left
        · intro wz hSz; try dsimp only at hSz
          simp only [List.getElem_toArray, List.getElem_cons_succ, List.getElem_cons_zero]
          refine lask_ _ _ _ hSz.2.1 rfl ?_
          rfl
        try simp only [Act.put, List.getElem_toArray, List.getElem_cons_succ, List.getElem_cons_zero, List.setIfInBounds_toArray, List.set_cons_zero, List.set_cons_succ]
        refine wpAnyH_ready (rs := [1]) (by kernel_rfl) (by simp) (AllReadyH.cons rfl (fun K hK => ?_) AllReadyH.nil)
        go_simp
        (go_at_call 16; refine (rr_yes _ r _ HF.out ((HAR.out.step (fun i hi => hS.2.2.block i (Nat.lt_of_lt_of_le hi.2 LG.out)) (fun i hi => Nat.lt_of_lt_of_le (Nat.lt_of_lt_of_le hi.2 LG.out) hS.2.2.size))) H.out).mono ?_; rintro e wq ⟨rfl, hb⟩)
        refine hK.out _ _ ?_ (fun hSn => ?_)
        · exact ⟨((bcell hb).1 _ _ (Nat.lt_of_lt_of_le lm hS.2.2.size)).trans hS.1, hS.2.1.below hb hS.2.1.lt, grow_ hS.2.2 hb⟩
        clear hK K hS
        have hS := hSn
        clear hSn
        try dsimp only at hS
        try simp only [Act.put, List.getElem_toArray, List.getElem_cons_succ, List.getElem_cons_zero, List.setIfInBounds_toArray, List.set_cons_zero, List.set_cons_succ]
        refine wpAnyH_take (i := 2) (v := ?_) rfl (by kernel_rfl) (by kernel_rfl) (by kernel_rfl) (fun _ _ _ h => h) (Or.inl ⟨by kernel_rfl, ?_⟩) hS ?_
        rotate_left
        · intro wz hSz; try dsimp only at hSz
          go_simp
          all_goals with_reducible rfl
        try simp only [Act.put, List.getElem_toArray, List.getElem_cons_succ, List.getElem_cons_zero, List.setIfInBounds_toArray, List.set_cons_zero, List.set_cons_succ]
        refine wpAnyH_take (i := 3) (v := ?_) rfl (by kernel_rfl) (by kernel_rfl) (by kernel_rfl) (fun _ _ _ h => h) (Or.inl ⟨by kernel_rfl, ?_⟩) hS ?_
        rotate_left
        · intro wz hSz; try dsimp only at hSz
          go_simp
          all_goals with_reducible rfl
        try simp only [Act.put, List.getElem_toArray, List.getElem_cons_succ, List.getElem_cons_zero, List.setIfInBounds_toArray, List.set_cons_zero, List.set_cons_succ]
        refine wpAnyH_take (i := 4) (v := ?_) rfl (by kernel_rfl) (by kernel_rfl) (by kernel_rfl) (fun _ _ _ h => h) (Or.inl ⟨by kernel_rfl, ?_⟩) hS ?_
        rotate_left
        · intro wz hSz; try dsimp only at hSz
          simp only [List.getElem_toArray, List.getElem_cons_succ, List.getElem_cons_zero]
          refine lask_ _ _ _ hSz.2.1 rfl ?_
          rfl
        try simp only [Act.put, List.getElem_toArray, List.getElem_cons_succ, List.getElem_cons_zero, List.setIfInBounds_toArray, List.set_cons_zero, List.set_cons_succ]
        refine wpAnyH_take (i := 6) (v := ?_) rfl (by kernel_rfl) (by kernel_rfl) (by kernel_rfl) (fun _ _ _ h => h) (Or.inl ⟨by kernel_rfl, ?_⟩) hS ?_
        rotate_left
        · intro wz hSz; try dsimp only at hSz
          go_simp
          all_goals with_reducible rfl
        try simp only [Act.put, List.getElem_toArray, List.getElem_cons_succ, List.getElem_cons_zero, List.setIfInBounds_toArray, List.set_cons_zero, List.set_cons_succ]
        refine wpAnyH_take (i := 7) (v := ?_) rfl (by kernel_rfl) (by kernel_rfl) (by kernel_rfl) (fun _ _ _ h => h) (Or.inl ⟨by kernel_rfl, ?_⟩) hS ?_
        rotate_left
        · intro wz hSz; try dsimp only at hSz
          go_simp
          all_goals with_reducible rfl
        try simp only [Act.put, List.getElem_toArray, List.getElem_cons_succ, List.getElem_cons_zero, List.setIfInBounds_toArray, List.set_cons_zero, List.set_cons_succ]
        refine wpAnyH_ready (rs := [5]) (by kernel_rfl) (by simp) (AllReadyH.cons rfl (fun K hK => ?_) AllReadyH.nil)
        go_simp
        (go_at_call 20; refine (body_s _ r _ (ba (body r)) rfl HF.out H.out ((HAR.out.step (fun i hi => hS.2.2.block i (Nat.lt_of_lt_of_le hi.2 LG.out)) (fun i hi => Nat.lt_of_lt_of_le (Nat.lt_of_lt_of_le hi.2 LG.out) hS.2.2.size)))).mono ?_; rintro e wq ⟨rfl, hb⟩)
        refine hK.out _ _ ?_ (fun hSn => ?_)
        · exact ⟨((bcell hb).1 _ _ (Nat.lt_of_lt_of_le lm hS.2.2.size)).trans hS.1, hS.2.1.below hb hS.2.1.lt, grow_ hS.2.2 hb⟩
        clear hK K hS
        have hS := hSn
        clear hSn
        try dsimp only at hS
        try simp only [Act.put, List.getElem_toArray, List.getElem_cons_succ, List.getElem_cons_zero, List.setIfInBounds_toArray, List.set_cons_zero, List.set_cons_succ]
        refine wpAnyH_take (i := 8) (v := ?_) rfl (by kernel_rfl) (by kernel_rfl) (by kernel_rfl) (fun _ _ _ h => h) (Or.inl ⟨by kernel_rfl, ?_⟩) hS ?_
        rotate_left
        · intro wz hSz; try dsimp only at hSz
          go_simp
          exact congrArg Value.bool (bne_no hne.out)
        try simp only [Act.put, List.getElem_toArray, List.getElem_cons_succ, List.getElem_cons_zero, List.setIfInBounds_toArray, List.set_cons_zero, List.set_cons_succ]
        refine wpAnyH_take (i := 9) (v := ?_) rfl (by kernel_rfl) (by kernel_rfl) (by kernel_rfl) (fun _ _ _ h => h) (Or.inl ⟨by kernel_rfl, ?_⟩) hS ?_
        rotate_left
        · intro wz hSz; try dsimp only at hSz
          go_simp
          all_goals with_reducible rfl
        try simp only [Act.put, List.getElem_toArray, List.getElem_cons_succ, List.getElem_cons_zero, List.setIfInBounds_toArray, List.set_cons_zero, List.set_cons_succ]
        refine wpAnyH_done (by kernel_rfl) ?_ _
        have BZ := Lib.hid (BZ2.out.below hS.2.2 BZ2.out.lt)
        have hB3 := grow_ HB2.out hS.2.2
        go_wp2_with ((with_reducible refine store_blk (op := ⟨none, .store 29 (.tmp 2) (.tmp 32), _, _, _, _⟩) 2 32 _ (askV {} nl nl nl nl nl) _ ?_ ?_ (askOne _ _ _ _ _ _ rfl rfl rfl rfl rfl) rfl rfl ?_ ?_ BZ.out ?_); (· rfl); (· rfl); (· rfl); (· rfl); (intro W4 hq hk))
        refine bodyPost_ret (v := .tuple #[.agg (askV {} nl nl nl nl nl), .int .i64 4]) (dout (by rfl) _ _ _ _ _ (by rfl) (by rfl) hq rfl) rfl ?_
        rw [DE.out]
        exact ⟨_, rfl, ar_flat' _ _ _ rfl rfl rfl rfl rfl, hB3.trans (hk.below (fun i hi => by rw [List.mem_singleton.1 hi]; omega) hB3.size)⟩
    · have H := Lib.hid h
      have e := rdec_no HR.out hks.out (fun q => h q.1)
      have DE := Lib.hid e
      clear e h
      refine wp_region_held_drew (S := (fun w' => w'.cell? ⟨w.heap.size, 1, none⟩ = some (.string s) ∧ Blk w' w1.heap.size 29 (askV r kv vv av nv fv) ∧ Below W2.heap.size W2 w')) (by kernel_rfl) ?_ (fun hS => ?_)
      · exact ⟨x1, q4.drew_, bel_drew _⟩
      try dsimp only at hS
      refine wpAnyH_take (i := 0) (v := ?_) rfl (by kernel_rfl) (by kernel_rfl) (by kernel_rfl) (fun _ _ _ h => h) (Or.inl ⟨by kernel_rfl, ?_⟩) hS ?_
      rotate_left
      · intro wz hSz; try dsimp only at hSz
        simp only [List.getElem_toArray, List.getElem_cons_succ, List.getElem_cons_zero]
        refine lask_ _ _ _ hSz.2.1 rfl ?_
        rfl
      try simp only [Act.put, List.getElem_toArray, List.getElem_cons_succ, List.getElem_cons_zero, List.setIfInBounds_toArray, List.set_cons_zero, List.set_cons_succ]
      refine wpAnyH_ready (rs := [1]) (by kernel_rfl) (by simp) (AllReadyH.cons rfl (fun K hK => ?_) AllReadyH.nil)
      go_simp
      (go_at_call 16; refine (rr_not _ r _ HF.out ((HAR.out.step (fun i hi => hS.2.2.block i (Nat.lt_of_lt_of_le hi.2 LG.out)) (fun i hi => Nat.lt_of_lt_of_le (Nat.lt_of_lt_of_le hi.2 LG.out) hS.2.2.size))) H.out).mono ?_; rintro e wq ⟨rfl, hb⟩)
      refine hK.out _ _ ?_ (fun hSn => ?_)
      · exact ⟨((bcell hb).1 _ _ (Nat.lt_of_lt_of_le lm hS.2.2.size)).trans hS.1, hS.2.1.below hb hS.2.1.lt, grow_ hS.2.2 hb⟩
      clear hK K hS
      have hS := hSn
      clear hSn
      try dsimp only at hS
      try simp only [Act.put, List.getElem_toArray, List.getElem_cons_succ, List.getElem_cons_zero, List.setIfInBounds_toArray, List.set_cons_zero, List.set_cons_succ]
      refine wpAnyH_take (i := 2) (v := ?_) rfl (by kernel_rfl) (by kernel_rfl) (by kernel_rfl) (fun _ _ _ h => h) (Or.inl ⟨by kernel_rfl, ?_⟩) hS ?_
      rotate_left
      · intro wz hSz; try dsimp only at hSz
        go_simp
        all_goals with_reducible rfl
      try simp only [Act.put, List.getElem_toArray, List.getElem_cons_succ, List.getElem_cons_zero, List.setIfInBounds_toArray, List.set_cons_zero, List.set_cons_succ]
      refine wpAnyH_take (i := 3) (v := ?_) rfl (by kernel_rfl) (by kernel_rfl) (by kernel_rfl) (fun _ _ _ h => h) (Or.inl ⟨by kernel_rfl, ?_⟩) hS ?_
      rotate_left
      · intro wz hSz; try dsimp only at hSz
        go_simp
        all_goals with_reducible rfl
      try simp only [Act.put, List.getElem_toArray, List.getElem_cons_succ, List.getElem_cons_zero, List.setIfInBounds_toArray, List.set_cons_zero, List.set_cons_succ]
      refine wpAnyH_take (i := 4) (v := undef) rfl (by kernel_rfl) (by kernel_rfl) (by kernel_rfl) (fun _ _ _ h => h) (Or.inr ⟨by kernel_rfl, rfl⟩) hS ?_
      try simp only [Act.put, List.getElem_toArray, List.getElem_cons_succ, List.getElem_cons_zero, List.setIfInBounds_toArray, List.set_cons_zero, List.set_cons_succ]
      refine wpAnyH_take (i := 5) (v := undef) rfl (by kernel_rfl) (by kernel_rfl) (by kernel_rfl) (fun _ _ _ h => h) (Or.inr ⟨by kernel_rfl, rfl⟩) hS ?_
      try simp only [Act.put, List.getElem_toArray, List.getElem_cons_succ, List.getElem_cons_zero, List.setIfInBounds_toArray, List.set_cons_zero, List.set_cons_succ]
      refine wpAnyH_take (i := 6) (v := undef) rfl (by kernel_rfl) (by kernel_rfl) (by kernel_rfl) (fun _ _ _ h => h) (Or.inr ⟨by kernel_rfl, rfl⟩) hS ?_
      try simp only [Act.put, List.getElem_toArray, List.getElem_cons_succ, List.getElem_cons_zero, List.setIfInBounds_toArray, List.set_cons_zero, List.set_cons_succ]
      refine wpAnyH_take (i := 7) (v := undef) rfl (by kernel_rfl) (by kernel_rfl) (by kernel_rfl) (fun _ _ _ h => h) (Or.inr ⟨by kernel_rfl, rfl⟩) hS ?_
      try simp only [Act.put, List.getElem_toArray, List.getElem_cons_succ, List.getElem_cons_zero, List.setIfInBounds_toArray, List.set_cons_zero, List.set_cons_succ]
      refine wpAnyH_take (i := 8) (v := undef) rfl (by kernel_rfl) (by kernel_rfl) (by kernel_rfl) (fun _ _ _ h => h) (Or.inr ⟨by kernel_rfl, rfl⟩) hS ?_
      try simp only [Act.put, List.getElem_toArray, List.getElem_cons_succ, List.getElem_cons_zero, List.setIfInBounds_toArray, List.set_cons_zero, List.set_cons_succ]
      refine wpAnyH_take (i := 9) (v := ?_) rfl (by kernel_rfl) (by kernel_rfl) (by kernel_rfl) (fun _ _ _ h => h) (Or.inl ⟨by kernel_rfl, ?_⟩) hS ?_
      rotate_left
      · intro wz hSz; try dsimp only at hSz
        go_simp
        all_goals with_reducible rfl
      try simp only [Act.put, List.getElem_toArray, List.getElem_cons_succ, List.getElem_cons_zero, List.setIfInBounds_toArray, List.set_cons_zero, List.set_cons_succ]
      refine wpAnyH_done (by kernel_rfl) ?_ _
      have BZ := Lib.hid (BZ2.out.below hS.2.2 BZ2.out.lt)
      have hB3 := grow_ HB2.out hS.2.2
      go_wp2_with ((with_reducible refine store_blk (op := ⟨none, .store 29 (.tmp 2) (.tmp 32), _, _, _, _⟩) 2 32 _ (askV {} nl nl nl nl nl) _ ?_ ?_ (askOne _ _ _ _ _ _ rfl rfl rfl rfl rfl) rfl rfl ?_ ?_ BZ.out ?_); (· rfl); (· rfl); (· rfl); (· rfl); (intro W4 hq hk))
      refine bodyPost_ret (v := .tuple #[.agg (askV {} nl nl nl nl nl), .int .i64 4]) (dout (by rfl) _ _ _ _ _ (by rfl) (by rfl) hq rfl) rfl ?_
      rw [DE.out]
      exact ⟨_, rfl, ar_flat' _ _ _ rfl rfl rfl rfl rfl, hB3.trans (hk.below (fun i hi => by rw [List.mem_singleton.1 hi]; omega) hB3.size)⟩
end Go.Proofs.Ytojgeilihoilnaa
