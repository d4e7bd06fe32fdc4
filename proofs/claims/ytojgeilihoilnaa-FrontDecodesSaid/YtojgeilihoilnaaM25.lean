/- What the document's own binding reads of a body. Condition: the body is of at most 6,000 bytes. -/
import Derived.Test.YtojgeilihoilnaaM24
set_option linter.unusedSimpArgs false
set_option linter.unusedVariables false
namespace Go.Proofs.Ytojgeilihoilnaa
open Go.ChangeShapes Go.WideShapes Go.ChangeAt Go.RowKit
set_option linter.unusedVariables false
set_option linter.unusedSimpArgs false
attribute [local go_sem ↓] Go.wp_at_zero Go.wp_at_succ

theorem gText_pos (s : ByteArray) (p : Int) : 0 ≤ (gText s p).2.1 ∧ (gText s p).2.1 ≤ s.size := by
  cases hi : insB s.size p
  · have e : gText s p = (⟨#[]⟩, 0, 1) := by unfold gText; rw [if_pos hi]
    rw [e]; exact ⟨by simp, by simp⟩
  · have h := hi
    unfold insB at h
    have h2 := of_decide_eq_true h
    obtain ⟨q, rfl⟩ := Int.eq_ofNat_of_zero_le h2.1
    obtain ⟨er, q2, e1, e2⟩ := gText_list s q (by omega) false
    by_cases he : er = 0
    · rw [if_pos he] at e2
      rw [e1]; simp only; exact ⟨by omega, by omega⟩
    · have e3 : (gText s q).2.1 = 0 := by
        unfold gText at e1 ⊢
        rw [if_neg (by rw [hi]; decide)] at e1 ⊢
        split
        · rfl
        · rename_i h4
          rw [if_neg h4] at e1
          injection e1 with _ e1
          injection e1 with _ e1
          exact absurd e1.symm he
      rw [e3]; exact ⟨by omega, by omega⟩
abbrev askN (P N : Tx) (az : List Tx) (ns : List Bool) (fs : List Int) : Ask := { kind := 66, portal := P, name := N, args := az, null := ns, formats := fs }

set_option maxHeartbeats 4000000 in
set_option maxRecDepth 100000 in
theorem binding_walk (s : ByteArray) (hs : s.size ≤ 6000) (w : World) (P N : Tx) (p1 e1 p2 e2 n iv e3 : Int) (h1 : Hid (gText s 0 = (ba P, p1, e1))) (h2 : Hid (gText s p1 = (ba N, p2, e2))) (h3 : Hid (g16 s (p2 + 2) = (n, iv, e3))) (hp0 : 0 ≤ p2) (hp1 : p2 ≤ 6000)
    (HP : Hid (P.length ≤ s.size ∧ N.length ≤ s.size)) (hf : Hid (AW s P N n [] [] iv)) :
    Calls Try.prog 44 #[.string s] w (RdP (Reads 66 s) w) := by
  obtain ⟨iS, hiS, hzS0, hzS1, hzS2⟩ := info_parts infoS
  obtain ⟨iB, hiB, hzB0, hzB1, hzB2⟩ := info_parts infoB
  obtain ⟨iI, hiI, hzI0, hzI1, hzI2⟩ := info_parts infoI
  obtain ⟨bz, bi, hB⟩ := two_made w { kind := 66 } rfl rfl rfl rfl rfl
  go_enter Try.func44, Try.ntmps44
  go_wp2_with fail
  change Calls _ _ _ ((w.alloc (.cells (askV {} nl nl nl nl nl) 29)).alloc (.cells (askV { kind := 66 } nl nl nl nl nl) 29)) _
  generalize (w.alloc (.cells (askV {} nl nl nl nl nl) 29)).alloc (.cells (askV { kind := 66 } nl nl nl nl nl) 29) = W at *
  have LZ := Lib.hid bz.lt
  have BZ0 := Lib.hid bz
  have HB0 := Lib.hid hB
  clear bz hB
  refine (cText s hs _ _ _ _ h1.out _).mono ?_; rintro e w1 ⟨rfl, hw1⟩; obtain rfl := hw1.symm
  go_wp2_with fail
  refine (cText s hs _ _ _ _ h2.out _).mono ?_; rintro e w1 ⟨rfl, hw1⟩; obtain rfl := hw1.symm
  have c2 : W.cell? ⟨w.heap.size + 1, 2, none⟩ = some (.string ⟨#[]⟩) := bi.cell 2
  have f2 := bi.frozen 2
  have c1 : W.cell? ⟨w.heap.size + 1, 1, none⟩ = some (.string ⟨#[]⟩) := bi.cell 1
  have f1 := bi.frozen 1
  have bi2 := (bi.fld 2 (.string (ba P)) { kind := 66, portal := P } rfl rfl).fld 1 (.string (ba N)) (askN P N [] [] []) rfl rfl
  have BI2 := Lib.hid bi2
  clear bi bi2
  go_upto_region 6 with fail
  generalize (W.setCell ⟨w.heap.size + 1, 2, none⟩ (.string (ba P))).setCell ⟨w.heap.size + 1, 1, none⟩ (.string (ba N)) = w2 at *
  clear c1 c2 f1 f2
  go_wp2_with fail
  refine (c16 s hs _ _ _ _ h3.out _).mono ?_; rintro e w3 ⟨rfl, hb3⟩
  have bi3 := BI2.out.below hb3
  clear hb3 BI2
  go_wp2
  go_loopw [11, 13] (fun i k wr => ∃ az ns av nv q, i = .int .i64 q ∧ k = .int .i64 ((az.length : Nat) : Int) ∧ BI (w.heap.size + 1) W (askN P N az ns []) nl nl av nv nl wr ∧ AW s P N n az ns q) (fun _ k _ => 102 - (intOf k).toNat)
  case atStart => exact ⟨[], [], nl, nl, iv, rfl, rfl, bi3, hf.out⟩
  case round =>
    obtain ⟨az, ns, av, nv, q, rfl, rfl, hbi, haw⟩ := hrel
    clear bi3 hf
    have BIX := Lib.hid hbi
    have AWX := Lib.hid haw
    have hlen : az.length ≤ 101 := haw.2.1
    have HLN : Hid (ns.length = az.length) := Lib.hid haw.1.symm
    clear hbi haw
    by_cases hkn : (az.length : Int) < n
    · by_cases hl : az.length ≤ 100
      · have dkn : decide ((az.length : Int) < n) = true := decide_eq_true hkn
        have dl : decide ((az.length : Int) ≤ 100) = true := decide_eq_true (by omega)
        have HKN := Lib.hid hkn
        have HL := Lib.hid hl
        obtain ⟨z, q2, ez, g1⟩ := trip3 (g32 s q)
        have G1 := Lib.hid g1
        clear g1 hkn
        go_wp2_with fail
        refine (c32 s hs _ _ _ _ G1.out _).mono ?_; rintro e w4 ⟨rfl, hb4⟩
        have bi4 := BIX.out.below hb4
        clear BIX hb4
        have BIX := Lib.hid bi4
        clear bi4
        by_cases he : ez = 0
        · subst he
          have q7 : w4.cell? ⟨w.heap.size + 1, 7, none⟩ = some nv := BIX.out.cell 7
          have hn7 : (bools ns).length ≤ 1099511627776 := by rw [bools_len, HLN.out]; omega
          by_cases hz : z < 0
          · have dz : decide (z < (0 : Int)) = true := decide_eq_true (by omega)
            have HZ : Hid (decide (z < 0) = true) := Lib.hid dz
            have hze : Hid ((if z < 0 then 0 else z) = (0 : Int)) := Lib.hid (by split <;> omega)
            obtain ⟨bt, q3, e4, g2⟩ := tripT (gBytes s q2 ((0 : Int)))
            have G2 := Lib.hid g2
            clear g2 hz
            go_upto_region 17 with (at_builtin; refine BIX.out.law rfl _ _ _ rfl 3 nv 4 (bools ns) rfl iB _ 1 Try.underlying26 hiB hzB0 hzB1 hzB2 rfl (by decide) (.bool true) rfl (by omega) 7 rfl (by rfl) (by rfl) ?_; intro g cap w5 f4 c4 hst; have HS := Lib.hid hst; clear hst)
            have h5 := HS.out (askN P N az (ns ++ [true]) []) nl nl av (.slice (some ⟨g, 0, none⟩) ((bools ns).length + 1) cap) nl rfl (by rw [bools_snoc]; rfl)
            clear HS f4 c4 q7
            obtain ⟨nv2, hnv2⟩ : ∃ v, v = Value.slice (some ⟨g, 0, none⟩) ((bools ns).length + 1) cap := ⟨_, rfl⟩
            rw [← hnv2] at h5 ⊢
            clear hnv2
            generalize w5.setCell ⟨w.heap.size + 1, 7, none⟩ nv2 = w6 at *
            have H5 := Lib.hid h5
            have q6 : w6.cell? ⟨w.heap.size + 1, 6, none⟩ = some av := h5.cell 6
            clear h5 BIX
            have hn6 : (strs az).length ≤ 1099511627776 := by rw [strs_len]; omega
            go_wp2_with fail
            refine (cBytes s hs _ _ _ _ _ G2.out _).mono ?_; rintro e w7 ⟨rfl, rfl⟩
            go_upto_region 19 with (at_builtin; refine H5.out.law rfl _ _ _ rfl 2 av 9 (strs az) rfl iS _ 16 Try.underlying25 hiS hzS0 hzS1 hzS2 rfl (by decide) (.string (ba bt)) rfl (by omega) 6 rfl (by rfl) (by rfl) ?_; intro g5 cap5 w8 f5 c5 hst5; have HS5 := Lib.hid hst5; clear hst5)
            have h8 := HS5.out (askN P N (az ++ [bt]) (ns ++ [true]) []) nl nl (.slice (some ⟨g5, 0, none⟩) ((strs az).length + 1) cap5) nv2 nl rfl (by rw [strs_snoc]; rfl)
            clear HS5 f5 c5 q6
            generalize w8.setCell ⟨w.heap.size + 1, 6, none⟩ (.slice (some ⟨g5, 0, none⟩) ((strs az).length + 1) cap5) = w9 at *
            have H8 := Lib.hid h8
            clear h8
            go_wp2
            go_roundw
            case rel =>
              have G3 : gBytes s q2 (if z < 0 then 0 else z) = (ba bt, q3, e4) := by rw [hze.out]; exact G2.out
              have hf := aw_step AWX.out HL.out HKN.out G1.out G3
              rw [ba_list, HZ.out] at hf
              exact ⟨az ++ [bt], ns ++ [true], _, _, _, rfl, by rw [List.length_append]; go_num, H8.out, hf⟩
            case measure => have := HL.out; simp [intOf]; omega
          · have dz : decide (z < (0 : Int)) = false := decide_eq_false (by omega)
            have HZ : Hid (decide (z < 0) = false) := Lib.hid dz
            have hze : Hid ((if z < 0 then 0 else z) = z) := Lib.hid (by split <;> omega)
            obtain ⟨bt, q3, e4, g2⟩ := tripT (gBytes s q2 (z))
            have G2 := Lib.hid g2
            clear g2 hz
            go_upto_region 17 with (at_builtin; refine BIX.out.law rfl _ _ _ rfl 3 nv 4 (bools ns) rfl iB _ 1 Try.underlying26 hiB hzB0 hzB1 hzB2 rfl (by decide) (.bool false) rfl (by omega) 7 rfl (by rfl) (by rfl) ?_; intro g cap w5 f4 c4 hst; have HS := Lib.hid hst; clear hst)
            have h5 := HS.out (askN P N az (ns ++ [false]) []) nl nl av (.slice (some ⟨g, 0, none⟩) ((bools ns).length + 1) cap) nl rfl (by rw [bools_snoc]; rfl)
            clear HS f4 c4 q7
            obtain ⟨nv2, hnv2⟩ : ∃ v, v = Value.slice (some ⟨g, 0, none⟩) ((bools ns).length + 1) cap := ⟨_, rfl⟩
            rw [← hnv2] at h5 ⊢
            clear hnv2
            generalize w5.setCell ⟨w.heap.size + 1, 7, none⟩ nv2 = w6 at *
            have H5 := Lib.hid h5
            have q6 : w6.cell? ⟨w.heap.size + 1, 6, none⟩ = some av := h5.cell 6
            clear h5 BIX
            have hn6 : (strs az).length ≤ 1099511627776 := by rw [strs_len]; omega
            go_wp2_with fail
            refine (cBytes s hs _ _ _ _ _ G2.out _).mono ?_; rintro e w7 ⟨rfl, rfl⟩
            go_upto_region 19 with (at_builtin; refine H5.out.law rfl _ _ _ rfl 2 av 9 (strs az) rfl iS _ 16 Try.underlying25 hiS hzS0 hzS1 hzS2 rfl (by decide) (.string (ba bt)) rfl (by omega) 6 rfl (by rfl) (by rfl) ?_; intro g5 cap5 w8 f5 c5 hst5; have HS5 := Lib.hid hst5; clear hst5)
            have h8 := HS5.out (askN P N (az ++ [bt]) (ns ++ [false]) []) nl nl (.slice (some ⟨g5, 0, none⟩) ((strs az).length + 1) cap5) nv2 nl rfl (by rw [strs_snoc]; rfl)
            clear HS5 f5 c5 q6
            generalize w8.setCell ⟨w.heap.size + 1, 6, none⟩ (.slice (some ⟨g5, 0, none⟩) ((strs az).length + 1) cap5) = w9 at *
            have H8 := Lib.hid h8
            clear h8
            go_wp2
            go_roundw
            case rel =>
              have G3 : gBytes s q2 (if z < 0 then 0 else z) = (ba bt, q3, e4) := by rw [hze.out]; exact G2.out
              have hf := aw_step AWX.out HL.out HKN.out G1.out G3
              rw [ba_list, HZ.out] at hf
              exact ⟨az ++ [bt], ns ++ [false], _, _, _, rfl, by rw [List.length_append]; go_num, H8.out, hf⟩
            case measure => have := HL.out; simp [intOf]; omega
        · have hez : (ez != 0) = true := by simpa using he
          have HE := Lib.hid he
          clear he
          have BZ := Lib.hid (BZ0.out.keeps BIX.out.kp (by simp))
          go_wp2_with (first
            | ((with_reducible refine load_blk (op := ⟨some 71, .load 29 (.tmp 3), _, _, _, _⟩) 3 _ _ ?_ ?_ rfl ?_ BIX.out.blk ?_); (· rfl); (· rfl); (· rfl))
            | ((with_reducible refine store_blk (op := ⟨none, .store 29 (.tmp 2) (.tmp 71), _, _, _, _⟩) 2 71 _ _ _ ?_ ?_ (AR.one BIX.out.ar) rfl rfl ?_ ?_ BZ.out ?_); (· rfl); (· rfl); (· rfl); (· rfl); (intro W4 hq hk)))
          refine bodyPost_ret (v := .agg (askV (askN P N az ns []) nl nl av nv nl)) (ret_out (by rfl) _ _ _ _ (by rfl) hq rfl) rfl ?_
          exact ⟨_, _, rfl, aw_few AWX.out hs HP.out.1 HP.out.2 (aw_stop AWX.out HKN.out (by rw [G1.out]; exact HE.out)), ar_keeps BIX.out.ar hk LZ.out HB0.out.size, (HB0.out.trans (BIX.out.kp.below (fun i hi => by rw [List.mem_singleton.1 hi]; omega) HB0.out.size)).trans (hk.below (fun i hi => by rw [List.mem_singleton.1 hi]; exact Nat.le_refl _) (HB0.out.trans (BIX.out.kp.below (fun i hi => by rw [List.mem_singleton.1 hi]; omega) HB0.out.size)).size)⟩
      · have dkn : decide ((az.length : Int) < n) = true := decide_eq_true hkn
        have dl : decide ((az.length : Int) ≤ 100) = false := decide_eq_false (by omega)
        have HX : Hid (¬ ((az.length : Int) < n ∧ (az.length : Int) ≤ 100)) := Lib.hid (fun h => by omega)
        clear hkn hl
        go_wp2_with fail
        obtain ⟨m, jv, e5, g5⟩ := trip3 (g16 s q)
        have G5 := Lib.hid g5
        clear g5
        refine (c16 s hs _ _ _ _ G5.out _).mono ?_; rintro e wa ⟨rfl, hba⟩
        have bia := BIX.out.below hba
        clear hba BIX
        have hfw := fw_start AWX.out HX.out
        rw [G5.out] at hfw
        have FW0 := Lib.hid hfw
        clear hfw AWX HX
        go_wp2
        go_loopw [21, 23] (fun i k wr => ∃ fs fv j, i = .int .i64 j ∧ k = .int .i64 ((fs.length : Nat) : Int) ∧ BI (w.heap.size + 1) W (askN P N az ns fs) nl nl av nv fv wr ∧ FW s P N az ns m fs j) (fun _ k _ => 102 - (intOf k).toNat)
        case atStart => exact ⟨[], nl, jv, rfl, rfl, bia, FW0.out⟩
        case round =>
          obtain ⟨fs, fv, j, rfl, rfl, hbi, hfw⟩ := hrel
          clear bia FW0
          have BIX := Lib.hid hbi
          have FWX := Lib.hid hfw
          have hlf : fs.length ≤ 101 := hfw.2.2.2.1
          clear hbi hfw
          by_cases hkm : (fs.length : Int) < m
          · by_cases hl2 : fs.length ≤ 100
            · have dkm : decide ((fs.length : Int) < m) = true := decide_eq_true hkm
              have dl2 : decide ((fs.length : Int) ≤ 100) = true := decide_eq_true (by omega)
              have HKM := Lib.hid hkm
              have HL2 := Lib.hid hl2
              obtain ⟨z, q2, ez, g1⟩ := trip3 (g16 s j)
              have G1 := Lib.hid g1
              clear g1 hkm
              go_wp2_with fail
              refine (c16 s hs _ _ _ _ G1.out _).mono ?_; rintro e w4 ⟨rfl, hb4⟩
              have bi4 := BIX.out.below hb4
              clear BIX hb4
              have q8 : w4.cell? ⟨w.heap.size + 1, 8, none⟩ = some fv := bi4.cell 8
              have BIX := Lib.hid bi4
              clear bi4
              have hn8 : (ints fs).length ≤ 1099511627776 := by rw [ints_len]; omega
              go_upto_region 26 with (at_builtin; refine BIX.out.law rfl _ _ _ rfl 4 fv 3 (ints fs) rfl iI _ 8 Try.underlying27 hiI hzI0 hzI1 hzI2 rfl (by decide) (.int .i64 z) rfl (by omega) 8 rfl (by rfl) (by rfl) ?_; intro g cap w5 f4 c4 hst; have HS := Lib.hid hst; clear hst)
              have h5 := HS.out (askN P N az ns (fs ++ [z])) nl nl av nv (.slice (some ⟨g, 0, none⟩) ((ints fs).length + 1) cap) rfl (by rw [ints_snoc]; rfl)
              clear HS f4 c4 q8
              generalize w5.setCell ⟨w.heap.size + 1, 8, none⟩ (.slice (some ⟨g, 0, none⟩) ((ints fs).length + 1) cap) = w6 at *
              have H5 := Lib.hid h5
              clear h5 BIX
              go_wp2
              go_roundw
              case rel => exact ⟨fs ++ [z], _, _, rfl, by rw [List.length_append]; go_num, H5.out, fw_step FWX.out HL2.out HKM.out G1.out⟩
              case measure => have := HL2.out; simp [intOf]; omega
            · have dkm : decide ((fs.length : Int) < m) = true := decide_eq_true hkm
              have dl2 : decide ((fs.length : Int) ≤ 100) = false := decide_eq_false (by omega)
              have HX : Hid (¬ ((fs.length : Int) < m ∧ (fs.length : Int) ≤ 100)) := Lib.hid (fun h => by omega)
              clear hkm hl2
              have BZ := Lib.hid (BZ0.out.keeps BIX.out.kp (by simp))
              go_wp2_with (first
                | ((with_reducible refine load_blk (op := ⟨some 129, .load 29 (.tmp 3), _, _, _, _⟩) 3 _ _ ?_ ?_ rfl ?_ BIX.out.blk ?_); (· rfl); (· rfl); (· rfl))
                | ((with_reducible refine store_blk (op := ⟨none, .store 29 (.tmp 2) (.tmp 129), _, _, _, _⟩) 2 129 _ _ _ ?_ ?_ (AR.one BIX.out.ar) rfl rfl ?_ ?_ BZ.out ?_); (· rfl); (· rfl); (· rfl); (· rfl); (intro W4 hq hk)))
              refine bodyPost_ret (v := .agg (askV (askN P N az ns fs) nl nl av nv fv)) (ret_out (by rfl) _ _ _ _ (by rfl) hq rfl) rfl ?_
              exact ⟨_, _, rfl, fw_stop FWX.out hs HP.out.1 HP.out.2 HX.out, ar_keeps BIX.out.ar hk LZ.out HB0.out.size, (HB0.out.trans (BIX.out.kp.below (fun i hi => by rw [List.mem_singleton.1 hi]; omega) HB0.out.size)).trans (hk.below (fun i hi => by rw [List.mem_singleton.1 hi]; exact Nat.le_refl _) (HB0.out.trans (BIX.out.kp.below (fun i hi => by rw [List.mem_singleton.1 hi]; omega) HB0.out.size)).size)⟩
          · have dkm : decide ((fs.length : Int) < m) = false := decide_eq_false hkm
            have HX : Hid (¬ ((fs.length : Int) < m ∧ (fs.length : Int) ≤ 100)) := Lib.hid (fun h => hkm h.1)
            clear hkm
            have BZ := Lib.hid (BZ0.out.keeps BIX.out.kp (by simp))
            go_wp2_with (first
              | ((with_reducible refine load_blk (op := ⟨some 129, .load 29 (.tmp 3), _, _, _, _⟩) 3 _ _ ?_ ?_ rfl ?_ BIX.out.blk ?_); (· rfl); (· rfl); (· rfl))
              | ((with_reducible refine store_blk (op := ⟨none, .store 29 (.tmp 2) (.tmp 129), _, _, _, _⟩) 2 129 _ _ _ ?_ ?_ (AR.one BIX.out.ar) rfl rfl ?_ ?_ BZ.out ?_); (· rfl); (· rfl); (· rfl); (· rfl); (intro W4 hq hk)))
            refine bodyPost_ret (v := .agg (askV (askN P N az ns fs) nl nl av nv fv)) (ret_out (by rfl) _ _ _ _ (by rfl) hq rfl) rfl ?_
            exact ⟨_, _, rfl, fw_stop FWX.out hs HP.out.1 HP.out.2 HX.out, ar_keeps BIX.out.ar hk LZ.out HB0.out.size, (HB0.out.trans (BIX.out.kp.below (fun i hi => by rw [List.mem_singleton.1 hi]; omega) HB0.out.size)).trans (hk.below (fun i hi => by rw [List.mem_singleton.1 hi]; exact Nat.le_refl _) (HB0.out.trans (BIX.out.kp.below (fun i hi => by rw [List.mem_singleton.1 hi]; omega) HB0.out.size)).size)⟩
    · have dkn : decide ((az.length : Int) < n) = false := decide_eq_false hkn
      have HX : Hid (¬ ((az.length : Int) < n ∧ (az.length : Int) ≤ 100)) := Lib.hid (fun h => hkn h.1)
      clear hkn
      go_wp2_with fail
      obtain ⟨m, jv, e5, g5⟩ := trip3 (g16 s q)
      have G5 := Lib.hid g5
      clear g5
      refine (c16 s hs _ _ _ _ G5.out _).mono ?_; rintro e wa ⟨rfl, hba⟩
      have bia := BIX.out.below hba
      clear hba BIX
      have hfw := fw_start AWX.out HX.out
      rw [G5.out] at hfw
      have FW0 := Lib.hid hfw
      clear hfw AWX HX
      go_wp2
      go_loopw [21, 23] (fun i k wr => ∃ fs fv j, i = .int .i64 j ∧ k = .int .i64 ((fs.length : Nat) : Int) ∧ BI (w.heap.size + 1) W (askN P N az ns fs) nl nl av nv fv wr ∧ FW s P N az ns m fs j) (fun _ k _ => 102 - (intOf k).toNat)
      case atStart => exact ⟨[], nl, jv, rfl, rfl, bia, FW0.out⟩
      case round =>
        obtain ⟨fs, fv, j, rfl, rfl, hbi, hfw⟩ := hrel
        clear bia FW0
        have BIX := Lib.hid hbi
        have FWX := Lib.hid hfw
        have hlf : fs.length ≤ 101 := hfw.2.2.2.1
        clear hbi hfw
        by_cases hkm : (fs.length : Int) < m
        · by_cases hl2 : fs.length ≤ 100
          · have dkm : decide ((fs.length : Int) < m) = true := decide_eq_true hkm
            have dl2 : decide ((fs.length : Int) ≤ 100) = true := decide_eq_true (by omega)
            have HKM := Lib.hid hkm
            have HL2 := Lib.hid hl2
            obtain ⟨z, q2, ez, g1⟩ := trip3 (g16 s j)
            have G1 := Lib.hid g1
            clear g1 hkm
            go_wp2_with fail
            refine (c16 s hs _ _ _ _ G1.out _).mono ?_; rintro e w4 ⟨rfl, hb4⟩
            have bi4 := BIX.out.below hb4
            clear BIX hb4
            have q8 : w4.cell? ⟨w.heap.size + 1, 8, none⟩ = some fv := bi4.cell 8
            have BIX := Lib.hid bi4
            clear bi4
            have hn8 : (ints fs).length ≤ 1099511627776 := by rw [ints_len]; omega
            go_upto_region 26 with (at_builtin; refine BIX.out.law rfl _ _ _ rfl 4 fv 3 (ints fs) rfl iI _ 8 Try.underlying27 hiI hzI0 hzI1 hzI2 rfl (by decide) (.int .i64 z) rfl (by omega) 8 rfl (by rfl) (by rfl) ?_; intro g cap w5 f4 c4 hst; have HS := Lib.hid hst; clear hst)
            have h5 := HS.out (askN P N az ns (fs ++ [z])) nl nl av nv (.slice (some ⟨g, 0, none⟩) ((ints fs).length + 1) cap) rfl (by rw [ints_snoc]; rfl)
            clear HS f4 c4 q8
            generalize w5.setCell ⟨w.heap.size + 1, 8, none⟩ (.slice (some ⟨g, 0, none⟩) ((ints fs).length + 1) cap) = w6 at *
            have H5 := Lib.hid h5
            clear h5 BIX
            go_wp2
            go_roundw
            case rel => exact ⟨fs ++ [z], _, _, rfl, by rw [List.length_append]; go_num, H5.out, fw_step FWX.out HL2.out HKM.out G1.out⟩
            case measure => have := HL2.out; simp [intOf]; omega
          · have dkm : decide ((fs.length : Int) < m) = true := decide_eq_true hkm
            have dl2 : decide ((fs.length : Int) ≤ 100) = false := decide_eq_false (by omega)
            have HX : Hid (¬ ((fs.length : Int) < m ∧ (fs.length : Int) ≤ 100)) := Lib.hid (fun h => by omega)
            clear hkm hl2
            have BZ := Lib.hid (BZ0.out.keeps BIX.out.kp (by simp))
            go_wp2_with (first
              | ((with_reducible refine load_blk (op := ⟨some 129, .load 29 (.tmp 3), _, _, _, _⟩) 3 _ _ ?_ ?_ rfl ?_ BIX.out.blk ?_); (· rfl); (· rfl); (· rfl))
              | ((with_reducible refine store_blk (op := ⟨none, .store 29 (.tmp 2) (.tmp 129), _, _, _, _⟩) 2 129 _ _ _ ?_ ?_ (AR.one BIX.out.ar) rfl rfl ?_ ?_ BZ.out ?_); (· rfl); (· rfl); (· rfl); (· rfl); (intro W4 hq hk)))
            refine bodyPost_ret (v := .agg (askV (askN P N az ns fs) nl nl av nv fv)) (ret_out (by rfl) _ _ _ _ (by rfl) hq rfl) rfl ?_
            exact ⟨_, _, rfl, fw_stop FWX.out hs HP.out.1 HP.out.2 HX.out, ar_keeps BIX.out.ar hk LZ.out HB0.out.size, (HB0.out.trans (BIX.out.kp.below (fun i hi => by rw [List.mem_singleton.1 hi]; omega) HB0.out.size)).trans (hk.below (fun i hi => by rw [List.mem_singleton.1 hi]; exact Nat.le_refl _) (HB0.out.trans (BIX.out.kp.below (fun i hi => by rw [List.mem_singleton.1 hi]; omega) HB0.out.size)).size)⟩
        · have dkm : decide ((fs.length : Int) < m) = false := decide_eq_false hkm
          have HX : Hid (¬ ((fs.length : Int) < m ∧ (fs.length : Int) ≤ 100)) := Lib.hid (fun h => hkm h.1)
          clear hkm
          have BZ := Lib.hid (BZ0.out.keeps BIX.out.kp (by simp))
          go_wp2_with (first
            | ((with_reducible refine load_blk (op := ⟨some 129, .load 29 (.tmp 3), _, _, _, _⟩) 3 _ _ ?_ ?_ rfl ?_ BIX.out.blk ?_); (· rfl); (· rfl); (· rfl))
            | ((with_reducible refine store_blk (op := ⟨none, .store 29 (.tmp 2) (.tmp 129), _, _, _, _⟩) 2 129 _ _ _ ?_ ?_ (AR.one BIX.out.ar) rfl rfl ?_ ?_ BZ.out ?_); (· rfl); (· rfl); (· rfl); (· rfl); (intro W4 hq hk)))
          refine bodyPost_ret (v := .agg (askV (askN P N az ns fs) nl nl av nv fv)) (ret_out (by rfl) _ _ _ _ (by rfl) hq rfl) rfl ?_
          exact ⟨_, _, rfl, fw_stop FWX.out hs HP.out.1 HP.out.2 HX.out, ar_keeps BIX.out.ar hk LZ.out HB0.out.size, (HB0.out.trans (BIX.out.kp.below (fun i hi => by rw [List.mem_singleton.1 hi]; omega) HB0.out.size)).trans (hk.below (fun i hi => by rw [List.mem_singleton.1 hi]; exact Nat.le_refl _) (HB0.out.trans (BIX.out.kp.below (fun i hi => by rw [List.mem_singleton.1 hi]; omega) HB0.out.size)).size)⟩
theorem binding_any (s : ByteArray) (hs : s.size ≤ 6000) (w : World) : Calls Try.prog 44 #[.string s] w (RdP (Reads 66 s) w) := by
  obtain ⟨P, p1, e1, h1⟩ := tripT (gText s 0)
  obtain ⟨N, p2, e2, h2⟩ := tripT (gText s p1)
  obtain ⟨n, iv, e3, h3⟩ := trip3 (g16 s (p2 + 2))
  have l1 := gText_len s 0
  have l2 := gText_len s p1
  have l3 := gText_pos s p1
  have hf := aw_start s
  rw [h1] at l1 hf
  simp only at hf
  rw [h2] at l2 l3 hf
  simp only at hf l3
  rw [h3] at hf
  rw [ba_list] at l1 l2
  rw [ba_list, ba_list] at hf
  exact binding_walk s hs w P N p1 e1 p2 e2 n iv e3 (Lib.hid h1) (Lib.hid h2) (Lib.hid h3) l3.1 (by omega) (Lib.hid ⟨l1, l2⟩) (Lib.hid hf)
end Go.Proofs.Ytojgeilihoilnaa
