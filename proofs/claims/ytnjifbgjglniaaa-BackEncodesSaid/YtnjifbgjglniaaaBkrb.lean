/- What the document's own columns and rows answer. Condition: Few; as many texts as nulls. -/
import Derived.Test.YtnjifbgjglniaaaBkj
import Derived.Test.YtnjifbgjglniaaaBkk
import Derived.Test.YtnjifbgjglniaaaBkr
import Derived.Test.YtnjifbgjglniaaaBks
namespace Go.Proofs.Ytnjifbgjglniaaa.BK
open Go.Proofs.Ytnjifbgjglniaaa
open Go.ChangeShapes Go.WideShapes Go.ChangeAt Go.RowKit
set_option linter.unusedVariables false
set_option linter.unusedSimpArgs false
set_option maxRecDepth 100000
attribute [local go_sem ↓] Go.wp_at_zero Go.wp_at_succ

theorem gro {w w1 w2 : World} (h : Below w.heap.size w w1) (k : Below w1.heap.size w1 w2) : Below w.heap.size w w2 := h.trans (k.mono h.size)
theorem putT (s t : Tx) (w : World) (hs : s.length ≤ 100000000000) (ht : t.length ≤ 10000) : Calls Try.prog 62 #[.string (ba s), .string (ba t)] w fun e w' => e = .returned (.string (ba (s ++ txt t))) ∧ w' = w := by
  have := rputText_any (ba s) (ba t) w (by rw [ba_size]; omega) (by rw [ba_size]; omega)
  rwa [putText_ba] at this
theorem put4 (s : Tx) (n : Int) (w : World) (hs : s.length ≤ 100000000000) : Calls Try.prog 61 #[.string (ba s), .int .i64 n] w fun e w' => e = .returned (.string (ba (s ++ n32 n))) ∧ Below w.heap.size w w' := by
  have := rput32_any (ba s) n (by rw [ba_size]; omega) w
  rwa [put32_ba] at this
theorem put2 (s : Tx) (n : Int) (w : World) (hs : s.length ≤ 100000000000) : Calls Try.prog 83 #[.string (ba s), .int .i64 n] w fun e w' => e = .returned (.string (ba (s ++ n16 n))) ∧ Below w.heap.size w w' := by
  have := rput16_any (ba s) n (by rw [ba_size]; omega) w
  rwa [put16_ba] at this
set_option maxHeartbeats 2000000 in
theorem rcols_any (w : World) (a : Tell) (v : Value) (f : Few a) (har : AR (fun i => i < w.heap.size) w v a) :
    Calls Try.prog 63 #[v] w fun e w' => e = .returned (.string (ba (bodyD .columns a))) ∧ Below w.heap.size w w' := by
  have e0 : (ba [] : ByteArray) = ⟨#[]⟩ := rfl
  have hc := fun w => put2 [] a.keys.length w (by simp)
  rw [e0] at hc
  have HC := Lib.hid hc
  obtain ⟨kv, vv, nv, rfl, k1, k2, k3⟩ := har.ex
  clear har
  obtain ⟨A1, c1, e1, z1, y1⟩ := k1.form
  rw [strs_len] at e1 z1
  subst e1
  obtain ⟨A2, c2, e2, z2, y2⟩ := k2.form
  rw [strs_len] at e2 z2
  subst e2
  obtain ⟨A3, c3, e3, z3, y3⟩ := k3.form
  rw [bools_len] at e3 z3
  subst e3
  rw [box_cut]
  have q0 := Blk.new w 28 #[.int .u8 (a.kind.toNat : Int), .int .u8 (a.status.toNat : Int), .string (ba a.text), .slice A1 a.keys.length c1, .slice A2 a.vals.length c2, .slice A3 a.null.length c3, .int .i64 a.n, .int .i64 a.m]
  have hB : Below w.heap.size w (w.alloc (.cells #[.int .u8 (a.kind.toNat : Int), .int .u8 (a.status.toNat : Int), .string (ba a.text), .slice A1 a.keys.length c1, .slice A2 a.vals.length c2, .slice A3 a.null.length c3, .int .i64 a.n, .int .i64 a.m] 28)) := (Below.refl _ _).alloc (Nat.le_refl _) _
  have HK := Lib.hid k1
  have HF := Lib.hid f
  have fk := f.keys
  have HRR : Hid (bodyD .columns a = [] ++ n16 (a.keys.length : Nat) ++ colsW a.keys) := Lib.hid rfl
  generalize bodyD .columns a = R at *
  clear hc k1 k2 k3 f e0
  go_enter Try.func63, Try.ntmps63
  go_upto_region 1 with fail
  change Code.wp _ _ _ _ (w.alloc (.cells #[.int .u8 (a.kind.toNat : Int), .int .u8 (a.status.toNat : Int), .string (ba a.text), .slice A1 a.keys.length c1, .slice A2 a.vals.length c2, .slice A3 a.null.length c3, .int .i64 a.n, .int .i64 a.m] 28))
  generalize (w.alloc (.cells #[.int .u8 (a.kind.toNat : Int), .int .u8 (a.status.toNat : Int), .string (ba a.text), .slice A1 a.keys.length c1, .slice A2 a.vals.length c2, .slice A3 a.null.length c3, .int .i64 a.n, .int .i64 a.m] 28)) = W at *
  have x3 : W.cell? ⟨w.heap.size, 3, none⟩ = some (.slice A1 a.keys.length c1) := q0.cell 3
  have Q0 := Lib.hid q0
  have HB := Lib.hid hB
  clear q0 hB
  go_wp2_with fail
  refine (HC.out _).mono ?_; rintro e w1 ⟨rfl, hb1⟩
  clear x3 HC
  go_wp2
  go_loopw [3, 4] (fun s i wr => ∃ k : Nat, k ≤ a.keys.length ∧ i = .int .i64 k ∧ s = .string (ba ([] ++ n16 a.keys.length ++ colsW (a.keys.take k))) ∧ Below W.heap.size W wr) (fun _ i _ => a.keys.length - (intOf i).toNat)
  case atStart => exact ⟨0, Nat.zero_le _, rfl, by simp [colsW], hb1⟩
  case round =>
    obtain ⟨k, hk, rfl, rfl, hb⟩ := hrel
    clear hb1
    have q3 : wr.cell? ⟨w.heap.size, 3, none⟩ = some (.slice A1 a.keys.length c1) := (Q0.out.below hb Q0.out.lt).cell 3
    have HBW := Lib.hid hb
    have hfew := colsW_len (a.keys.take k) (fun t ht => HF.out.keysT t (List.mem_of_mem_take ht))
    have hlen : (a.keys.take k).length ≤ 200 := by rw [List.length_take]; omega
    have hS : ([] ++ n16 a.keys.length ++ colsW (a.keys.take k)).length ≤ 2003802 := by simp [n16]; omega
    clear hfew hlen
    by_cases hlt : k < a.keys.length
    · have st : ∀ {v xs}, LR (fun i => i < w.heap.size) w v xs → LR (fun i => i < w.heap.size) wr v xs := fun h => h.step (fun b hb2 => (HBW.out.block b (Nat.lt_of_lt_of_le hb2 HB.out.size)).trans (HB.out.block b hb2)) (fun _ h => h)
      obtain ⟨p, o, rfl, hp, hg⟩ := (st HK.out).addr (ne_strs hlt)
      have x := hg k _ (strs_get a.keys k hlt)
      have i0 : (0 : Int) ≤ (k : Int) := by omega
      have i1 : (k : Int) < (a.keys.length : Int) := by omega
      have hs := colsW_step a.keys k hlt
      have t1 := HF.out.keysT a.keys[k] (List.getElem_mem _)
      generalize hS0 : [] ++ n16 a.keys.length ++ colsW (a.keys.take k) = S0 at *
      have HD := Lib.hid (fun w => putT S0 a.keys[k] w (by omega) t1)
      have l0 : (S0 ++ txt a.keys[k]).length ≤ 2103802 := by have := txt_len a.keys[k]; rw [List.length_append]; omega
      have HR : Hid (S0 ++ txt a.keys[k] ++ like = [] ++ n16 a.keys.length ++ colsW (a.keys.take (k + 1))) := Lib.hid (by rw [hs, ← hS0]; simp)
      generalize S0 ++ txt a.keys[k] = S1 at *
      have H0 := Lib.hid (fun w => put4 S1 0 w (by omega))
      have l1 : (S1 ++ n32 0).length ≤ 2103806 := by rw [List.length_append]; simp only [n32_len]; omega
      obtain ⟨S2, hS2⟩ : ∃ S, S = S1 ++ n32 0 := ⟨_, rfl⟩
      rw [← hS2] at H0 l1
      have H1 := Lib.hid (fun w => put2 S2 0 w (by omega))
      have l2 : (S2 ++ n16 0).length ≤ 2103810 := by rw [List.length_append]; simp only [n16_len]; omega
      obtain ⟨S3, hS3⟩ : ∃ S, S = S2 ++ n16 0 := ⟨_, rfl⟩
      rw [← hS3] at H1 l2
      have H2 := Lib.hid (fun w => put4 S3 25 w (by omega))
      have l3 : (S3 ++ n32 25).length ≤ 2103814 := by rw [List.length_append]; simp only [n32_len]; omega
      obtain ⟨S4, hS4⟩ : ∃ S, S = S3 ++ n32 25 := ⟨_, rfl⟩
      rw [← hS4] at H2 l3
      have H3 := Lib.hid (fun w => put2 S4 (-1) w (by omega))
      have l4 : (S4 ++ n16 (-1)).length ≤ 2103818 := by rw [List.length_append]; simp only [n16_len]; omega
      obtain ⟨S5, hS5⟩ : ∃ S, S = S4 ++ n16 (-1) := ⟨_, rfl⟩
      rw [← hS5] at H3 l4
      have H4 := Lib.hid (fun w => put4 S5 (-1) w (by omega))
      have l5 : (S5 ++ n32 (-1)).length ≤ 2103822 := by rw [List.length_append]; simp only [n32_len]; omega
      obtain ⟨S6, hS6⟩ : ∃ S, S = S5 ++ n32 (-1) := ⟨_, rfl⟩
      rw [← hS6] at H4 l5
      have H5 := Lib.hid (fun w => put2 S6 0 w (by omega))
      have l6 : (S6 ++ n16 0).length ≤ 2103826 := by rw [List.length_append]; simp only [n16_len]; omega
      obtain ⟨S7, hS7⟩ : ∃ S, S = S6 ++ n16 0 := ⟨_, rfl⟩
      rw [← hS7] at H5 l6
      have HE : Hid (S7 = S1 ++ like) := Lib.hid (by rw [hS7, hS6, hS5, hS4, hS3, hS2]; simp only [List.append_assoc]; rfl)
      clear hg hs t1 hS st hb l0 l1 l2 l3 l4 l5 l6 hS0 hS2 hS3 hS4 hS5 hS6 hS7
      generalize ba a.keys[k] = y at *
      go_wp2_with fail
      refine (HD.out _).mono ?_; rintro e w2 ⟨rfl, rfl⟩
      go_wp2_with fail
      refine (H0.out _).mono ?_; rintro e w3 ⟨rfl, h3⟩
      have g3 := gro HBW.out h3
      clear h3
      go_wp2_with fail
      refine (H1.out _).mono ?_; rintro e w4 ⟨rfl, h4⟩
      have g4 := gro g3 h4
      clear h4 g3
      go_wp2_with fail
      refine (H2.out _).mono ?_; rintro e w5 ⟨rfl, h5⟩
      have g5 := gro g4 h5
      clear h5 g4
      go_wp2_with fail
      refine (H3.out _).mono ?_; rintro e w6 ⟨rfl, h6⟩
      have g6 := gro g5 h6
      clear h6 g5
      go_wp2_with fail
      refine (H4.out _).mono ?_; rintro e w7 ⟨rfl, h7⟩
      have g7 := gro g6 h7
      clear h7 g6
      go_wp2_with fail
      refine (H5.out _).mono ?_; rintro e w8 ⟨rfl, h8⟩
      have g8 := gro g7 h8
      clear h8 g7
      go_wp2
      go_roundw
      case rel => exact ⟨k + 1, by omega, by go_num, by rw [← HR.out, HE.out], g8⟩
      case measure => simp [intOf]; omega
    · have e : k = a.keys.length := by omega
      subst e
      rw [List.take_length, ← HRR.out] at *
      go_wp2
      go_ret
      exact ⟨rfl, HB.out.trans (HBW.out.mono HB.out.size)⟩

theorem cell_lt0 {w : World} {g i : Nat} {v : Value} (h : w.cell? ⟨g, i, none⟩ = some v) : g < w.heap.size := World.block_lt_of_cell? _ _ h
set_option maxHeartbeats 2000000 in
theorem rrows_any (w : World) (a : Tell) (v : Value) (f : Few a) (har : AR (fun i => i < w.heap.size) w v a) (hl : a.null.length = a.vals.length) :
    Calls Try.prog 64 #[v] w fun e w' => e = .returned (.string (ba (bodyD .row a))) ∧ Below w.heap.size w w' := by
  have e0 : (ba [] : ByteArray) = ⟨#[]⟩ := rfl
  have hc := fun w => put2 [] a.vals.length w (by simp)
  rw [e0] at hc
  have HC := Lib.hid hc
  obtain ⟨kv, vv, nv, rfl, k1, k2, k3⟩ := har.ex
  clear har
  obtain ⟨A1, c1, e1, z1, y1⟩ := k1.form
  rw [strs_len] at e1 z1
  subst e1
  obtain ⟨A2, c2, e2, z2, y2⟩ := k2.form
  rw [strs_len] at e2 z2
  subst e2
  obtain ⟨A3, c3, e3, z3, y3⟩ := k3.form
  rw [bools_len] at e3 z3
  subst e3
  rw [box_cut]
  have q0 := Blk.new w 28 #[.int .u8 (a.kind.toNat : Int), .int .u8 (a.status.toNat : Int), .string (ba a.text), .slice A1 a.keys.length c1, .slice A2 a.vals.length c2, .slice A3 a.null.length c3, .int .i64 a.n, .int .i64 a.m]
  have hB : Below w.heap.size w (w.alloc (.cells #[.int .u8 (a.kind.toNat : Int), .int .u8 (a.status.toNat : Int), .string (ba a.text), .slice A1 a.keys.length c1, .slice A2 a.vals.length c2, .slice A3 a.null.length c3, .int .i64 a.n, .int .i64 a.m] 28)) := (Below.refl _ _).alloc (Nat.le_refl _) _
  have HV := Lib.hid k2
  have HN := Lib.hid k3
  have HF := Lib.hid f
  have fk := f.vals
  have HL := Lib.hid hl
  have HRR : Hid (bodyD .row a = [] ++ n16 (a.vals.length : Nat) ++ argsW a.vals a.null) := Lib.hid (by simp [bodyD, hl])
  generalize bodyD .row a = R at *
  clear hc k1 k2 k3 f e0 hl
  go_enter Try.func64, Try.ntmps64
  go_upto_region 1 with fail
  change Code.wp _ _ _ _ (w.alloc (.cells #[.int .u8 (a.kind.toNat : Int), .int .u8 (a.status.toNat : Int), .string (ba a.text), .slice A1 a.keys.length c1, .slice A2 a.vals.length c2, .slice A3 a.null.length c3, .int .i64 a.n, .int .i64 a.m] 28))
  generalize (w.alloc (.cells #[.int .u8 (a.kind.toNat : Int), .int .u8 (a.status.toNat : Int), .string (ba a.text), .slice A1 a.keys.length c1, .slice A2 a.vals.length c2, .slice A3 a.null.length c3, .int .i64 a.n, .int .i64 a.m] 28)) = W at *
  have x4 : W.cell? ⟨w.heap.size, 4, none⟩ = some (.slice A2 a.vals.length c2) := q0.cell 4
  have Q0 := Lib.hid q0
  have HB := Lib.hid hB
  clear q0 hB
  go_wp2_with fail
  refine (HC.out _).mono ?_; rintro e w1 ⟨rfl, hb1⟩
  clear x4 HC
  go_wp2
  go_loopw [3, 4] (fun s i wr => ∃ k : Nat, k ≤ a.vals.length ∧ i = .int .i64 k ∧ s = .string (ba ([] ++ n16 a.vals.length ++ argsW (a.vals.take k) (a.null.take k))) ∧ Below W.heap.size W wr) (fun _ i _ => a.vals.length - (intOf i).toNat)
  case atStart => exact ⟨0, Nat.zero_le _, rfl, by simp [argsW], hb1⟩
  case round =>
    obtain ⟨k, hk, rfl, rfl, hb⟩ := hrel
    clear hb1
    have q4 : wr.cell? ⟨w.heap.size, 4, none⟩ = some (.slice A2 a.vals.length c2) := (Q0.out.below hb Q0.out.lt).cell 4
    have q5 : wr.cell? ⟨w.heap.size, 5, none⟩ = some (.slice A3 a.null.length c3) := (Q0.out.below hb Q0.out.lt).cell 5
    have HBW := Lib.hid hb
    have hfew := argsW_size (a.vals.take k) (a.null.take k) (fun t ht => HF.out.valsT t (List.mem_of_mem_take ht))
    have hlen : (a.vals.take k).length ≤ 200 := by rw [List.length_take]; omega
    have hS : ([] ++ n16 a.vals.length ++ argsW (a.vals.take k) (a.null.take k)).length ≤ 2003802 := by simp [n16]; omega
    clear hfew hlen
    by_cases hlt : k < a.vals.length
    · have hlt2 : k < a.null.length := by rw [HL.out]; exact hlt
      have st : ∀ {v xs}, LR (fun i => i < w.heap.size) w v xs → LR (fun i => i < w.heap.size) wr v xs := fun h => h.step (fun b hb2 => (HBW.out.block b (Nat.lt_of_lt_of_le hb2 HB.out.size)).trans (HB.out.block b hb2)) (fun _ h => h)
      obtain ⟨p, o, rfl, hp, hg⟩ := (st HV.out).addr (ne_strs hlt)
      obtain ⟨p2, o2, rfl, hp2, hg2⟩ := (st HN.out).addr (ne_bools hlt2)
      have x := hg k _ (strs_get a.vals k hlt)
      have x2 := hg2 k _ (bools_get a.null k hlt2)
      have i0 : (0 : Int) ≤ (k : Int) := by omega
      have i1 : (k : Int) < (a.vals.length : Int) := by omega
      have i2 : (k : Int) < (a.null.length : Int) := by omega
      have hs := argsW_step a.vals a.null k hlt hlt2
      have t1 := HF.out.valsT a.vals[k] (List.getElem_mem _)
      generalize hS0 : [] ++ n16 a.vals.length ++ argsW (a.vals.take k) (a.null.take k) = S0 at *
      cases hn : a.null[k] with
      | true =>
        rw [hn] at x2 hs
        have HD := Lib.hid (fun w => put4 S0 (-1) w (by omega))
        have HR : Hid (S0 ++ n32 (-1) = [] ++ n16 a.vals.length ++ argsW (a.vals.take (k + 1)) (a.null.take (k + 1))) := Lib.hid (by rw [hs, ← hS0]; simp [argW])
        clear hg hg2 hs t1 hS st hb hn hS0
        go_wp2_with fail
        refine (HD.out _).mono ?_; rintro e w2 ⟨rfl, hb2⟩
        go_wp2
        go_roundw
        case rel => exact ⟨k + 1, by omega, by go_num, by rw [HR.out], HBW.out.trans (hb2.mono HBW.out.size)⟩
        case measure => simp [intOf]; omega
      | false =>
        rw [hn] at x2 hs
        have HD := Lib.hid (fun w => put4 S0 ((ba a.vals[k]).size : Int) w (by omega))
        have HR : Hid (ba (S0 ++ n32 ((ba a.vals[k]).size : Int)) ++ ba a.vals[k] = ba ([] ++ n16 a.vals.length ++ argsW (a.vals.take (k + 1)) (a.null.take (k + 1)))) := Lib.hid (by rw [hs, ← hS0, ba_size, ba_append]; simp [argW])
        have hz2 : (ba (S0 ++ n32 ((ba a.vals[k]).size : Int))).size ≤ 10044448 := by rw [ba_size, List.length_append]; simp only [n32, List.length_cons, List.length_nil]; omega
        have hz3 : (ba a.vals[k]).size ≤ 10000 := by rw [ba_size]; exact t1
        have hpw := cell_lt0 x
        have hBl := Q0.out.lt
        have hwz := HBW.out.size
        clear hg hg2 hs t1 hS st hb hn hS0
        generalize ba (S0 ++ n32 ((ba a.vals[k]).size : Int)) = r2 at *
        generalize ba S0 = r0 at *
        generalize ba a.vals[k] = y at *
        go_wp2
        go_region_with (go_at_call 61; refine (HD.out _).mono ?_; rintro e w2 ⟨rfl, hb2⟩; have q4' : w2.cell? ⟨w.heap.size, 4, none⟩ = some (.slice (some ⟨p, o, none⟩) a.vals.length c2) := (by rw [(bcell hb2).1 _ _ (Nat.lt_of_lt_of_le hBl hwz)]; exact q4); have x' : w2.cell? ⟨p, o + k, none⟩ = some (.string y) := (by rw [(bcell hb2).1 _ _ hpw]; exact x))
        all_goals
          go_wp2
          go_roundw
          case rel => exact ⟨k + 1, by omega, by go_num, by rw [← HR.out], HBW.out.trans ((below_drewN (Below.refl _ _) 1).trans (hb2.mono HBW.out.size))⟩
          case measure => simp [intOf]; omega
    · have e : k = a.vals.length := by omega
      have hz : [] ++ n16 a.vals.length ++ argsW (a.vals.take k) (a.null.take k) = R := by rw [List.take_of_length_le (by omega), List.take_of_length_le (by have := HL.out; omega), HRR.out]
      rw [hz]
      clear hz hS hb
      go_wp2
      go_ret
      exact ⟨rfl, HB.out.trans (HBW.out.mono HB.out.size)⟩
end Go.Proofs.Ytnjifbgjglniaaa.BK
