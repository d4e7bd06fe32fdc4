/- SessNil's walk. Condition: what is laid. -/
import Derived.Test.YtpnjjllkbnmakaaDoorSyg
namespace Go.Proofs.YtpnjjllkbnmakaaDoor.SE
open Go.ChangeShapes Go.WideShapes Go.ChangeAt Go.RowKit
open Go.Proofs.YtpnjjllkbnmakaaDoor.SL
set_option maxRecDepth 100000
set_option linter.unusedVariables false
set_option linter.unusedSimpArgs false

set_option maxHeartbeats 8000000 in
theorem nil_law (v : Value) (w : World) (hf : FitsA w v) (hW : LW w) :
    Calls Tryd.prog 6 #[v] w fun e w' => e = .returned (.bool true) ∧ Below w.heap.size w w' := by
  obtain ⟨a, r, hvr, hB⟩ := hf
  obtain ⟨z9, hA⟩ : ∃ z9, AkR z9 w v a := ⟨w.heap.size, by rw [hvr]; exact hB.akr (Below.refl _ _) (Nat.le_refl _)⟩
  have hln := hB.2.2.2.2
  clear hvr hB
  obtain ⟨n, po, sq, kv, vv, av, nv, fv, m, wh, pid, sec, rfl, hk, hv, hz, ⟨A3, n3, c3, rfl⟩, ⟨A4, n4, c4, rfl⟩, ⟨A5, n5, c5, rfl⟩⟩ := hA
  obtain ⟨A1, c1, rfl⟩ := hk.ts.form
  obtain ⟨A2, c2, rfl⟩ := hv.ts.form
  obtain ⟨ak, hak⟩ : ∃ x, a.k = x := ⟨_, rfl⟩
  obtain ⟨ac, hac⟩ : ∃ x, a.c = x := ⟨_, rfl⟩
  obtain ⟨n1, hn1⟩ : ∃ x, a.ks.length = x := ⟨_, rfl⟩
  obtain ⟨n2, hn2⟩ : ∃ x, a.vs.length = x := ⟨_, rfl⟩
  rw [hak, hac, hn1, hn2]
  rw [hn1] at hk
  rw [hn2] at hv
  obtain ⟨W1, hW1⟩ : ∃ W, w.alloc (.cells #[.int .u8 ak, .string n, .string po, .string sq, .slice A1 n1 c1, .slice A2 n2 c2, .slice A3 n3 c3, .slice A4 n4 c4, .slice A5 n5 c5, nV m, .int .u8 wh, .bool ac, nV pid, nV sec] 32) = W := ⟨_, rfl⟩
  obtain ⟨q, hq⟩ : ∃ b, w.heap.size = b := ⟨_, rfl⟩
  have hb1 : Below w.heap.size w W1 := by rw [← hW1]; exact (Below.refl _ _).alloc (Nat.le_refl _) _
  have k1 : Bk W1 q 32 #[.int .u8 ak, .string n, .string po, .string sq, .slice A1 n1 c1, .slice A2 n2 c2, .slice A3 n3 c3, .slice A4 n4 c4, .slice A5 n5 c5, nV m, .int .u8 wh, .bool ac, nV pid, nV sec] := by rw [← hW1, ← hq]; exact Bk.new _ _ _
  have x0 := k1.cell 0
  have x1 := k1.cell 1
  have x2 := k1.cell 2
  have x3 := k1.cell 3
  have x4 := k1.cell 4
  have x5 := k1.cell 5
  have x6 := k1.cell 6
  have x7 := k1.cell 7
  have x8 := k1.cell 8
  have x9 := k1.cell 9
  have x10 := k1.cell 10
  have x11 := k1.cell 11
  have x12 := k1.cell 12
  have x13 := k1.cell 13
  simp at x0 x1 x2 x3 x4 x5 x6 x7 x8 x9 x10 x11 x12 x13
  have hA1 : AkR z9 W1 (.agg #[.int .u8 ak, .string n, .string po, .string sq, .slice A1 n1 c1, .slice A2 n2 c2, .slice A3 n3 c3, .slice A4 n4 c4, .slice A5 n5 c5, nV m, .int .u8 wh, .bool ac, nV pid, nV sec]) a := ⟨n, po, sq, _, _, _, _, _, m, wh, pid, sec, by rw [hak, hac], hk.below hb1, hv.below hb1, hz, ⟨_, _, _, rfl⟩, ⟨_, _, _, rfl⟩, ⟨_, _, _, rfl⟩⟩
  have HB1 := Lib.hid hb1
  obtain ⟨z, hzz⟩ : ∃ b, W1.heap.size = b := ⟨_, rfl⟩
  obtain ⟨W2, hW2⟩ : ∃ W, W1.alloc (.cells #[.pointer none, nV 0, .string ⟨#[]⟩, .string ⟨#[]⟩] 49) = W := ⟨_, rfl⟩
  have hb2 : Below W1.heap.size W1 W2 := by rw [← hW2]; exact (Below.refl _ _).alloc (Nat.le_refl _) _
  have k2 : Bk W2 z 49 #[.pointer none, nV 0, .string ⟨#[]⟩, .string ⟨#[]⟩] := by rw [← hW2, ← hzz]; exact Bk.new _ _ _
  have kq := k1.heap (hb2.block q k1.lt)
  have KQ := Lib.hid kq
  have HB2 : Hid (Below w.heap.size w W2) := Lib.hid (hb1.trans (hb2.mono hb1.size))
  have NZ : Hid (Nb W2 (ptr z)) := Lib.hid (.inr ⟨z, rfl, k2.cell 0⟩)
  have NN : Hid (∀ W, Nb W (.pointer none)) := Lib.hid fun W => .inl rfl
  have A2 := Lib.hid (hA1.below hb2)
  have HL := Lib.hid (light_any _ a W2 (hA1.below hb2) hln.1 hln.2)
  have HW2 := Lib.hid (hW.below HB2.out)
  clear x0 x1 x2 x3 x4 x5 x6 x7 x8 x9 x10 x11 x12 x13
  have x0 := kq.cell 0
  have x1 := kq.cell 1
  have x2 := kq.cell 2
  have x3 := kq.cell 3
  have x4 := kq.cell 4
  have x5 := kq.cell 5
  have x6 := kq.cell 6
  have x7 := kq.cell 7
  have x8 := kq.cell 8
  have x9 := kq.cell 9
  have x10 := kq.cell 10
  have x11 := kq.cell 11
  have x12 := kq.cell 12
  have x13 := kq.cell 13
  simp at x0 x1 x2 x3 x4 x5 x6 x7 x8 x9 x10 x11 x12 x13
  clear hk hv hz k1 hA1 kq hb1 hb2 k2 hW HB1 hln
  by_cases hlt : Lt a
  · rw [decide_eq_true hlt] at HL
    clear hlt
    go_enter Tryd.func6, Tryd.ntmps6
    go_wp2_with fail
    refine HL.out.mono ?_
    rintro e w3 ⟨rfl, hb3⟩
    have B3 : Hid (Below W2.heap.size W2 w3) := Lib.hid hb3
    have kq3 := KQ.out.heap (hb3.block q KQ.out.lt)
    clear hb3 HL x0 x1 x2 x3 x4 x5 x6 x7 x8 x9 x10 x11 x12 x13
    have x0 := kq3.cell 0
    have x1 := kq3.cell 1
    have x2 := kq3.cell 2
    have x3 := kq3.cell 3
    have x4 := kq3.cell 4
    have x5 := kq3.cell 5
    have x6 := kq3.cell 6
    have x7 := kq3.cell 7
    have x8 := kq3.cell 8
    have x9 := kq3.cell 9
    have x10 := kq3.cell 10
    have x11 := kq3.cell 11
    have x12 := kq3.cell 12
    have x13 := kq3.cell 13
    simp at x0 x1 x2 x3 x4 x5 x6 x7 x8 x9 x10 x11 x12 x13
    clear kq3
    go_wp2_with fail
    refine (step_nb (NN.out w3) (A2.out.below B3.out)).mono ?_
    rintro e w4 ⟨rfl, hb4⟩
    have B4 : Hid (Below W2.heap.size W2 w4) := Lib.hid (B3.out.trans (hb4.mono B3.out.size))
    have kq4 := KQ.out.heap (B4.out.block q KQ.out.lt)
    clear hb4 B3 x0 x1 x2 x3 x4 x5 x6 x7 x8 x9 x10 x11 x12 x13
    have x0 := kq4.cell 0
    have x1 := kq4.cell 1
    have x2 := kq4.cell 2
    have x3 := kq4.cell 3
    have x4 := kq4.cell 4
    have x5 := kq4.cell 5
    have x6 := kq4.cell 6
    have x7 := kq4.cell 7
    have x8 := kq4.cell 8
    have x9 := kq4.cell 9
    have x10 := kq4.cell 10
    have x11 := kq4.cell 11
    have x12 := kq4.cell 12
    have x13 := kq4.cell 13
    simp at x0 x1 x2 x3 x4 x5 x6 x7 x8 x9 x10 x11 x12 x13
    clear kq4
    go_wp2_with fail
    refine (step_nb (NZ.out.below B4.out) (A2.out.below B4.out)).mono ?_
    rintro e w5 ⟨rfl, hb5⟩
    have B5 : Hid (Below W2.heap.size W2 w5) := Lib.hid (B4.out.trans (hb5.mono B4.out.size))
    clear hb5 B4 x0 x1 x2 x3 x4 x5 x6 x7 x8 x9 x10 x11 x12 x13
    go_wp2_with fail
    refine (accept_nb (NN.out _) true).mono ?_
    rintro e wx ⟨rfl, rfl⟩
    go_wp2_with fail
    refine (done_nb (NZ.out.below B5.out)).mono ?_
    rintro e wx ⟨rfl, rfl⟩
    go_wp2_with fail
    refine (fail_nb (NZ.out.below B5.out)).mono ?_
    rintro e wx ⟨rfl, rfl⟩
    go_wp2_with fail
    refine (phase_nb (NN.out _)).mono ?_
    rintro e wx ⟨rfl, rfl⟩
    go_wp2_with fail
    refine (user_nb (NN.out _)).mono ?_
    rintro e wx ⟨rfl, rfl⟩
    go_wp2_with fail
    refine (db_nb (NZ.out.below B5.out)).mono ?_
    rintro e wx ⟨rfl, rfl⟩
    go_wp2_with fail
    refine (copy_nb (NN.out _)).mono ?_
    rintro e wx ⟨rfl, rfl⟩
    go_wp2_with fail
    refine (copy_nb (NZ.out.below B5.out)).mono ?_
    rintro e wx ⟨rfl, rfl⟩
    go_wp2_with fail
    refine (known_any w5 (HW2.out.below B5.out)).mono ?_
    rintro e w6 ⟨rfl, hb6⟩
    have HF : Hid (Below w.heap.size w w6) := Lib.hid (HB2.out.trans ((B5.out.trans (hb6.mono B5.out.size)).mono HB2.out.size))
    clear hb6
    go_wp2
    go_ret
    exact ⟨rfl, by first | exact HF.out | (rw [← hq]; exact HF.out)⟩
  · rw [decide_eq_false hlt] at HL
    clear hlt
    go_enter Tryd.func6, Tryd.ntmps6
    go_wp2_with fail
    refine HL.out.mono ?_
    rintro e w3 ⟨rfl, hb3⟩
    have B3 : Hid (Below W2.heap.size W2 w3) := Lib.hid hb3
    clear hb3 HL x0 x1 x2 x3 x4 x5 x6 x7 x8 x9 x10 x11 x12 x13
    go_wp2_with fail
    refine (known_any w3 (HW2.out.below B3.out)).mono ?_
    rintro e w6 ⟨rfl, hb6⟩
    have HF : Hid (Below w.heap.size w w6) := Lib.hid (HB2.out.trans ((B3.out.trans (hb6.mono B3.out.size)).mono HB2.out.size))
    clear hb6
    go_wp2
    go_ret
    exact ⟨rfl, by first | exact HF.out | (rw [← hq]; exact HF.out)⟩
end Go.Proofs.YtpnjjllkbnmakaaDoor.SE
