/- Package flight: a board that is not there, or is not one of New. No condition. -/
import Derived.Test.YtldpamlmnganmaaFln
namespace Go.Proofs.Ytldpamlmnganmaa.FL
open Go.ChangeShapes Go.WideShapes Go.ChangeAt Go.RowKit Go.Maps Go.ChangeMaps
open Go.Proofs.Ytldpamlmnganmaa.SL
set_option maxRecDepth 100000
set_option linter.unusedVariables false
set_option linter.unusedSimpArgs false

/-- v is no board of New -/
def Nb (w : World) (v : Value) : Prop := v = .pointer none ∨ ∃ z, v = ptr z ∧ w.cell? ⟨z, 0, none⟩ = some (.pointer none)
theorem Nb.below {w w' : World} {v : Value} (h : Nb w v) (hb : Below w.heap.size w w') : Nb w' v := by
  rcases h with h | ⟨z, h, hc⟩
  · exact .inl h
  · exact .inr ⟨z, h, (hb.cell (p := ⟨z, 0, none⟩) (World.block_lt_of_cell? _ _ hc)).trans hc⟩
theorem given_no {w : World} {v : Value} (h : Nb w v) : Calls Try.prog 25 #[v] w fun e w' => e = .returned (.bool false) ∧ w = w' := by
  rcases h with rfl | ⟨z, rfl, hc⟩
  · exact given_nil w
  · exact given_zero w z hc
theorem find_no {w : World} {v : Value} (h : Nb w v) (k : Ky) : Calls Try.prog 30 #[v, kyV k] w (RdP (.tuple #[.pointer none, .bool false]) w) := by
  obtain ⟨W0, hW0⟩ : ∃ W, w.alloc (.cells (kC k) 30) = W := ⟨_, rfl⟩
  obtain ⟨kb, hkb⟩ : ∃ b, w.heap.size = b := ⟨_, rfl⟩
  have b0 : Below w.heap.size w W0 := by rw [← hW0]; exact (Below.refl _ _).alloc (Nat.le_refl _) _
  have kk : Bk W0 kb 30 (kC k) := by rw [← hW0, ← hkb]; exact Bk.new _ _ _
  have HB0 := Lib.hid b0
  have HKB : Hid (w.heap.size ≤ kb) := Lib.hid (Nat.le_of_eq hkb)
  have HKK := Lib.hid kk
  have HG := Lib.hid (given_no (h.below b0))
  clear b0 kk h
  go_enter Try.func30, Try.ntmps30
  go_wp2_with fail
  try rw [hW0]
  try rw [hkb]
  refine HG.out.mono ?_
  rintro e w' ⟨rfl, rfl⟩
  go_wp2
  go_ret2
  exact ⟨rfl, HB0.out⟩
theorem sits_no {w : World} {v : Value} (h : Nb w v) (c : Int) : Calls Try.prog 33 #[v, .int .i64 c] w (RdP (.tuple #[.agg #[.pointer none, .int .i64 0], .bool false]) w) := by
  obtain ⟨W0, hW0⟩ : ∃ W, w.alloc (.cells #[.pointer none, .int .i64 0] 68) = W := ⟨_, rfl⟩
  obtain ⟨kb, hkb⟩ : ∃ b, w.heap.size = b := ⟨_, rfl⟩
  have b0 : Below w.heap.size w W0 := by rw [← hW0]; exact (Below.refl _ _).alloc (Nat.le_refl _) _
  have kk : Bk W0 kb 68 #[.pointer none, .int .i64 0] := by rw [← hW0, ← hkb]; exact Bk.new _ _ _
  have HB0 := Lib.hid b0
  have HKB : Hid (w.heap.size ≤ kb) := Lib.hid (Nat.le_of_eq hkb)
  have HKK := Lib.hid kk
  have HG := Lib.hid (given_no (h.below b0))
  have q0 : W0.cell? ⟨kb, 0, none⟩ = some (.pointer none) := kk.cell 0
  have q1 : W0.cell? ⟨kb, 1, none⟩ = some (.int .i64 0) := kk.cell 1
  have f0 := kk.frozen 0
  have f1 := kk.frozen 1
  clear b0 kk h
  go_enter Try.func33, Try.ntmps33
  go_wp2_with fail
  try rw [hW0]
  try rw [hkb]
  refine HG.out.mono ?_
  rintro e w' ⟨rfl, rfl⟩
  go_wp2
  have k5 := (HKK.out.set_ 0 (.pointer none)).set_ 1 (.int .i64 0)
  have r0 := k5.cell 0
  have r1 := k5.cell 1
  simp at r0 r1
  refine bodyPost_ret (v := .tuple #[.agg #[.pointer none, .int .i64 0], .bool false]) (by simp [results, Try.results33, go_sem, r0, r1]) rfl ?_
  exact ⟨rfl, (HB0.out.setCell (p := ⟨kb, 0, none⟩) HKB.out _).setCell (p := ⟨kb, 1, none⟩) HKB.out _⟩
theorem ask_no {w : World} {v : Value} (h : Nb w v) (k : Ky) (c : Int) : Calls Try.prog 10 #[v, kyV k, .int .i64 c] w (RdP (.tuple #[.bool false, .int .i64 12]) w) := by
  obtain ⟨W0, hW0⟩ : ∃ W, w.alloc (.cells (kC k) 30) = W := ⟨_, rfl⟩
  obtain ⟨kb, hkb⟩ : ∃ b, w.heap.size = b := ⟨_, rfl⟩
  have b0 : Below w.heap.size w W0 := by rw [← hW0]; exact (Below.refl _ _).alloc (Nat.le_refl _) _
  have kk : Bk W0 kb 30 (kC k) := by rw [← hW0, ← hkb]; exact Bk.new _ _ _
  have HB0 := Lib.hid b0
  have HKB : Hid (w.heap.size ≤ kb) := Lib.hid (Nat.le_of_eq hkb)
  have HKK := Lib.hid kk
  have HG := Lib.hid (given_no (h.below b0))
  clear b0 kk h
  go_enter Try.func10, Try.ntmps10
  go_wp2_with fail
  try rw [hW0]
  try rw [hkb]
  refine HG.out.mono ?_
  rintro e w' ⟨rfl, rfl⟩
  go_wp2
  go_ret2
  exact ⟨rfl, HB0.out⟩
theorem land_no {w : World} {v : Value} (h : Nb w v) (k : Ky) : Calls Try.prog 13 #[v, kyV k] w (RdP (.tuple #[.int .i64 0, .slice none 0 0, .bool false]) w) := by
  obtain ⟨W0, hW0⟩ : ∃ W, w.alloc (.cells (kC k) 30) = W := ⟨_, rfl⟩
  obtain ⟨kb, hkb⟩ : ∃ b, w.heap.size = b := ⟨_, rfl⟩
  have b0 : Below w.heap.size w W0 := by rw [← hW0]; exact (Below.refl _ _).alloc (Nat.le_refl _) _
  have kk : Bk W0 kb 30 (kC k) := by rw [← hW0, ← hkb]; exact Bk.new _ _ _
  have HB0 := Lib.hid b0
  have HKB : Hid (w.heap.size ≤ kb) := Lib.hid (Nat.le_of_eq hkb)
  have HKK := Lib.hid kk
  have HG := Lib.hid (given_no (h.below b0))
  have HFI := Lib.hid (find_no (h.below b0) k)
  obtain ⟨db, ro, fm, no⟩ := k
  have a0 : W0.cell? ⟨kb, 0, none⟩ = some (.string db) := kk.cell 0
  have a1 : W0.cell? ⟨kb, 1, none⟩ = some (.string ro) := kk.cell 1
  have a2 : W0.cell? ⟨kb, 2, none⟩ = some (.int .i64 fm) := kk.cell 2
  have a3 : W0.cell? ⟨kb, 3, none⟩ = some (.string no) := kk.cell 3
  clear b0 kk h
  go_enter Try.func13, Try.ntmps13
  go_wp2_with fail
  try rw [hW0]
  try rw [hkb]
  go_wp2_with fail
  refine HFI.out.mono ?_
  rintro e w2 ⟨rfl, hb2⟩
  have HB2 := Lib.hid (HB0.out.trans (hb2.mono HB0.out.size))
  clear hb2
  go_wp2
  refine bodyPost_ret (v := .tuple #[.int .i64 0, .slice none 0 0, .bool false]) (by simp [results, Try.results13, go_sem]) rfl ?_
  exact ⟨rfl, HB2.out⟩
theorem lead_no {w : World} {v : Value} (h : Nb w v) (k : Ky) : Calls Try.prog 19 #[v, kyV k] w (RdP (.tuple #[.int .i64 0, .bool false]) w) := by
  obtain ⟨W0, hW0⟩ : ∃ W, w.alloc (.cells (kC k) 30) = W := ⟨_, rfl⟩
  obtain ⟨kb, hkb⟩ : ∃ b, w.heap.size = b := ⟨_, rfl⟩
  have b0 : Below w.heap.size w W0 := by rw [← hW0]; exact (Below.refl _ _).alloc (Nat.le_refl _) _
  have kk : Bk W0 kb 30 (kC k) := by rw [← hW0, ← hkb]; exact Bk.new _ _ _
  have HB0 := Lib.hid b0
  have HKB : Hid (w.heap.size ≤ kb) := Lib.hid (Nat.le_of_eq hkb)
  have HKK := Lib.hid kk
  have HG := Lib.hid (given_no (h.below b0))
  have HFI := Lib.hid (find_no (h.below b0) k)
  obtain ⟨db, ro, fm, no⟩ := k
  have a0 : W0.cell? ⟨kb, 0, none⟩ = some (.string db) := kk.cell 0
  have a1 : W0.cell? ⟨kb, 1, none⟩ = some (.string ro) := kk.cell 1
  have a2 : W0.cell? ⟨kb, 2, none⟩ = some (.int .i64 fm) := kk.cell 2
  have a3 : W0.cell? ⟨kb, 3, none⟩ = some (.string no) := kk.cell 3
  clear b0 kk h
  go_enter Try.func19, Try.ntmps19
  go_wp2_with fail
  try rw [hW0]
  try rw [hkb]
  go_wp2_with fail
  refine HFI.out.mono ?_
  rintro e w2 ⟨rfl, hb2⟩
  have HB2 := Lib.hid (HB0.out.trans (hb2.mono HB0.out.size))
  clear hb2
  go_wp2
  refine bodyPost_ret (v := .tuple #[.int .i64 0, .bool false]) (by simp [results, Try.results19, go_sem]) rfl ?_
  exact ⟨rfl, HB2.out⟩
theorem leave_no {w : World} {v : Value} (h : Nb w v) (c : Int) : Calls Try.prog 16 #[v, .int .i64 c] w (RdP (.tuple #[.slice none 0 0, .bool false]) w) := by
  obtain ⟨px, hpx⟩ : ∃ x : Option Addr, none = x := ⟨_, rfl⟩
  obtain ⟨pn, hpn⟩ : ∃ x : Int, 0 = x := ⟨_, rfl⟩
  have HSI : Hid (Calls Try.prog 33 #[v, .int .i64 c] w (RdP (.tuple #[.agg #[.pointer px, .int .i64 pn], .bool false]) w)) := Lib.hid (by rw [← hpx, ← hpn]; exact sits_no h c)
  clear h hpx hpn
  go_enter Try.func16, Try.ntmps16
  go_wp2_with fail
  refine HSI.out.mono ?_
  rintro e w2 ⟨rfl, hb2⟩
  have HB3 := Lib.hid (hb2.alloc hb2.size (.cells #[.pointer px, .int .i64 pn] 68))
  clear hb2
  go_wp2
  go_ret2
  exact ⟨rfl, HB3.out⟩
set_option maxHeartbeats 4000000 in
theorem waits_no {w : World} {v : Value} (h : Nb w v) (c : Int) : Calls Try.prog 21 #[v, .int .i64 c] w (RdP (.tuple #[kyV zKy, .bool false]) w) := by
  obtain ⟨W0, hW0⟩ : ∃ W, w.alloc (.cells #[.string ⟨#[]⟩, .string ⟨#[]⟩, .int .i64 0, .string ⟨#[]⟩] 30) = W := ⟨_, rfl⟩
  obtain ⟨kb, hkb⟩ : ∃ b, w.heap.size = b := ⟨_, rfl⟩
  have b0 : Below w.heap.size w W0 := by rw [← hW0]; exact (Below.refl _ _).alloc (Nat.le_refl _) _
  have kk : Bk W0 kb 30 #[.string ⟨#[]⟩, .string ⟨#[]⟩, .int .i64 0, .string ⟨#[]⟩] := by rw [← hW0, ← hkb]; exact Bk.new _ _ _
  have HB0 := Lib.hid b0
  have HKB : Hid (w.heap.size ≤ kb) := Lib.hid (Nat.le_of_eq hkb)
  have HKK := Lib.hid kk
  have HG := Lib.hid (given_no (h.below b0))
  obtain ⟨px, hpx⟩ : ∃ x : Option Addr, none = x := ⟨_, rfl⟩
  obtain ⟨pn, hpn⟩ : ∃ x : Int, 0 = x := ⟨_, rfl⟩
  have HSI : Hid (Calls Try.prog 33 #[v, .int .i64 c] W0 (RdP (.tuple #[.agg #[.pointer px, .int .i64 pn], .bool false]) W0)) := Lib.hid (by rw [← hpx, ← hpn]; exact sits_no (h.below b0) c)
  clear h kk b0 hpx hpn
  go_enter Try.func21, Try.ntmps21
  go_wp2_with fail
  try rw [hW0]
  try rw [hkb]
  refine HSI.out.mono ?_
  rintro e w2 ⟨rfl, hb2⟩
  have HBX := Lib.hid (HB0.out.trans (hb2.mono HB0.out.size))
  obtain ⟨W3, hW3⟩ : ∃ W, w2.alloc (.cells #[.pointer px, .int .i64 pn] 68) = W := ⟨_, rfl⟩
  have k2 := (HKK.out.heap (hb2.block _ HKK.out.lt)).alloc (.cells #[.pointer px, .int .i64 pn] 68)
  rw [hW3] at k2
  have hb3 : Below w.heap.size w W3 := by rw [← hW3]; exact HBX.out.alloc HBX.out.size _
  have HB3 := Lib.hid hb3
  have K2 := Lib.hid k2
  have q0 := k2.cell 0
  have q1 := k2.cell 1
  have q2 := k2.cell 2
  have q3 := k2.cell 3
  have f0 := k2.frozen 0
  have f1 := k2.frozen 1
  have f2 := k2.frozen 2
  have f3 := k2.frozen 3
  simp at q0 q1 q2 q3
  clear hb2 hb3 k2 HBX
  go_wp2_with fail
  try rw [hW3]
  go_wp2
  have k5 := (((K2.out.set_ 0 (.string ⟨#[]⟩)).set_ 1 (.string ⟨#[]⟩)).set_ 2 (.int .i64 0)).set_ 3 (.string ⟨#[]⟩)
  have r0 := k5.cell 0
  have r1 := k5.cell 1
  have r2 := k5.cell 2
  have r3 := k5.cell 3
  simp at r0 r1 r2 r3
  refine bodyPost_ret (v := .tuple #[kyV zKy, .bool false]) (by simp [results, Try.results21, go_sem, r0, r1, r2, r3, zKy]) rfl ?_
  exact ⟨rfl, (((HB3.out.setCell (p := ⟨kb, 0, none⟩) HKB.out _).setCell (p := ⟨kb, 1, none⟩) HKB.out _).setCell (p := ⟨kb, 2, none⟩) HKB.out _).setCell (p := ⟨kb, 3, none⟩) HKB.out _⟩
theorem nopen_no {w : World} {v : Value} (h : Nb w v) : Calls Try.prog 23 #[v] w fun e w' => e = .returned (.int .i64 0) ∧ w = w' := by
  have HG := Lib.hid (given_no h)
  clear h
  go_enter Try.func23, Try.ntmps23
  go_wp2_with fail
  refine HG.out.mono ?_
  rintro e w' ⟨rfl, rfl⟩
  go_wp2
  go_ret
  exact ⟨rfl, rfl⟩
theorem copy_no {w : World} {v : Value} (h : Nb w v) : Calls Try.prog 18 #[v] w fun e w' => e = .returned (.pointer none) ∧ w = w' := by
  have HG := Lib.hid (given_no h)
  clear h
  go_enter Try.func18, Try.ntmps18
  go_wp2_with fail
  refine HG.out.mono ?_
  rintro e w' ⟨rfl, rfl⟩
  go_wp2
  go_ret
  exact ⟨rfl, rfl⟩
end Go.Proofs.Ytldpamlmnganmaa.FL
