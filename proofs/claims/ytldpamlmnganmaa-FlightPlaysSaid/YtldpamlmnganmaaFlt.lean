/- FlightNil's walk. No condition. -/
import Derived.Test.YtldpamlmnganmaaFls
namespace Go.Proofs.Ytldpamlmnganmaa.FL
open Go.ChangeShapes Go.WideShapes Go.ChangeAt Go.RowKit Go.Maps Go.ChangeMaps
open Go.Proofs.Ytldpamlmnganmaa.SL
set_option maxRecDepth 100000
set_option linter.unusedVariables false
set_option linter.unusedSimpArgs false

set_option maxHeartbeats 8000000 in
theorem fnil_any (v : Value) (c : Int) (w : World) (hf : FitsK w v) (hc : (Lit.int .i64 c).wf = true) :
    Calls Try.prog 6 #[v, .int .i64 c] w fun e w' => e = .returned (.bool true) ∧ Below w.heap.size w w' := by
  obtain ⟨k, rfl, _⟩ := hf
  obtain ⟨kb, hkb⟩ : ∃ b, w.heap.size = b := ⟨_, rfl⟩
  obtain ⟨W0, hW0⟩ : ∃ W, w.alloc (.cells (kC k) 30) = W := ⟨_, rfl⟩
  have hb0 : Below w.heap.size w W0 := by rw [← hW0]; exact (Below.refl _ _).alloc (Nat.le_refl _) _
  have kk0 : Bk W0 kb 30 (kC k) := by rw [← hW0, ← hkb]; exact Bk.new _ _ _
  obtain ⟨W, hW⟩ : ∃ W, W0.alloc (.cells #[.pointer none, .map none, .map none] 63) = W := ⟨_, rfl⟩
  obtain ⟨z, hz⟩ : ∃ b, W0.heap.size = b := ⟨_, rfl⟩
  have hb : Below w.heap.size w W := by rw [← hW]; exact hb0.alloc hb0.size _
  have kk : Bk W kb 30 (kC k) := by rw [← hW]; exact kk0.alloc _
  have hk : Bk W z 63 #[.pointer none, .map none, .map none] := by rw [← hW, ← hz]; exact Bk.new _ _ _
  have HB := Lib.hid hb
  have HZ : Hid (Nb W (ptr z)) := Lib.hid (.inr ⟨z, rfl, hk.cell 0⟩)
  have HN : ∀ W, Hid (Nb W (.pointer none)) := fun W => Lib.hid (.inl rfl)
  have HKK := Lib.hid kk
  have HI := Lib.hid (show ∀ W : World, Nb W (.pointer none) from fun W => .inl rfl)
  clear hb0 kk0 hb kk hk HN
  obtain ⟨db, ro, fm, no⟩ := k
  have HC := Lib.hid (ask_no (HI.out W) (db, ro, fm, no) c)
  have a0 : W.cell? ⟨kb, 0, none⟩ = some (.string db) := HKK.out.cell 0
  have a1 : W.cell? ⟨kb, 1, none⟩ = some (.string ro) := HKK.out.cell 1
  have a2 : W.cell? ⟨kb, 2, none⟩ = some (.int .i64 fm) := HKK.out.cell 2
  have a3 : W.cell? ⟨kb, 3, none⟩ = some (.string no) := HKK.out.cell 3
  go_enter Try.func6, Try.ntmps6
  go_wp2_with fail
  try rw [hW0]
  try rw [hkb]
  try rw [hW]
  try rw [hz]
  refine HC.out.mono ?_
  clear HC a0 a1 a2 a3
  rintro e w1 ⟨rfl, hb⟩
  have HZ := Lib.hid (HZ.out.below hb)
  have HKK := Lib.hid (HKK.out.heap (hb.block _ HKK.out.lt))
  have HB := Lib.hid (HB.out.trans (hb.mono HB.out.size))
  clear hb
  clear hW0 hkb hW hz
  have HC := Lib.hid (ask_no HZ.out (db, ro, fm, no) c)
  have a0 : w1.cell? ⟨kb, 0, none⟩ = some (.string db) := HKK.out.cell 0
  have a1 : w1.cell? ⟨kb, 1, none⟩ = some (.string ro) := HKK.out.cell 1
  have a2 : w1.cell? ⟨kb, 2, none⟩ = some (.int .i64 fm) := HKK.out.cell 2
  have a3 : w1.cell? ⟨kb, 3, none⟩ = some (.string no) := HKK.out.cell 3
  go_wp2_with fail
  refine HC.out.mono ?_
  clear HC a0 a1 a2 a3
  rintro e w2 ⟨rfl, hb⟩
  have HZ := Lib.hid (HZ.out.below hb)
  have HKK := Lib.hid (HKK.out.heap (hb.block _ HKK.out.lt))
  have HB := Lib.hid (HB.out.trans (hb.mono HB.out.size))
  clear hb
  have HC := Lib.hid (land_no (HI.out w2) (db, ro, fm, no))
  have a0 : w2.cell? ⟨kb, 0, none⟩ = some (.string db) := HKK.out.cell 0
  have a1 : w2.cell? ⟨kb, 1, none⟩ = some (.string ro) := HKK.out.cell 1
  have a2 : w2.cell? ⟨kb, 2, none⟩ = some (.int .i64 fm) := HKK.out.cell 2
  have a3 : w2.cell? ⟨kb, 3, none⟩ = some (.string no) := HKK.out.cell 3
  go_wp2_with fail
  refine HC.out.mono ?_
  clear HC a0 a1 a2 a3
  rintro e w3 ⟨rfl, hb⟩
  have HZ := Lib.hid (HZ.out.below hb)
  have HKK := Lib.hid (HKK.out.heap (hb.block _ HKK.out.lt))
  have HB := Lib.hid (HB.out.trans (hb.mono HB.out.size))
  clear hb
  have HC := Lib.hid (leave_no HZ.out c)
  have a0 : w3.cell? ⟨kb, 0, none⟩ = some (.string db) := HKK.out.cell 0
  have a1 : w3.cell? ⟨kb, 1, none⟩ = some (.string ro) := HKK.out.cell 1
  have a2 : w3.cell? ⟨kb, 2, none⟩ = some (.int .i64 fm) := HKK.out.cell 2
  have a3 : w3.cell? ⟨kb, 3, none⟩ = some (.string no) := HKK.out.cell 3
  go_wp2_with fail
  refine HC.out.mono ?_
  clear HC a0 a1 a2 a3
  rintro e w4 ⟨rfl, hb⟩
  have HZ := Lib.hid (HZ.out.below hb)
  have HKK := Lib.hid (HKK.out.heap (hb.block _ HKK.out.lt))
  have HB := Lib.hid (HB.out.trans (hb.mono HB.out.size))
  clear hb
  have HC := Lib.hid (waits_no (HI.out w4) c)
  have a0 : w4.cell? ⟨kb, 0, none⟩ = some (.string db) := HKK.out.cell 0
  have a1 : w4.cell? ⟨kb, 1, none⟩ = some (.string ro) := HKK.out.cell 1
  have a2 : w4.cell? ⟨kb, 2, none⟩ = some (.int .i64 fm) := HKK.out.cell 2
  have a3 : w4.cell? ⟨kb, 3, none⟩ = some (.string no) := HKK.out.cell 3
  obtain ⟨zk, hzk⟩ : ∃ k, zKy = k := ⟨_, rfl⟩
  rw [hzk] at HC
  clear hzk
  obtain ⟨x0, x1, x2, x3⟩ := zk
  go_wp2_with fail
  refine HC.out.mono ?_
  clear HC a0 a1 a2 a3
  rintro e w5 ⟨rfl, hb⟩
  have HZ := Lib.hid (HZ.out.below hb)
  have HKK := Lib.hid (HKK.out.heap (hb.block _ HKK.out.lt))
  have HB := Lib.hid (HB.out.trans (hb.mono HB.out.size))
  clear hb
  obtain ⟨X, hX⟩ : ∃ W, w5.alloc (.cells (kC (x0, x1, x2, x3)) 30) = W := ⟨_, rfl⟩
  have bX : Below w5.heap.size w5 X := by rw [← hX]; exact (Below.refl _ _).alloc (Nat.le_refl _) _
  have HZ := Lib.hid (HZ.out.below bX)
  have HKK := Lib.hid (HKK.out.heap (bX.block _ HKK.out.lt))
  have HB := Lib.hid (HB.out.trans (bX.mono HB.out.size))
  clear bX
  have HC := Lib.hid (lead_no HZ.out (db, ro, fm, no))
  have a0 : X.cell? ⟨kb, 0, none⟩ = some (.string db) := HKK.out.cell 0
  have a1 : X.cell? ⟨kb, 1, none⟩ = some (.string ro) := HKK.out.cell 1
  have a2 : X.cell? ⟨kb, 2, none⟩ = some (.int .i64 fm) := HKK.out.cell 2
  have a3 : X.cell? ⟨kb, 3, none⟩ = some (.string no) := HKK.out.cell 3
  go_wp2_with fail
  try rw [hX]
  refine HC.out.mono ?_
  clear HC a0 a1 a2 a3
  rintro e w6 ⟨rfl, hb⟩
  have HZ := Lib.hid (HZ.out.below hb)
  have HKK := Lib.hid (HKK.out.heap (hb.block _ HKK.out.lt))
  have HB := Lib.hid (HB.out.trans (hb.mono HB.out.size))
  clear hb
  have HC := Lib.hid (nopen_no (HI.out w6))
  have a0 : w6.cell? ⟨kb, 0, none⟩ = some (.string db) := HKK.out.cell 0
  have a1 : w6.cell? ⟨kb, 1, none⟩ = some (.string ro) := HKK.out.cell 1
  have a2 : w6.cell? ⟨kb, 2, none⟩ = some (.int .i64 fm) := HKK.out.cell 2
  have a3 : w6.cell? ⟨kb, 3, none⟩ = some (.string no) := HKK.out.cell 3
  go_wp2_with fail
  refine HC.out.mono ?_
  rintro e w7 ⟨rfl, rfl⟩
  clear HC a0 a1 a2 a3
  have HC := Lib.hid (nopen_no HZ.out)
  have a0 : w6.cell? ⟨kb, 0, none⟩ = some (.string db) := HKK.out.cell 0
  have a1 : w6.cell? ⟨kb, 1, none⟩ = some (.string ro) := HKK.out.cell 1
  have a2 : w6.cell? ⟨kb, 2, none⟩ = some (.int .i64 fm) := HKK.out.cell 2
  have a3 : w6.cell? ⟨kb, 3, none⟩ = some (.string no) := HKK.out.cell 3
  go_wp2_with fail
  refine HC.out.mono ?_
  rintro e w8 ⟨rfl, rfl⟩
  clear HC a0 a1 a2 a3
  have HC := Lib.hid (copy_no (HI.out w6))
  have a0 : w6.cell? ⟨kb, 0, none⟩ = some (.string db) := HKK.out.cell 0
  have a1 : w6.cell? ⟨kb, 1, none⟩ = some (.string ro) := HKK.out.cell 1
  have a2 : w6.cell? ⟨kb, 2, none⟩ = some (.int .i64 fm) := HKK.out.cell 2
  have a3 : w6.cell? ⟨kb, 3, none⟩ = some (.string no) := HKK.out.cell 3
  go_wp2_with fail
  refine HC.out.mono ?_
  rintro e w9 ⟨rfl, rfl⟩
  clear HC a0 a1 a2 a3
  have HC := Lib.hid (copy_no HZ.out)
  have a0 : w6.cell? ⟨kb, 0, none⟩ = some (.string db) := HKK.out.cell 0
  have a1 : w6.cell? ⟨kb, 1, none⟩ = some (.string ro) := HKK.out.cell 1
  have a2 : w6.cell? ⟨kb, 2, none⟩ = some (.int .i64 fm) := HKK.out.cell 2
  have a3 : w6.cell? ⟨kb, 3, none⟩ = some (.string no) := HKK.out.cell 3
  go_wp2_with fail
  refine HC.out.mono ?_
  rintro e w10 ⟨rfl, rfl⟩
  clear HC a0 a1 a2 a3
  go_wp2_with fail
  refine (known_any _).mono ?_
  rintro e wz ⟨rfl, hb⟩
  have HB := Lib.hid (HB.out.trans (hb.mono HB.out.size))
  clear hb
  go_wp2
  go_ret
  exact ⟨rfl, HB.out⟩
end Go.Proofs.Ytldpamlmnganmaa.FL
