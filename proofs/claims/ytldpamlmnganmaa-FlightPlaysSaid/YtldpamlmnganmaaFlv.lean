/- FlightKeys' walk. No condition. -/
import Derived.Test.YtldpamlmnganmaaFlv0
namespace Go.Proofs.Ytldpamlmnganmaa.FL
open Go.ChangeShapes Go.WideShapes Go.ChangeAt Go.RowKit Go.Maps Go.ChangeMaps
open Go.Proofs.Ytldpamlmnganmaa.SL
set_option maxRecDepth 100000
set_option linter.unusedVariables false
set_option linter.unusedSimpArgs false

set_option maxHeartbeats 8000000 in
theorem keys_long1 (k l : Ky) (n : Int) (w : World) (hky : kyB k) (hly : kyB l) (hs : shK k = false) : Calls Try.prog 7 #[kyV k, kyV l, .int .u8 n] w fun e w' => e = .returned (.bool true) ∧ Below w.heap.size w w' := by
  obtain ⟨kb, hkb⟩ : ∃ b, w.heap.size = b := ⟨_, rfl⟩
  obtain ⟨V0, hV0⟩ : ∃ W, w.alloc (.cells (kC k) 30) = W := ⟨_, rfl⟩
  have hv0 : Below w.heap.size w V0 := by rw [← hV0]; exact (Below.refl _ _).alloc (Nat.le_refl _) _
  have kv0 : Bk V0 kb 30 (kC k) := by rw [← hV0, ← hkb]; exact Bk.new _ _ _
  obtain ⟨jb, hjb⟩ : ∃ b, V0.heap.size = b := ⟨_, rfl⟩
  obtain ⟨W0, hW0⟩ : ∃ W, V0.alloc (.cells (kC l) 30) = W := ⟨_, rfl⟩
  have hb0 : Below w.heap.size w W0 := by rw [← hW0]; exact hv0.alloc hv0.size _
  have kk0 : Bk W0 kb 30 (kC k) := by rw [← hW0]; exact kv0.alloc _
  have jj0 : Bk W0 jb 30 (kC l) := by rw [← hW0, ← hjb]; exact Bk.new _ _ _
  have HB := Lib.hid hb0
  have HKK := Lib.hid kk0
  have HJJ := Lib.hid jj0
  clear hb0 kk0 jj0 hv0 kv0
  go_enter Try.func7, Try.ntmps7
  go_wp2_with fail
  try rw [hV0]
  try rw [hkb]
  try rw [hW0]
  try rw [hjb]
  refine (lb_new W0).mono ?_
  rintro e w1 ⟨a, rfl, hlb, hb⟩
  clear hW0 hV0
  have HKK := Lib.hid (HKK.out.heap (hb.block _ HKK.out.lt))
  have HJJ := Lib.hid (HJJ.out.heap (hb.block _ HJJ.out.lt))
  have HL : Hid (LB w.heap.size w1 a 0 []) := Lib.hid (by
    obtain ⟨C, h1, h2⟩ := hlb
    exact ⟨C, h1, fun b hb => Nat.le_trans HB.out.size (h2 b hb)⟩)
  have HB := Lib.hid (HB.out.trans (hb.mono HB.out.size))
  have HSH := Lib.hid (fun w => short_any k hky w)
  have HSJ := Lib.hid (fun w => short_any l hly w)
  clear hlb hb hkb hjb hky hly
  rw [hs] at HSH
  clear hs
  obtain ⟨db, ro, fm, no⟩ := k
  obtain ⟨eb, er, ef, en⟩ := l
  have HC := Lib.hid (HSH.out w1)
  have a0 : w1.cell? ⟨kb, 0, none⟩ = some (.string db) := HKK.out.cell 0
  have a1 : w1.cell? ⟨kb, 1, none⟩ = some (.string ro) := HKK.out.cell 1
  have a2 : w1.cell? ⟨kb, 2, none⟩ = some (.int .i64 fm) := HKK.out.cell 2
  have a3 : w1.cell? ⟨kb, 3, none⟩ = some (.string no) := HKK.out.cell 3
  have c0 : w1.cell? ⟨jb, 0, none⟩ = some (.string eb) := HJJ.out.cell 0
  have c1 : w1.cell? ⟨jb, 1, none⟩ = some (.string er) := HJJ.out.cell 1
  have c2 : w1.cell? ⟨jb, 2, none⟩ = some (.int .i64 ef) := HJJ.out.cell 2
  have c3 : w1.cell? ⟨jb, 3, none⟩ = some (.string en) := HJJ.out.cell 3
  go_wp2_with fail
  refine HC.out.mono ?_
  clear HC
  clear a0 a1 a2 a3 c0 c1 c2 c3
  rintro e w2 ⟨rfl, hb⟩
  have HKK := Lib.hid (HKK.out.heap (hb.block _ HKK.out.lt))
  have HJJ := Lib.hid (HJJ.out.heap (hb.block _ HJJ.out.lt))
  have HL := Lib.hid (HL.out.below hb)
  have HB := Lib.hid (HB.out.trans (hb.mono HB.out.size))
  clear hb
  go_wp2_with fail
  refine (known_any _).mono ?_
  rintro e wz ⟨rfl, hb⟩
  have HB := Lib.hid (HB.out.trans (hb.mono HB.out.size))
  clear hb
  go_wp2
  go_ret
  exact ⟨rfl, HB.out⟩
set_option maxHeartbeats 8000000 in
theorem keys_long2 (k l : Ky) (n : Int) (w : World) (hky : kyB k) (hly : kyB l) (hs : shK k = true) (ht : shK l = false) : Calls Try.prog 7 #[kyV k, kyV l, .int .u8 n] w fun e w' => e = .returned (.bool true) ∧ Below w.heap.size w w' := by
  obtain ⟨kb, hkb⟩ : ∃ b, w.heap.size = b := ⟨_, rfl⟩
  obtain ⟨V0, hV0⟩ : ∃ W, w.alloc (.cells (kC k) 30) = W := ⟨_, rfl⟩
  have hv0 : Below w.heap.size w V0 := by rw [← hV0]; exact (Below.refl _ _).alloc (Nat.le_refl _) _
  have kv0 : Bk V0 kb 30 (kC k) := by rw [← hV0, ← hkb]; exact Bk.new _ _ _
  obtain ⟨jb, hjb⟩ : ∃ b, V0.heap.size = b := ⟨_, rfl⟩
  obtain ⟨W0, hW0⟩ : ∃ W, V0.alloc (.cells (kC l) 30) = W := ⟨_, rfl⟩
  have hb0 : Below w.heap.size w W0 := by rw [← hW0]; exact hv0.alloc hv0.size _
  have kk0 : Bk W0 kb 30 (kC k) := by rw [← hW0]; exact kv0.alloc _
  have jj0 : Bk W0 jb 30 (kC l) := by rw [← hW0, ← hjb]; exact Bk.new _ _ _
  have HB := Lib.hid hb0
  have HKK := Lib.hid kk0
  have HJJ := Lib.hid jj0
  clear hb0 kk0 jj0 hv0 kv0
  go_enter Try.func7, Try.ntmps7
  go_wp2_with fail
  try rw [hV0]
  try rw [hkb]
  try rw [hW0]
  try rw [hjb]
  refine (lb_new W0).mono ?_
  rintro e w1 ⟨a, rfl, hlb, hb⟩
  clear hW0 hV0
  have HKK := Lib.hid (HKK.out.heap (hb.block _ HKK.out.lt))
  have HJJ := Lib.hid (HJJ.out.heap (hb.block _ HJJ.out.lt))
  have HL : Hid (LB w.heap.size w1 a 0 []) := Lib.hid (by
    obtain ⟨C, h1, h2⟩ := hlb
    exact ⟨C, h1, fun b hb => Nat.le_trans HB.out.size (h2 b hb)⟩)
  have HB := Lib.hid (HB.out.trans (hb.mono HB.out.size))
  have HSH := Lib.hid (fun w => short_any k hky w)
  have HSJ := Lib.hid (fun w => short_any l hly w)
  clear hlb hb hkb hjb hky hly
  rw [hs] at HSH
  rw [ht] at HSJ
  clear hs ht
  obtain ⟨db, ro, fm, no⟩ := k
  obtain ⟨eb, er, ef, en⟩ := l
  have HC := Lib.hid (HSH.out w1)
  have a0 : w1.cell? ⟨kb, 0, none⟩ = some (.string db) := HKK.out.cell 0
  have a1 : w1.cell? ⟨kb, 1, none⟩ = some (.string ro) := HKK.out.cell 1
  have a2 : w1.cell? ⟨kb, 2, none⟩ = some (.int .i64 fm) := HKK.out.cell 2
  have a3 : w1.cell? ⟨kb, 3, none⟩ = some (.string no) := HKK.out.cell 3
  have c0 : w1.cell? ⟨jb, 0, none⟩ = some (.string eb) := HJJ.out.cell 0
  have c1 : w1.cell? ⟨jb, 1, none⟩ = some (.string er) := HJJ.out.cell 1
  have c2 : w1.cell? ⟨jb, 2, none⟩ = some (.int .i64 ef) := HJJ.out.cell 2
  have c3 : w1.cell? ⟨jb, 3, none⟩ = some (.string en) := HJJ.out.cell 3
  go_wp2_with fail
  refine HC.out.mono ?_
  clear HC
  clear a0 a1 a2 a3 c0 c1 c2 c3
  rintro e w2 ⟨rfl, hb⟩
  have HKK := Lib.hid (HKK.out.heap (hb.block _ HKK.out.lt))
  have HJJ := Lib.hid (HJJ.out.heap (hb.block _ HJJ.out.lt))
  have HL := Lib.hid (HL.out.below hb)
  have HB := Lib.hid (HB.out.trans (hb.mono HB.out.size))
  clear hb
  have HC := Lib.hid (HSJ.out w2)
  have a0 : w2.cell? ⟨kb, 0, none⟩ = some (.string db) := HKK.out.cell 0
  have a1 : w2.cell? ⟨kb, 1, none⟩ = some (.string ro) := HKK.out.cell 1
  have a2 : w2.cell? ⟨kb, 2, none⟩ = some (.int .i64 fm) := HKK.out.cell 2
  have a3 : w2.cell? ⟨kb, 3, none⟩ = some (.string no) := HKK.out.cell 3
  have c0 : w2.cell? ⟨jb, 0, none⟩ = some (.string eb) := HJJ.out.cell 0
  have c1 : w2.cell? ⟨jb, 1, none⟩ = some (.string er) := HJJ.out.cell 1
  have c2 : w2.cell? ⟨jb, 2, none⟩ = some (.int .i64 ef) := HJJ.out.cell 2
  have c3 : w2.cell? ⟨jb, 3, none⟩ = some (.string en) := HJJ.out.cell 3
  go_wp2_with fail
  refine HC.out.mono ?_
  clear HC
  clear a0 a1 a2 a3 c0 c1 c2 c3
  rintro e w3 ⟨rfl, hb⟩
  have HKK := Lib.hid (HKK.out.heap (hb.block _ HKK.out.lt))
  have HJJ := Lib.hid (HJJ.out.heap (hb.block _ HJJ.out.lt))
  have HL := Lib.hid (HL.out.below hb)
  have HB := Lib.hid (HB.out.trans (hb.mono HB.out.size))
  clear hb
  go_wp2_with fail
  refine (known_any _).mono ?_
  rintro e wz ⟨rfl, hb⟩
  have HB := Lib.hid (HB.out.trans (hb.mono HB.out.size))
  clear hb
  go_wp2
  go_ret
  exact ⟨rfl, HB.out⟩
set_option maxHeartbeats 8000000 in
theorem keys_same (k : Ky) (n : Int) (w : World) (hky : kyB k) (hs : shK k = true) : Calls Try.prog 7 #[kyV k, kyV k, .int .u8 n] w fun e w' => e = .returned (.bool true) ∧ Below w.heap.size w w' := by
  have hly := hky
  have he := fun w => eql_ky k k w
  rw [eqK_iff.2 rfl] at he
  obtain ⟨kb, hkb⟩ : ∃ b, w.heap.size = b := ⟨_, rfl⟩
  obtain ⟨V0, hV0⟩ : ∃ W, w.alloc (.cells (kC k) 30) = W := ⟨_, rfl⟩
  have hv0 : Below w.heap.size w V0 := by rw [← hV0]; exact (Below.refl _ _).alloc (Nat.le_refl _) _
  have kv0 : Bk V0 kb 30 (kC k) := by rw [← hV0, ← hkb]; exact Bk.new _ _ _
  obtain ⟨jb, hjb⟩ : ∃ b, V0.heap.size = b := ⟨_, rfl⟩
  obtain ⟨W0, hW0⟩ : ∃ W, V0.alloc (.cells (kC k) 30) = W := ⟨_, rfl⟩
  have hb0 : Below w.heap.size w W0 := by rw [← hW0]; exact hv0.alloc hv0.size _
  have kk0 : Bk W0 kb 30 (kC k) := by rw [← hW0]; exact kv0.alloc _
  have jj0 : Bk W0 jb 30 (kC k) := by rw [← hW0, ← hjb]; exact Bk.new _ _ _
  have HB := Lib.hid hb0
  have HKK := Lib.hid kk0
  have HJJ := Lib.hid jj0
  clear hb0 kk0 jj0 hv0 kv0
  go_enter Try.func7, Try.ntmps7
  go_wp2_with fail
  try rw [hV0]
  try rw [hkb]
  try rw [hW0]
  try rw [hjb]
  refine (lb_new W0).mono ?_
  rintro e w1 ⟨a, rfl, hlb, hb⟩
  clear hW0 hV0
  have HKK := Lib.hid (HKK.out.heap (hb.block _ HKK.out.lt))
  have HJJ := Lib.hid (HJJ.out.heap (hb.block _ HJJ.out.lt))
  have HL : Hid (LB w.heap.size w1 a 0 []) := Lib.hid (by
    obtain ⟨C, h1, h2⟩ := hlb
    exact ⟨C, h1, fun b hb => Nat.le_trans HB.out.size (h2 b hb)⟩)
  have HB := Lib.hid (HB.out.trans (hb.mono HB.out.size))
  have HSH := Lib.hid (fun w => short_any k hky w)
  have HSJ := Lib.hid (fun w => short_any k hly w)
  clear hlb hb hkb hjb hky hly
  rw [hs] at HSH HSJ
  clear hs
  have HE := Lib.hid he
  clear he
  obtain ⟨db, ro, fm, no⟩ := k
  have HC := Lib.hid (HSH.out w1)
  have a0 : w1.cell? ⟨kb, 0, none⟩ = some (.string db) := HKK.out.cell 0
  have a1 : w1.cell? ⟨kb, 1, none⟩ = some (.string ro) := HKK.out.cell 1
  have a2 : w1.cell? ⟨kb, 2, none⟩ = some (.int .i64 fm) := HKK.out.cell 2
  have a3 : w1.cell? ⟨kb, 3, none⟩ = some (.string no) := HKK.out.cell 3
  have c0 : w1.cell? ⟨jb, 0, none⟩ = some (.string db) := HJJ.out.cell 0
  have c1 : w1.cell? ⟨jb, 1, none⟩ = some (.string ro) := HJJ.out.cell 1
  have c2 : w1.cell? ⟨jb, 2, none⟩ = some (.int .i64 fm) := HJJ.out.cell 2
  have c3 : w1.cell? ⟨jb, 3, none⟩ = some (.string no) := HJJ.out.cell 3
  go_wp2_with fail
  refine HC.out.mono ?_
  clear HC
  clear a0 a1 a2 a3 c0 c1 c2 c3
  rintro e w2 ⟨rfl, hb⟩
  have HKK := Lib.hid (HKK.out.heap (hb.block _ HKK.out.lt))
  have HJJ := Lib.hid (HJJ.out.heap (hb.block _ HJJ.out.lt))
  have HL := Lib.hid (HL.out.below hb)
  have HB := Lib.hid (HB.out.trans (hb.mono HB.out.size))
  clear hb
  have HC := Lib.hid (HSJ.out w2)
  have a0 : w2.cell? ⟨kb, 0, none⟩ = some (.string db) := HKK.out.cell 0
  have a1 : w2.cell? ⟨kb, 1, none⟩ = some (.string ro) := HKK.out.cell 1
  have a2 : w2.cell? ⟨kb, 2, none⟩ = some (.int .i64 fm) := HKK.out.cell 2
  have a3 : w2.cell? ⟨kb, 3, none⟩ = some (.string no) := HKK.out.cell 3
  have c0 : w2.cell? ⟨jb, 0, none⟩ = some (.string db) := HJJ.out.cell 0
  have c1 : w2.cell? ⟨jb, 1, none⟩ = some (.string ro) := HJJ.out.cell 1
  have c2 : w2.cell? ⟨jb, 2, none⟩ = some (.int .i64 fm) := HJJ.out.cell 2
  have c3 : w2.cell? ⟨jb, 3, none⟩ = some (.string no) := HJJ.out.cell 3
  go_wp2_with fail
  refine HC.out.mono ?_
  clear HC
  clear a0 a1 a2 a3 c0 c1 c2 c3
  rintro e w3 ⟨rfl, hb⟩
  have HKK := Lib.hid (HKK.out.heap (hb.block _ HKK.out.lt))
  have HJJ := Lib.hid (HJJ.out.heap (hb.block _ HJJ.out.lt))
  have HL := Lib.hid (HL.out.below hb)
  have HB := Lib.hid (HB.out.trans (hb.mono HB.out.size))
  clear hb
  have he := HE.out
  have a0 : w3.cell? ⟨kb, 0, none⟩ = some (.string db) := HKK.out.cell 0
  have a1 : w3.cell? ⟨kb, 1, none⟩ = some (.string ro) := HKK.out.cell 1
  have a2 : w3.cell? ⟨kb, 2, none⟩ = some (.int .i64 fm) := HKK.out.cell 2
  have a3 : w3.cell? ⟨kb, 3, none⟩ = some (.string no) := HKK.out.cell 3
  have c0 : w3.cell? ⟨jb, 0, none⟩ = some (.string db) := HJJ.out.cell 0
  have c1 : w3.cell? ⟨jb, 1, none⟩ = some (.string ro) := HJJ.out.cell 1
  have c2 : w3.cell? ⟨jb, 2, none⟩ = some (.int .i64 fm) := HJJ.out.cell 2
  have c3 : w3.cell? ⟨jb, 3, none⟩ = some (.string no) := HJJ.out.cell 3
  go_wp2_with fail
  refine (known_any _).mono ?_
  rintro e wz ⟨rfl, hb⟩
  have HB := Lib.hid (HB.out.trans (hb.mono HB.out.size))
  clear hb
  go_wp2
  go_ret
  exact ⟨rfl, HB.out⟩
set_option maxHeartbeats 32000000 in
theorem keys_main (k l : Ky) (n : Int) (w : World) (hky : kyB k) (hly : kyB l) (hn : 0 ≤ n ∧ n ≤ 255) (hs : shK k = true) (ht : shK l = true) (hab : k ≠ l) : Calls Try.prog 7 #[kyV k, kyV l, .int .u8 n] w fun e w' => e = .returned (.bool true) ∧ Below w.heap.size w w' := by
  have HFK := Lib.hid (hky.fit hs)
  have HFL := Lib.hid (hly.fit ht)
  have HAB := Lib.hid hab
  obtain ⟨m, hm⟩ : ∃ m : Nat, 1 + n % 20 = (m : Int) := ⟨(1 + n % 20).toNat, by omega⟩
  have hmr : 1 ≤ m ∧ m ≤ 20 := by omega
  have he := fun w => eql_ky k l w
  rw [show eqK k l = false from by
    cases h : eqK k l with
    | false => rfl
    | true => exact absurd (eqK_iff.1 h) hab] at he
  have he2 := fun w => eql_ky l l w
  rw [eqK_iff.2 rfl] at he2
  obtain ⟨kb, hkb⟩ : ∃ b, w.heap.size = b := ⟨_, rfl⟩
  obtain ⟨V0, hV0⟩ : ∃ W, w.alloc (.cells (kC k) 30) = W := ⟨_, rfl⟩
  have hv0 : Below w.heap.size w V0 := by rw [← hV0]; exact (Below.refl _ _).alloc (Nat.le_refl _) _
  have kv0 : Bk V0 kb 30 (kC k) := by rw [← hV0, ← hkb]; exact Bk.new _ _ _
  obtain ⟨jb, hjb⟩ : ∃ b, V0.heap.size = b := ⟨_, rfl⟩
  obtain ⟨W0, hW0⟩ : ∃ W, V0.alloc (.cells (kC l) 30) = W := ⟨_, rfl⟩
  have hb0 : Below w.heap.size w W0 := by rw [← hW0]; exact hv0.alloc hv0.size _
  have kk0 : Bk W0 kb 30 (kC k) := by rw [← hW0]; exact kv0.alloc _
  have jj0 : Bk W0 jb 30 (kC l) := by rw [← hW0, ← hjb]; exact Bk.new _ _ _
  have HB := Lib.hid hb0
  have HKK := Lib.hid kk0
  have HJJ := Lib.hid jj0
  clear hb0 kk0 jj0 hv0 kv0
  go_enter Try.func7, Try.ntmps7
  go_wp2_with fail
  try rw [hV0]
  try rw [hkb]
  try rw [hW0]
  try rw [hjb]
  refine (lb_new W0).mono ?_
  rintro e w1 ⟨a, rfl, hlb, hb⟩
  clear hW0 hV0
  have HKK := Lib.hid (HKK.out.heap (hb.block _ HKK.out.lt))
  have HJJ := Lib.hid (HJJ.out.heap (hb.block _ HJJ.out.lt))
  have HL : Hid (LB w.heap.size w1 a 0 []) := Lib.hid (by
    obtain ⟨C, h1, h2⟩ := hlb
    exact ⟨C, h1, fun b hb => Nat.le_trans HB.out.size (h2 b hb)⟩)
  have HB := Lib.hid (HB.out.trans (hb.mono HB.out.size))
  have HSH := Lib.hid (fun w => short_any k hky w)
  have HSJ := Lib.hid (fun w => short_any l hly w)
  clear hlb hb hkb hjb hky hly
  rw [hs] at HSH
  rw [ht] at HSJ
  clear hs ht hab
  have HE := Lib.hid he
  have HE2 := Lib.hid he2
  clear he he2
  obtain ⟨db, ro, fm, no⟩ := k
  obtain ⟨eb, er, ef, en⟩ := l
  have HC := Lib.hid (HSH.out w1)
  have a0 : w1.cell? ⟨kb, 0, none⟩ = some (.string db) := HKK.out.cell 0
  have a1 : w1.cell? ⟨kb, 1, none⟩ = some (.string ro) := HKK.out.cell 1
  have a2 : w1.cell? ⟨kb, 2, none⟩ = some (.int .i64 fm) := HKK.out.cell 2
  have a3 : w1.cell? ⟨kb, 3, none⟩ = some (.string no) := HKK.out.cell 3
  have c0 : w1.cell? ⟨jb, 0, none⟩ = some (.string eb) := HJJ.out.cell 0
  have c1 : w1.cell? ⟨jb, 1, none⟩ = some (.string er) := HJJ.out.cell 1
  have c2 : w1.cell? ⟨jb, 2, none⟩ = some (.int .i64 ef) := HJJ.out.cell 2
  have c3 : w1.cell? ⟨jb, 3, none⟩ = some (.string en) := HJJ.out.cell 3
  go_wp2_with fail
  refine HC.out.mono ?_
  clear HC
  clear a0 a1 a2 a3 c0 c1 c2 c3
  rintro e w2 ⟨rfl, hb⟩
  have HKK := Lib.hid (HKK.out.heap (hb.block _ HKK.out.lt))
  have HJJ := Lib.hid (HJJ.out.heap (hb.block _ HJJ.out.lt))
  have HL := Lib.hid (HL.out.below hb)
  have HB := Lib.hid (HB.out.trans (hb.mono HB.out.size))
  clear hb
  have HC := Lib.hid (HSJ.out w2)
  have a0 : w2.cell? ⟨kb, 0, none⟩ = some (.string db) := HKK.out.cell 0
  have a1 : w2.cell? ⟨kb, 1, none⟩ = some (.string ro) := HKK.out.cell 1
  have a2 : w2.cell? ⟨kb, 2, none⟩ = some (.int .i64 fm) := HKK.out.cell 2
  have a3 : w2.cell? ⟨kb, 3, none⟩ = some (.string no) := HKK.out.cell 3
  have c0 : w2.cell? ⟨jb, 0, none⟩ = some (.string eb) := HJJ.out.cell 0
  have c1 : w2.cell? ⟨jb, 1, none⟩ = some (.string er) := HJJ.out.cell 1
  have c2 : w2.cell? ⟨jb, 2, none⟩ = some (.int .i64 ef) := HJJ.out.cell 2
  have c3 : w2.cell? ⟨jb, 3, none⟩ = some (.string en) := HJJ.out.cell 3
  go_wp2_with fail
  refine HC.out.mono ?_
  clear HC
  clear a0 a1 a2 a3 c0 c1 c2 c3
  rintro e w3 ⟨rfl, hb⟩
  have HKK := Lib.hid (HKK.out.heap (hb.block _ HKK.out.lt))
  have HJJ := Lib.hid (HJJ.out.heap (hb.block _ HJJ.out.lt))
  have HL := Lib.hid (HL.out.below hb)
  have HB := Lib.hid (HB.out.trans (hb.mono HB.out.size))
  clear hb
  have he := HE.out
  have a0 : w3.cell? ⟨kb, 0, none⟩ = some (.string db) := HKK.out.cell 0
  have a1 : w3.cell? ⟨kb, 1, none⟩ = some (.string ro) := HKK.out.cell 1
  have a2 : w3.cell? ⟨kb, 2, none⟩ = some (.int .i64 fm) := HKK.out.cell 2
  have a3 : w3.cell? ⟨kb, 3, none⟩ = some (.string no) := HKK.out.cell 3
  have c0 : w3.cell? ⟨jb, 0, none⟩ = some (.string eb) := HJJ.out.cell 0
  have c1 : w3.cell? ⟨jb, 1, none⟩ = some (.string er) := HJJ.out.cell 1
  have c2 : w3.cell? ⟨jb, 2, none⟩ = some (.int .i64 ef) := HJJ.out.cell 2
  have c3 : w3.cell? ⟨jb, 3, none⟩ = some (.string en) := HJJ.out.cell 3
  go_wp2
  clear he a0 a1 a2 a3 c0 c1 c2 c3
  go_loopg [9] m (fun gk u9 wx => ∃ i : Nat, u9 = .int .i64 (i : Int) ∧ i + gk = m ∧ LB w.heap.size wx a (2 * i) (twoS (db, ro, fm, no) (eb, er, ef, en) i) ∧ Bk wx kb 30 (kC (db, ro, fm, no)) ∧ Bk wx jb 30 (kC (eb, er, ef, en)) ∧ Below w.heap.size w wx)
  case atStart => exact ⟨0, rfl, by omega, HL.out, HKK.out, HJJ.out, HB.out⟩
  case round =>
    obtain ⟨i, rfl, hi, hlb, hkk, hjj, hb⟩ := hrel
    clear HL HKK HB HJJ
    have HL := Lib.hid hlb
    have HKK := Lib.hid hkk
    have HJJ := Lib.hid hjj
    have HB := Lib.hid hb
    clear hlb hkk hjj hb
    cases gk with
    | succ gk1 =>
      obtain ⟨e, hev⟩ : ∃ e, 2 * i = e := ⟨_, rfl⟩
      obtain ⟨d, hod⟩ : ∃ d, 2 * i + 1 = d := ⟨_, rfl⟩
      obtain ⟨i1, hi1⟩ : ∃ j, i + 1 = j := ⟨_, rfl⟩
      have l1 : (i : Int) < (m : Int) := by omega
      have wk : IntKind.i64.wrap ((i : Int) + 1) = (i1 : Int) := by rw [show (i : Int) + 1 = (i1 : Int) by omega]; exact IntWalk.i64_in _ (by omega)
      have we : IntKind.i64.wrap (2 * (i : Int)) = (e : Int) := by rw [show 2 * (i : Int) = (e : Int) by omega]; exact IntWalk.i64_in _ (by omega)
      have wd : IntKind.i64.wrap ((e : Int) + 1) = (d : Int) := by rw [show (e : Int) + 1 = (d : Int) by omega]; exact IntWalk.i64_in _ (by omega)
      have HI : Hid (i1 + gk1 = m ∧ e ≤ 40 ∧ d ≤ 41 ∧ i ≤ 20 ∧ e + 1 + 1 = 2 * i1) := Lib.hid (by omega)
      have HAE := Lib.hid (ask_ev HAB.out i)
      rw [hev] at HAE
      have HAO := Lib.hid (ask_od HAB.out i)
      rw [hod, hi1] at HAO
      rw [hev] at HL
      clear hev hod hi hi1 hm hmr hn
      have HC := Lib.hid (lb_ask HL.out (by have := HI.out; omega) _ HFK.out (e : Int) ⟨by omega, by have := HI.out; omega⟩)
      rw [HAE.out] at HC
      have a0 : wr.cell? ⟨kb, 0, none⟩ = some (.string db) := HKK.out.cell 0
      have a1 : wr.cell? ⟨kb, 1, none⟩ = some (.string ro) := HKK.out.cell 1
      have a2 : wr.cell? ⟨kb, 2, none⟩ = some (.int .i64 fm) := HKK.out.cell 2
      have a3 : wr.cell? ⟨kb, 3, none⟩ = some (.string no) := HKK.out.cell 3
      have c0 : wr.cell? ⟨jb, 0, none⟩ = some (.string eb) := HJJ.out.cell 0
      have c1 : wr.cell? ⟨jb, 1, none⟩ = some (.string er) := HJJ.out.cell 1
      have c2 : wr.cell? ⟨jb, 2, none⟩ = some (.int .i64 ef) := HJJ.out.cell 2
      have c3 : wr.cell? ⟨jb, 3, none⟩ = some (.string en) := HJJ.out.cell 3
      go_wp2_with fail
      refine HC.out.mono ?_
      clear HC
      clear a0 a1 a2 a3 c0 c1 c2 c3
      rintro e w4 ⟨rfl, hs⟩
      have HKK := Lib.hid (hs.kf.bk HKK.out)
      have HJJ := Lib.hid (hs.kf.bk HJJ.out)
      have HL := Lib.hid hs.lb
      have HB := Lib.hid (HB.out.trans hs.bel)
      clear hs
      have HC := Lib.hid (lb_ask HL.out (by have := HI.out; omega) _ HFL.out (d : Int) ⟨by omega, by have := HI.out; omega⟩)
      rw [HAO.out] at HC
      have a0 : w4.cell? ⟨kb, 0, none⟩ = some (.string db) := HKK.out.cell 0
      have a1 : w4.cell? ⟨kb, 1, none⟩ = some (.string ro) := HKK.out.cell 1
      have a2 : w4.cell? ⟨kb, 2, none⟩ = some (.int .i64 fm) := HKK.out.cell 2
      have a3 : w4.cell? ⟨kb, 3, none⟩ = some (.string no) := HKK.out.cell 3
      have c0 : w4.cell? ⟨jb, 0, none⟩ = some (.string eb) := HJJ.out.cell 0
      have c1 : w4.cell? ⟨jb, 1, none⟩ = some (.string er) := HJJ.out.cell 1
      have c2 : w4.cell? ⟨jb, 2, none⟩ = some (.int .i64 ef) := HJJ.out.cell 2
      have c3 : w4.cell? ⟨jb, 3, none⟩ = some (.string en) := HJJ.out.cell 3
      go_wp2_with fail
      refine HC.out.mono ?_
      clear HC
      clear a0 a1 a2 a3 c0 c1 c2 c3
      rintro e w5 ⟨rfl, hs⟩
      have HKK := Lib.hid (hs.kf.bk HKK.out)
      have HJJ := Lib.hid (hs.kf.bk HJJ.out)
      have HL := Lib.hid hs.lb
      have HB := Lib.hid (HB.out.trans hs.bel)
      clear hs
      go_wp2
      go_roundg gk1
      case measure => exact Nat.lt_succ_self _
      case rel => exact ⟨i1, rfl, HI.out.1, by have := HL.out; rw [HI.out.2.2.2.2] at this; exact this, HKK.out, HJJ.out, HB.out⟩
    | zero =>
      have hie : i = m := by omega
      subst hie
      have l1 : ¬ ((i : Int) < (i : Int)) := by omega
      obtain ⟨m1, hm1⟩ : ∃ m1, i = m1 + 1 := ⟨i - 1, by omega⟩
      obtain ⟨L, hL, hll⟩ := land_two HAB.out m1
      obtain ⟨M, hM, hml⟩ := land_od (eb, er, ef, en) m1
      rw [← hm1] at hL hM
      have HLD := Lib.hid (lead_two (eb, er, ef, en) m1)
      have HWT := Lib.hid (wait_two (eb, er, ef, en) m1)
      rw [← hm1] at HLD HWT
      have HLA := Lib.hid hL
      have HLO := Lib.hid hM
      have HLL := Lib.hid hll
      have HML := Lib.hid hml
      obtain ⟨mo, hmo⟩ : ∃ x, 2 * m1 + 1 = x := ⟨_, rfl⟩
      rw [hmo] at HWT
      obtain ⟨mm, hmm⟩ : ∃ x, 2 * i = x := ⟨_, rfl⟩
      have w2m : IntKind.i64.wrap (2 * (i : Int)) = (mm : Int) := by rw [show 2 * (i : Int) = (mm : Int) by omega]; exact IntWalk.i64_in _ (by omega)
      have w2o : IntKind.i64.wrap ((mm : Int) - 1) = (mo : Int) := by rw [show (mm : Int) - 1 = (mo : Int) by omega]; exact IntWalk.i64_in _ (by omega)
      have wm1 : IntKind.i64.wrap ((i : Int) - 1) = (m1 : Int) := by rw [show (i : Int) - 1 = (m1 : Int) by omega]; exact IntWalk.i64_in _ (by omega)
      have HR : Hid (2 * i ≤ 40 ∧ mo ≤ 40) := Lib.hid (by omega)
      clear hi hm hm1 hmr hn hL hM hll hml hmo hmm
      have HC := Lib.hid (lb_land HL.out (by have := HR.out; omega) _ HFK.out)
      rw [HLA.out] at HC
      have a0 : wr.cell? ⟨kb, 0, none⟩ = some (.string db) := HKK.out.cell 0
      have a1 : wr.cell? ⟨kb, 1, none⟩ = some (.string ro) := HKK.out.cell 1
      have a2 : wr.cell? ⟨kb, 2, none⟩ = some (.int .i64 fm) := HKK.out.cell 2
      have a3 : wr.cell? ⟨kb, 3, none⟩ = some (.string no) := HKK.out.cell 3
      have c0 : wr.cell? ⟨jb, 0, none⟩ = some (.string eb) := HJJ.out.cell 0
      have c1 : wr.cell? ⟨jb, 1, none⟩ = some (.string er) := HJJ.out.cell 1
      have c2 : wr.cell? ⟨jb, 2, none⟩ = some (.int .i64 ef) := HJJ.out.cell 2
      have c3 : wr.cell? ⟨jb, 3, none⟩ = some (.string en) := HJJ.out.cell 3
      go_wp2_with fail
      refine HC.out.mono ?_
      clear HC
      clear a0 a1 a2 a3 c0 c1 c2 c3
      rintro e w4 ⟨v1, rfl, hi1, hs⟩
      have HKK := Lib.hid (hs.kf.bk HKK.out)
      have HJJ := Lib.hid (hs.kf.bk HJJ.out)
      have HL := Lib.hid hs.lb
      have HB := Lib.hid (HB.out.trans hs.bel)
      obtain ⟨va1, vc1, hv⟩ := hi1.form
      rw [HLL.out] at hv
      subst hv
      clear hs hi1
      have HC := Lib.hid (lb_lead HL.out _ HFL.out)
      rw [HLD.out] at HC
      have a0 : w4.cell? ⟨kb, 0, none⟩ = some (.string db) := HKK.out.cell 0
      have a1 : w4.cell? ⟨kb, 1, none⟩ = some (.string ro) := HKK.out.cell 1
      have a2 : w4.cell? ⟨kb, 2, none⟩ = some (.int .i64 fm) := HKK.out.cell 2
      have a3 : w4.cell? ⟨kb, 3, none⟩ = some (.string no) := HKK.out.cell 3
      have c0 : w4.cell? ⟨jb, 0, none⟩ = some (.string eb) := HJJ.out.cell 0
      have c1 : w4.cell? ⟨jb, 1, none⟩ = some (.string er) := HJJ.out.cell 1
      have c2 : w4.cell? ⟨jb, 2, none⟩ = some (.int .i64 ef) := HJJ.out.cell 2
      have c3 : w4.cell? ⟨jb, 3, none⟩ = some (.string en) := HJJ.out.cell 3
      go_wp2_with fail
      refine HC.out.mono ?_
      clear HC
      clear a0 a1 a2 a3 c0 c1 c2 c3
      rintro e w5 ⟨rfl, hb⟩
      have HKK := Lib.hid (HKK.out.heap (hb.block _ HKK.out.lt))
      have HJJ := Lib.hid (HJJ.out.heap (hb.block _ HJJ.out.lt))
      have HL := Lib.hid (HL.out.below hb)
      have HB := Lib.hid (HB.out.trans (hb.mono HB.out.size))
      clear hb
      have HC := Lib.hid (lb_waits HL.out (mo : Int) ⟨by omega, by have := HR.out; omega⟩)
      rw [HWT.out] at HC
      have HD : Hid (Calls Try.prog 21 #[ptr a, .int .i64 (mo : Int)] w5 (RdP (.tuple #[.agg #[.string eb, .string er, .int .i64 ef, .string en], .bool true]) w5)) := HC
      clear HC
      have HC := HD
      clear HD
      have a0 : w5.cell? ⟨kb, 0, none⟩ = some (.string db) := HKK.out.cell 0
      have a1 : w5.cell? ⟨kb, 1, none⟩ = some (.string ro) := HKK.out.cell 1
      have a2 : w5.cell? ⟨kb, 2, none⟩ = some (.int .i64 fm) := HKK.out.cell 2
      have a3 : w5.cell? ⟨kb, 3, none⟩ = some (.string no) := HKK.out.cell 3
      have c0 : w5.cell? ⟨jb, 0, none⟩ = some (.string eb) := HJJ.out.cell 0
      have c1 : w5.cell? ⟨jb, 1, none⟩ = some (.string er) := HJJ.out.cell 1
      have c2 : w5.cell? ⟨jb, 2, none⟩ = some (.int .i64 ef) := HJJ.out.cell 2
      have c3 : w5.cell? ⟨jb, 3, none⟩ = some (.string en) := HJJ.out.cell 3
      go_wp2_with fail
      refine HC.out.mono ?_
      clear HC
      clear a0 a1 a2 a3 c0 c1 c2 c3
      rintro e w6 ⟨rfl, hb⟩
      have HKK := Lib.hid (HKK.out.heap (hb.block _ HKK.out.lt))
      have HJJ := Lib.hid (HJJ.out.heap (hb.block _ HJJ.out.lt))
      have HL := Lib.hid (HL.out.below hb)
      have HB := Lib.hid (HB.out.trans (hb.mono HB.out.size))
      clear hb
      obtain ⟨W9, hW9⟩ : ∃ W, w6.alloc (.cells #[.string eb, .string er, .int .i64 ef, .string en] 30) = W := ⟨_, rfl⟩
      obtain ⟨xb, hxb⟩ : ∃ b, w6.heap.size = b := ⟨_, rfl⟩
      have b9 : Below w6.heap.size w6 W9 := by rw [← hW9]; exact (Below.refl _ _).alloc (Nat.le_refl _) _
      have HXX := Lib.hid (show Bk W9 xb 30 (kC (eb, er, ef, en)) by rw [← hW9, ← hxb]; exact Bk.new _ _ _)
      have HKK := Lib.hid (HKK.out.heap (b9.block _ HKK.out.lt))
      have HJJ := Lib.hid (HJJ.out.heap (b9.block _ HJJ.out.lt))
      have HL := Lib.hid (HL.out.below b9)
      have HB := Lib.hid (HB.out.trans (b9.mono HB.out.size))
      clear b9
      have HC := Lib.hid (lb_land HL.out (by have := HR.out; omega) _ HFL.out)
      rw [HLO.out] at HC
      have a0 : W9.cell? ⟨kb, 0, none⟩ = some (.string db) := HKK.out.cell 0
      have a1 : W9.cell? ⟨kb, 1, none⟩ = some (.string ro) := HKK.out.cell 1
      have a2 : W9.cell? ⟨kb, 2, none⟩ = some (.int .i64 fm) := HKK.out.cell 2
      have a3 : W9.cell? ⟨kb, 3, none⟩ = some (.string no) := HKK.out.cell 3
      have c0 : W9.cell? ⟨jb, 0, none⟩ = some (.string eb) := HJJ.out.cell 0
      have c1 : W9.cell? ⟨jb, 1, none⟩ = some (.string er) := HJJ.out.cell 1
      have c2 : W9.cell? ⟨jb, 2, none⟩ = some (.int .i64 ef) := HJJ.out.cell 2
      have c3 : W9.cell? ⟨jb, 3, none⟩ = some (.string en) := HJJ.out.cell 3
      go_wp2_with fail
      try rw [hW9]
      try rw [hxb]
      refine HC.out.mono ?_
      clear HC
      clear a0 a1 a2 a3 c0 c1 c2 c3
      rintro e w7 ⟨v2, rfl, hi2, hs⟩
      have HKK := Lib.hid (hs.kf.bk HKK.out)
      have HJJ := Lib.hid (hs.kf.bk HJJ.out)
      have HL := Lib.hid hs.lb
      have HB := Lib.hid (HB.out.trans hs.bel)
      obtain ⟨va2, vc2, hv⟩ := hi2.form
      rw [HML.out] at hv
      subst hv
      have HXX := Lib.hid (hs.kf.bk HXX.out)
      clear hs hi2 hW9 hxb
      have he2 := HE2.out
      have a0 : w7.cell? ⟨kb, 0, none⟩ = some (.string db) := HKK.out.cell 0
      have a1 : w7.cell? ⟨kb, 1, none⟩ = some (.string ro) := HKK.out.cell 1
      have a2 : w7.cell? ⟨kb, 2, none⟩ = some (.int .i64 fm) := HKK.out.cell 2
      have a3 : w7.cell? ⟨kb, 3, none⟩ = some (.string no) := HKK.out.cell 3
      have c0 : w7.cell? ⟨jb, 0, none⟩ = some (.string eb) := HJJ.out.cell 0
      have c1 : w7.cell? ⟨jb, 1, none⟩ = some (.string er) := HJJ.out.cell 1
      have c2 : w7.cell? ⟨jb, 2, none⟩ = some (.int .i64 ef) := HJJ.out.cell 2
      have c3 : w7.cell? ⟨jb, 3, none⟩ = some (.string en) := HJJ.out.cell 3
      have x0 : w7.cell? ⟨xb, 0, none⟩ = some (.string eb) := HXX.out.cell 0
      have x1 : w7.cell? ⟨xb, 1, none⟩ = some (.string er) := HXX.out.cell 1
      have x2 : w7.cell? ⟨xb, 2, none⟩ = some (.int .i64 ef) := HXX.out.cell 2
      have x3 : w7.cell? ⟨xb, 3, none⟩ = some (.string en) := HXX.out.cell 3
      have HO : Hid (Calls Try.prog 23 #[ptr a] w7 fun e w' => e = .returned (.int .i64 0) ∧ w7 = w') := Lib.hid (lb_open HL.out)
      go_wp2_with fail
      refine HO.out.mono ?_
      rintro e wq ⟨rfl, rfl⟩
      go_wp2_with fail
      refine (known_any _).mono ?_
      rintro e wz ⟨rfl, hb⟩
      have HB := Lib.hid (HB.out.trans (hb.mono HB.out.size))
      clear hb
      go_wp2
      go_ret
      exact ⟨rfl, HB.out⟩
theorem keys_law (v u : Value) (n : Int) (w : World) (hf : FitsK w v) (hg : FitsK w u) (hn : (Lit.int .u8 n).wf = true) :
    Calls Try.prog 7 #[v, u, .int .u8 n] w fun e w' => e = .returned (.bool true) ∧ Below w.heap.size w w' := by
  obtain ⟨k, rfl, hk⟩ := hf
  obtain ⟨l, rfl, hl⟩ := hg
  cases hs : shK k with
  | false => exact keys_long1 k l n w hk hl hs
  | true =>
    cases ht : shK l with
    | false => exact keys_long2 k l n w hk hl hs ht
    | true =>
      by_cases e : k = l
      · subst e; exact keys_same k n w hk hs
      · exact keys_main k l n w hk hl (wf8 n hn) hs ht e
end Go.Proofs.Ytldpamlmnganmaa.FL
