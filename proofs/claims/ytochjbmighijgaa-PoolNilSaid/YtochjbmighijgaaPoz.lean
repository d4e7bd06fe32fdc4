/- Package pool, its code: a pool that is none. Conditions: none. -/
import Derived.Test.YtochjbmighijgaaPqa
namespace Go.Proofs.Ytochjbmighijgaa.PO
open Go.ChangeShapes Go.WideShapes Go.ChangeAt Go.RowKit Go.Maps Go.ChangeMaps
open Go.Proofs.Ytochjbmighijgaa.SL Go.Proofs.Ytochjbmighijgaa.RW
open Go.Proofs.Ytochjbmighijgaa.LN (tkY tkN pu OI IS RdP)
set_option maxRecDepth 100000
set_option linter.unusedVariables false
set_option linter.unusedSimpArgs false

section
variable {w : World} {v : Value}
set_option maxHeartbeats 4000000 in
theorem ask_nb (h : Nb w v) (k : ByteArray) (c now : Int) : Calls Try.prog 8 #[v, .string k, nV c, nV now] w (RdP (.tuple #[loV 0 0 false, .bool false, nV 12]) w) := by
  obtain ⟨W0, hW0⟩ : ∃ W, w.alloc (.cells #[nV 0, nV 0, .bool false] 30) = W := ⟨_, rfl⟩
  obtain ⟨kb, hkb⟩ : ∃ b, w.heap.size = b := ⟨_, rfl⟩
  have HB0 : Hid (Below w.heap.size w W0) := Lib.hid (by rw [← hW0]; exact (Below.refl _ _).alloc (Nat.le_refl _) _)
  have HK0 : Hid (Bk W0 kb 30 #[nV 0, nV 0, .bool false]) := Lib.hid (by rw [← hW0, ← hkb]; exact Bk.new _ _ _)
  have HG := Lib.hid (given_no (h.below HB0.out))
  have k0 := HK0.out
  have q0 := k0.cell 0
  have qf0 := k0.frozen 0
  have q1 := k0.cell 1
  have qf1 := k0.frozen 1
  have q2 := k0.cell 2
  have qf2 := k0.frozen 2
  simp at q0 q1 q2
  have HSZ : Hid (w.heap.size ≤ kb) := Lib.hid (Nat.le_of_eq hkb)
  clear h k0
  go_enter Try.func8, Try.ntmps8
  go_wp2_with fail
  try rw [hW0]
  try rw [hkb]
  refine HG.out.mono ?_
  rintro e w' ⟨rfl, rfl⟩
  go_wp2
  have k5 := ((HK0.out.set_ 0 (nV 0)).set_ 1 (nV 0)).set_ 2 (.bool false)
  have e0 := k5.cell 0
  have e1 := k5.cell 1
  have e2 := k5.cell 2
  simp at e0 e1 e2
  refine bodyPost_ret (v := .tuple #[loV 0 0 false, .bool false, nV 12]) (by simp [results, Try.results8, go_sem, e0, e1, e2]) rfl ?_
  exact ⟨rfl, ((HB0.out.setCell (p := ⟨kb, 0, none⟩) HSZ.out _).setCell (p := ⟨kb, 1, none⟩) HSZ.out _).setCell (p := ⟨kb, 2, none⟩) HSZ.out _⟩
set_option maxHeartbeats 4000000 in
theorem sits_nb (h : Nb w v) (c : Int) : Calls Try.prog 26 #[v, nV c] w (RdP (.tuple #[.agg #[.pointer none, nV 0, .bool false], .bool false]) w) := by
  obtain ⟨W0, hW0⟩ : ∃ W, w.alloc (.cells #[.pointer none, nV 0, .bool false] 59) = W := ⟨_, rfl⟩
  obtain ⟨kb, hkb⟩ : ∃ b, w.heap.size = b := ⟨_, rfl⟩
  have HB0 : Hid (Below w.heap.size w W0) := Lib.hid (by rw [← hW0]; exact (Below.refl _ _).alloc (Nat.le_refl _) _)
  have HK0 : Hid (Bk W0 kb 59 #[.pointer none, nV 0, .bool false]) := Lib.hid (by rw [← hW0, ← hkb]; exact Bk.new _ _ _)
  have HG := Lib.hid (given_no (h.below HB0.out))
  have k0 := HK0.out
  have q0 := k0.cell 0
  have qf0 := k0.frozen 0
  have q1 := k0.cell 1
  have qf1 := k0.frozen 1
  have q2 := k0.cell 2
  have qf2 := k0.frozen 2
  simp at q0 q1 q2
  have HSZ : Hid (w.heap.size ≤ kb) := Lib.hid (Nat.le_of_eq hkb)
  clear h k0
  go_enter Try.func26, Try.ntmps26
  go_wp2_with fail
  try rw [hW0]
  try rw [hkb]
  refine HG.out.mono ?_
  rintro e w' ⟨rfl, rfl⟩
  go_wp2
  have k5 := ((HK0.out.set_ 0 (.pointer none)).set_ 1 (nV 0)).set_ 2 (.bool false)
  have e0 := k5.cell 0
  have e1 := k5.cell 1
  have e2 := k5.cell 2
  simp at e0 e1 e2
  refine bodyPost_ret (v := .tuple #[.agg #[.pointer none, nV 0, .bool false], .bool false]) (by simp [results, Try.results26, go_sem, e0, e1, e2]) rfl ?_
  exact ⟨rfl, ((HB0.out.setCell (p := ⟨kb, 0, none⟩) HSZ.out _).setCell (p := ⟨kb, 1, none⟩) HSZ.out _).setCell (p := ⟨kb, 2, none⟩) HSZ.out _⟩
set_option maxHeartbeats 4000000 in
theorem lost_nb (h : Nb w v) (n now : Int) : Calls Try.prog 11 #[v, nV n, nV now] w (RdP (.tuple #[nV 0, loV 0 0 false, .bool false]) w) := by
  obtain ⟨W0, hW0⟩ : ∃ W, w.alloc (.cells #[nV 0, nV 0, .bool false] 30) = W := ⟨_, rfl⟩
  obtain ⟨kb, hkb⟩ : ∃ b, w.heap.size = b := ⟨_, rfl⟩
  have HB0 : Hid (Below w.heap.size w W0) := Lib.hid (by rw [← hW0]; exact (Below.refl _ _).alloc (Nat.le_refl _) _)
  have HK0 : Hid (Bk W0 kb 30 #[nV 0, nV 0, .bool false]) := Lib.hid (by rw [← hW0, ← hkb]; exact Bk.new _ _ _)
  have HG := Lib.hid (given_no (h.below HB0.out))
  have k0 := HK0.out
  have q0 := k0.cell 0
  have qf0 := k0.frozen 0
  have q1 := k0.cell 1
  have qf1 := k0.frozen 1
  have q2 := k0.cell 2
  have qf2 := k0.frozen 2
  simp at q0 q1 q2
  have HSZ : Hid (w.heap.size ≤ kb) := Lib.hid (Nat.le_of_eq hkb)
  clear h k0
  go_enter Try.func11, Try.ntmps11
  go_wp2_with fail
  try rw [hW0]
  try rw [hkb]
  refine HG.out.mono ?_
  rintro e w' ⟨rfl, rfl⟩
  go_wp2
  have k5 := ((HK0.out.set_ 0 (nV 0)).set_ 1 (nV 0)).set_ 2 (.bool false)
  have e0 := k5.cell 0
  have e1 := k5.cell 1
  have e2 := k5.cell 2
  simp at e0 e1 e2
  refine bodyPost_ret (v := .tuple #[nV 0, loV 0 0 false, .bool false]) (by simp [results, Try.results11, go_sem, e0, e1, e2]) rfl ?_
  exact ⟨rfl, ((HB0.out.setCell (p := ⟨kb, 0, none⟩) HSZ.out _).setCell (p := ⟨kb, 1, none⟩) HSZ.out _).setCell (p := ⟨kb, 2, none⟩) HSZ.out _⟩
set_option maxHeartbeats 4000000 in
theorem give_nb (h : Nb w v) (c now : Int) : Calls Try.prog 9 #[v, nV c, nV now] w (RdP (.tuple #[loV 0 0 false, .bool false]) w) := by
  obtain ⟨W0, hW0⟩ : ∃ W, w.alloc (.cells #[nV 0, nV 0, .bool false] 30) = W := ⟨_, rfl⟩
  obtain ⟨kb, hkb⟩ : ∃ b, w.heap.size = b := ⟨_, rfl⟩
  have HB0 : Hid (Below w.heap.size w W0) := Lib.hid (by rw [← hW0]; exact (Below.refl _ _).alloc (Nat.le_refl _) _)
  have HK0 : Hid (Bk W0 kb 30 #[nV 0, nV 0, .bool false]) := Lib.hid (by rw [← hW0, ← hkb]; exact Bk.new _ _ _)
  have HKS : Hid (w.heap.size ≤ kb) := Lib.hid (Nat.le_of_eq hkb)
  have HS := Lib.hid (sits_nb (h.below HB0.out) c)
  obtain ⟨px, hpx⟩ : ∃ x : Option Addr, none = x := ⟨_, rfl⟩
  obtain ⟨pn, hpn⟩ : ∃ n : Int, 0 = n := ⟨_, rfl⟩
  obtain ⟨pb, hpb⟩ : ∃ b : Bool, false = b := ⟨_, rfl⟩
  rw [show (Value.agg #[.pointer none, nV 0, .bool false]) = .agg #[.pointer px, nV pn, .bool pb] by rw [hpx, hpn, hpb]] at HS
  clear hpx hpn hpb
  clear h
  go_enter Try.func9, Try.ntmps9
  go_wp2_with fail
  try rw [hW0]
  try rw [hkb]
  refine HS.out.mono ?_
  rintro e w1 ⟨rfl, hb1⟩
  have HB1 := Lib.hid hb1
  clear hb1
  obtain ⟨W2, hW2⟩ : ∃ W, w1.alloc (.cells #[.pointer px, nV pn, .bool pb] 59) = W := ⟨_, rfl⟩
  obtain ⟨sb, hsb⟩ : ∃ b, w1.heap.size = b := ⟨_, rfl⟩
  have HB2 : Hid (Below w1.heap.size w1 W2) := Lib.hid (by rw [← hW2]; exact (Below.refl _ _).alloc (Nat.le_refl _) _)
  have HK2 : Hid (Bk W2 sb 59 #[.pointer px, nV pn, .bool pb]) := Lib.hid (by rw [← hW2, ← hsb]; exact Bk.new _ _ _)
  have HKL := Lib.hid ((HK0.out.heap (HB1.out.block kb HK0.out.lt)).heap (HB2.out.block kb (Nat.lt_of_lt_of_le HK0.out.lt HB1.out.size)))
  have k0 := HKL.out
  have q0 := k0.cell 0
  have qf0 := k0.frozen 0
  have q1 := k0.cell 1
  have qf1 := k0.frozen 1
  have q2 := k0.cell 2
  have qf2 := k0.frozen 2
  simp at q0 q1 q2
  clear k0
  have HBB := Lib.hid ((HB0.out.trans (HB1.out.mono HB0.out.size)).trans (HB2.out.mono (Nat.le_trans HB0.out.size HB1.out.size)))
  have HSZ : Hid (w.heap.size ≤ kb) := Lib.hid HKS.out
  go_wp2_with fail
  try rw [hsb]
  try rw [hW2]
  have k5 := ((HKL.out.set_ 0 (nV 0)).set_ 1 (nV 0)).set_ 2 (.bool false)
  have e0 := k5.cell 0
  have e1 := k5.cell 1
  have e2 := k5.cell 2
  simp at e0 e1 e2
  refine bodyPost_ret (v := .tuple #[loV 0 0 false, .bool false]) (by simp [results, Try.results9, go_sem, e0, e1, e2]) rfl ?_
  exact ⟨rfl, ((HBB.out.setCell (p := ⟨kb, 0, none⟩) HSZ.out _).setCell (p := ⟨kb, 1, none⟩) HSZ.out _).setCell (p := ⟨kb, 2, none⟩) HSZ.out _⟩
set_option maxHeartbeats 4000000 in
theorem leave_nb (h : Nb w v) (c now : Int) : Calls Try.prog 12 #[v, nV c, nV now] w (RdP (.tuple #[nV 0, loV 0 0 false, .bool false]) w) := by
  obtain ⟨W0, hW0⟩ : ∃ W, w.alloc (.cells #[nV 0, nV 0, .bool false] 30) = W := ⟨_, rfl⟩
  obtain ⟨kb, hkb⟩ : ∃ b, w.heap.size = b := ⟨_, rfl⟩
  have HB0 : Hid (Below w.heap.size w W0) := Lib.hid (by rw [← hW0]; exact (Below.refl _ _).alloc (Nat.le_refl _) _)
  have HK0 : Hid (Bk W0 kb 30 #[nV 0, nV 0, .bool false]) := Lib.hid (by rw [← hW0, ← hkb]; exact Bk.new _ _ _)
  have HKS : Hid (w.heap.size ≤ kb) := Lib.hid (Nat.le_of_eq hkb)
  have HS := Lib.hid (sits_nb (h.below HB0.out) c)
  obtain ⟨px, hpx⟩ : ∃ x : Option Addr, none = x := ⟨_, rfl⟩
  obtain ⟨pn, hpn⟩ : ∃ n : Int, 0 = n := ⟨_, rfl⟩
  obtain ⟨pb, hpb⟩ : ∃ b : Bool, false = b := ⟨_, rfl⟩
  rw [show (Value.agg #[.pointer none, nV 0, .bool false]) = .agg #[.pointer px, nV pn, .bool pb] by rw [hpx, hpn, hpb]] at HS
  clear hpx hpn hpb
  clear h
  go_enter Try.func12, Try.ntmps12
  go_wp2_with fail
  try rw [hW0]
  try rw [hkb]
  refine HS.out.mono ?_
  rintro e w1 ⟨rfl, hb1⟩
  have HB1 := Lib.hid hb1
  clear hb1
  obtain ⟨W2, hW2⟩ : ∃ W, w1.alloc (.cells #[.pointer px, nV pn, .bool pb] 59) = W := ⟨_, rfl⟩
  obtain ⟨sb, hsb⟩ : ∃ b, w1.heap.size = b := ⟨_, rfl⟩
  have HB2 : Hid (Below w1.heap.size w1 W2) := Lib.hid (by rw [← hW2]; exact (Below.refl _ _).alloc (Nat.le_refl _) _)
  have HK2 : Hid (Bk W2 sb 59 #[.pointer px, nV pn, .bool pb]) := Lib.hid (by rw [← hW2, ← hsb]; exact Bk.new _ _ _)
  have HKL := Lib.hid ((HK0.out.heap (HB1.out.block kb HK0.out.lt)).heap (HB2.out.block kb (Nat.lt_of_lt_of_le HK0.out.lt HB1.out.size)))
  have k0 := HKL.out
  have q0 := k0.cell 0
  have qf0 := k0.frozen 0
  have q1 := k0.cell 1
  have qf1 := k0.frozen 1
  have q2 := k0.cell 2
  have qf2 := k0.frozen 2
  simp at q0 q1 q2
  clear k0
  have HBB := Lib.hid ((HB0.out.trans (HB1.out.mono HB0.out.size)).trans (HB2.out.mono (Nat.le_trans HB0.out.size HB1.out.size)))
  have HSZ : Hid (w.heap.size ≤ kb) := Lib.hid HKS.out
  go_wp2_with fail
  try rw [hsb]
  try rw [hW2]
  have k5 := ((HKL.out.set_ 0 (nV 0)).set_ 1 (nV 0)).set_ 2 (.bool false)
  have e0 := k5.cell 0
  have e1 := k5.cell 1
  have e2 := k5.cell 2
  simp at e0 e1 e2
  refine bodyPost_ret (v := .tuple #[nV 0, loV 0 0 false, .bool false]) (by simp [results, Try.results12, go_sem, e0, e1, e2]) rfl ?_
  exact ⟨rfl, ((HBB.out.setCell (p := ⟨kb, 0, none⟩) HSZ.out _).setCell (p := ⟨kb, 1, none⟩) HSZ.out _).setCell (p := ⟨kb, 2, none⟩) HSZ.out _⟩
set_option maxHeartbeats 4000000 in
theorem holds_nb (h : Nb w v) (c : Int) : Calls Try.prog 16 #[v, nV c] w (RdP (.tuple #[nV 0, .bool false]) w) := by
  have HS := Lib.hid (sits_nb h c)
  have fin : ∀ {w1 w2 : World}, Below w.heap.size w w1 → Below w1.heap.size w1 w2 → Below w.heap.size w w2 := fun h1 h2 => h1.trans (h2.mono h1.size)
  obtain ⟨px, hpx⟩ : ∃ x : Option Addr, none = x := ⟨_, rfl⟩
  obtain ⟨pn, hpn⟩ : ∃ n : Int, 0 = n := ⟨_, rfl⟩
  obtain ⟨pb, hpb⟩ : ∃ b : Bool, false = b := ⟨_, rfl⟩
  rw [show (Value.agg #[.pointer none, nV 0, .bool false]) = .agg #[.pointer px, nV pn, .bool pb] by rw [hpx, hpn, hpb]] at HS
  rw [show (Value.tuple #[nV 0, .bool false]) = .tuple #[nV pn, .bool false] by rw [hpn]]
  clear h hpx hpn hpb
  go_enter Try.func16, Try.ntmps16
  go_wp2_with fail
  refine HS.out.mono ?_
  rintro e w1 ⟨rfl, hb1⟩
  have HB1 := Lib.hid hb1
  clear hb1
  obtain ⟨W2, hW2⟩ : ∃ W, w1.alloc (.cells #[.pointer px, nV pn, .bool pb] 59) = W := ⟨_, rfl⟩
  obtain ⟨sb, hsb⟩ : ∃ b, w1.heap.size = b := ⟨_, rfl⟩
  have HB0 : Hid (Below w1.heap.size w1 W2) := Lib.hid (by rw [← hW2]; exact (Below.refl _ _).alloc (Nat.le_refl _) _)
  have HK0 : Hid (Bk W2 sb 59 #[.pointer px, nV pn, .bool pb]) := Lib.hid (by rw [← hW2, ← hsb]; exact Bk.new _ _ _)
  have k0 := HK0.out
  have s0 := k0.cell 0
  have sf0 := k0.frozen 0
  have s1 := k0.cell 1
  have sf1 := k0.frozen 1
  have s2 := k0.cell 2
  have sf2 := k0.frozen 2
  simp at s0 s1 s2
  clear k0
  go_wp2_with fail
  try rw [hW2]
  try rw [hsb]
  try clear hW2 hsb
  go_quiet (fail)
  go_wp2
  go_ret2
  exact ⟨rfl, fin HB1.out (HB0.out.trans ((below_drewN _ _ _).mono HB0.out.size))⟩
theorem pin_nb (h : Nb w v) (c : Int) : Calls Try.prog 10 #[v, nV c] w (RdP (.bool false) w) := by
  have HS := Lib.hid (sits_nb h c)
  have fin : ∀ {w1 w2 : World}, Below w.heap.size w w1 → Below w1.heap.size w1 w2 → Below w.heap.size w w2 := fun h1 h2 => h1.trans (h2.mono h1.size)
  obtain ⟨px, hpx⟩ : ∃ x : Option Addr, none = x := ⟨_, rfl⟩
  obtain ⟨pn, hpn⟩ : ∃ n : Int, 0 = n := ⟨_, rfl⟩
  obtain ⟨pb, hpb⟩ : ∃ b : Bool, false = b := ⟨_, rfl⟩
  rw [show (Value.agg #[.pointer none, nV 0, .bool false]) = .agg #[.pointer px, nV pn, .bool pb] by rw [hpx, hpn, hpb]] at HS
  clear h hpx hpn hpb
  go_enter Try.func10, Try.ntmps10
  go_wp2_with fail
  refine HS.out.mono ?_
  rintro e w1 ⟨rfl, hb1⟩
  have HB1 := Lib.hid hb1
  clear hb1
  obtain ⟨W2, hW2⟩ : ∃ W, w1.alloc (.cells #[.pointer px, nV pn, .bool pb] 59) = W := ⟨_, rfl⟩
  obtain ⟨sb, hsb⟩ : ∃ b, w1.heap.size = b := ⟨_, rfl⟩
  have HB0 : Hid (Below w1.heap.size w1 W2) := Lib.hid (by rw [← hW2]; exact (Below.refl _ _).alloc (Nat.le_refl _) _)
  have HK0 : Hid (Bk W2 sb 59 #[.pointer px, nV pn, .bool pb]) := Lib.hid (by rw [← hW2, ← hsb]; exact Bk.new _ _ _)
  go_wp2_with fail
  try rw [hW2]
  try rw [hsb]
  go_wp2
  go_ret
  exact ⟨rfl, fin HB1.out HB0.out⟩
theorem count_nb (h : Nb w v) (k : ByteArray) : Calls Try.prog 15 #[v, .string k] w (RdP (.tuple #[nV 0, nV 0, nV 0]) w) := by
  have HG := Lib.hid (given_no h)
  clear h
  go_enter Try.func15, Try.ntmps15
  go_wp2_with fail
  refine HG.out.mono ?_
  rintro e w1 ⟨rfl, rfl⟩
  go_wp2
  refine bodyPost_ret (v := .tuple #[nV 0, nV 0, nV 0]) (by simp [results, Try.results15, go_sem]) rfl ?_
  exact ⟨rfl, Below.refl _ _⟩
theorem copy_nb (h : Nb w v) : Calls Try.prog 18 #[v] w (RdP (.pointer none) w) := by
  have HG := Lib.hid (given_no h)
  clear h
  go_enter Try.func18, Try.ntmps18
  go_wp2_with fail
  refine HG.out.mono ?_
  rintro e w1 ⟨rfl, rfl⟩
  go_wp2
  go_ret
  exact ⟨rfl, Below.refl _ _⟩
theorem gather_nb (h : Nb w v) (f : Value) : Calls Try.prog 32 #[v, f] w (RdP (.slice none 0 0) w) := by
  have HG := Lib.hid (given_no h)
  clear h
  go_enter Try.func32, Try.ntmps32
  go_wp2_with fail
  refine HG.out.mono ?_
  rintro e w1 ⟨rfl, rfl⟩
  go_wp2
  go_ret
  exact ⟨rfl, Below.refl _ _⟩
theorem late_nb (h : Nb w v) (now : Int) : Calls Try.prog 13 #[v, nV now] w (RdP (.slice none 0 0) w) := by
  obtain ⟨W0, hW0⟩ : ∃ W, w.alloc (.cells #[nV now] 3) = W := ⟨_, rfl⟩
  obtain ⟨nb, hnb⟩ : ∃ b, w.heap.size = b := ⟨_, rfl⟩
  have HB0 : Hid (Below w.heap.size w W0) := Lib.hid (by rw [← hW0]; exact (Below.refl _ _).alloc (Nat.le_refl _) _)
  have HK0 : Hid (Bk W0 nb 3 #[nV now]) := Lib.hid (by rw [← hW0, ← hnb]; exact Bk.new _ _ _)
  have HG := Lib.hid (fun f => gather_nb (h.below HB0.out) f)
  clear h
  go_enter Try.func13, Try.ntmps13
  go_wp2_with fail
  try rw [hW0]
  try rw [hnb]
  refine (HG.out _).mono ?_
  rintro e w1 ⟨rfl, hb⟩
  have HB := Lib.hid (HB0.out.trans (hb.mono HB0.out.size))
  clear hb
  go_wp2
  go_loopg [13] 0 (fun gk u13 wx => u13 = .int .i64 0 ∧ gk = 0 ∧ Hid (Below w.heap.size w wx))
  case atStart => exact ⟨rfl, rfl, HB⟩
  case round =>
    obtain ⟨rfl, rfl, HB⟩ := hrel
    go_wp2
    go_ret
    exact ⟨rfl, HB.out⟩
set_option maxHeartbeats 4000000 in
theorem reap_nb (h : Nb w v) (now : Int) : Calls Try.prog 14 #[v, nV now] w (RdP (.slice none 0 0) w) := by
  obtain ⟨po, rfl⟩ : ∃ po : Option Addr, v = .pointer po := by
    rcases h with rfl | ⟨b, rfl, _⟩ <;> exact ⟨_, rfl⟩
  obtain ⟨W0, hW0⟩ : ∃ W, w.alloc (.cells #[.pointer po] 23) = W := ⟨_, rfl⟩
  obtain ⟨pb, hpb⟩ : ∃ b, w.heap.size = b := ⟨_, rfl⟩
  have HB0 : Hid (Below w.heap.size w W0) := Lib.hid (by rw [← hW0]; exact (Below.refl _ _).alloc (Nat.le_refl _) _)
  have HK0 : Hid (Bk W0 pb 23 #[.pointer po]) := Lib.hid (by rw [← hW0, ← hpb]; exact Bk.new _ _ _)
  obtain ⟨W1, hW1⟩ : ∃ W, W0.alloc (.cells #[nV now] 3) = W := ⟨_, rfl⟩
  obtain ⟨nb, hnb⟩ : ∃ b, W0.heap.size = b := ⟨_, rfl⟩
  have HB1 : Hid (Below W0.heap.size W0 W1) := Lib.hid (by rw [← hW1]; exact (Below.refl _ _).alloc (Nat.le_refl _) _)
  have HK1 : Hid (Bk W1 nb 3 #[nV now]) := Lib.hid (by rw [← hW1, ← hnb]; exact Bk.new _ _ _)
  have HKP : Hid (Bk W1 pb 23 #[.pointer po]) := Lib.hid (HK0.out.heap (HB1.out.block pb HK0.out.lt))
  have HBB := Lib.hid (HB0.out.trans (HB1.out.mono HB0.out.size))
  have h1 := h.below HBB.out
  have p0 := HKP.out.cell 0
  have k0 := HK1.out.cell 0
  simp at p0 k0
  have HG := Lib.hid (fun W (hc : Nb W (.pointer po)) => given_no hc)
  clear h
  go_enter Try.func14, Try.ntmps14
  go_wp2_with fail
  try rw [hW0]
  try rw [hpb]
  try rw [hW1]
  try rw [hnb]
  clear hW0 hW1 hpb hnb
  refine wp_region_held_drew (S := fun W => W.cell? ⟨pb, 0, none⟩ = some (.pointer po) ∧ Nb W (.pointer po)) (by kernel_rfl) ?_ (fun hS => ?_)
  · exact ⟨p0, h1⟩
  refine tkY 0 ?_ rfl hS ?_ ?_
  rotate_left
  · intro wz hz
    obtain ⟨z0, z1⟩ := hz
    go_simp
    all_goals first | with_reducible rfl | omega
  try simp only [Act.put, pu]
  refine wpAnyH_ready (rs := [1]) (by kernel_rfl) (by simp) (AllReadyH.cons rfl (fun K' hK' => ?_) AllReadyH.nil)
  go_simp
  refine (HG.out _ hS.2).mono ?_
  rintro e w2 ⟨rfl, rfl⟩
  refine hK'.out _ _ ?_ (fun hSn => ?_)
  · exact hS
  clear hK' K' hS
  have hS := hSn
  clear hSn
  try simp only [Act.put, pu]
  refine tkY 2 (.bool true) rfl hS ?_ ?_
  · intro wz hz
    go_simp
    all_goals first | with_reducible rfl | omega
  try simp only [Act.put, pu]
  refine tkY 3 (.bool true) rfl hS ?_ ?_
  · intro wz hz
    go_simp
    all_goals first | with_reducible rfl | omega
  try simp only [Act.put, pu]
  refine tkN 4 rfl hS ?_
  try simp only [Act.put, pu]
  refine tkN 5 rfl hS ?_
  try simp only [Act.put, pu]
  refine tkN 6 rfl hS ?_
  try simp only [Act.put, pu]
  refine tkN 7 rfl hS ?_
  try simp only [Act.put, pu]
  refine tkN 8 rfl hS ?_
  try simp only [Act.put, pu]
  refine tkN 9 rfl hS ?_
  try simp only [Act.put, pu]
  refine tkN 10 rfl hS ?_
  try simp only [Act.put, pu]
  refine tkY 11 (.bool true) rfl hS ?_ ?_
  · intro wz hz
    go_simp
    all_goals first | with_reducible rfl | omega
  try simp only [Act.put, pu]
  refine wpAnyH_done (by kernel_rfl) ?_ _
  clear hS
  go_wp2
  go_ret
  exact ⟨rfl, HBB.out.drew⟩
end
end Go.Proofs.Ytochjbmighijgaa.PO
