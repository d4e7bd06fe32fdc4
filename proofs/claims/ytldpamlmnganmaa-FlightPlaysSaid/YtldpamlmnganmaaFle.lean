/- Package flight: find, sits. Conditions: how long keys are. -/
import Derived.Test.YtldpamlmnganmaaFld
namespace Go.Proofs.Ytldpamlmnganmaa.FL
open Go.ChangeShapes Go.WideShapes Go.ChangeAt Go.RowKit Go.Maps Go.ChangeMaps
open Go.Proofs.Ytldpamlmnganmaa.SL
set_option maxRecDepth 100000
set_option linter.unusedVariables false
set_option linter.unusedSimpArgs false

def FinP (o : Option Fr) (w : World) (e : Ending) (w' : World) : Prop := e = .returned (.tuple #[atF o, .bool o.isSome]) ∧ Below w.heap.size w w'
set_option maxHeartbeats 4000000 in
theorem find_any {w : World} {a N : Nat} {C : Bs} {S : List Fl} (h : CB w a N C S) (k : Ky) (hk : FitK k) :
    Calls Try.prog 30 #[ptr a, kyV k] w (FinP (C.F k) w) := by
  obtain ⟨W0, hW0⟩ : ∃ W, w.alloc (.cells (kC k) 30) = W := ⟨_, rfl⟩
  obtain ⟨kb, hkb⟩ : ∃ b, w.heap.size = b := ⟨_, rfl⟩
  have b0 : Below w.heap.size w W0 := by rw [← hW0]; exact (Below.refl _ _).alloc (Nat.le_refl _) _
  have kk : Bk W0 kb 30 (kC k) := by rw [← hW0, ← hkb]; exact Bk.new _ _ _
  obtain ⟨c0, c1, c2⟩ := (h.below b0).cells
  have hl := (h.below b0).look k hk
  unfold FinP
  have hld := ((h.below b0).below ((Below.refl W0.heap.size W0).drew)).look k hk
  generalize atF (C.F k) = v at *
  generalize (C.F k).isSome = b at *
  have HB := Lib.hid b0
  obtain ⟨db, ro, fm, no⟩ := k
  have a0 : W0.cell? ⟨kb, 0, none⟩ = some (.string db) := kk.cell 0
  have a1 : W0.cell? ⟨kb, 1, none⟩ = some (.string ro) := kk.cell 1
  have a2 : W0.cell? ⟨kb, 2, none⟩ = some (.int .i64 fm) := kk.cell 2
  have a3 : W0.cell? ⟨kb, 3, none⟩ = some (.string no) := kk.cell 3
  clear h hk b0 kk c2
  go_enter Try.func30, Try.ntmps30
  go_wp2_with fail
  try rw [hW0]
  try rw [hkb]
  refine (given_yes _ _ c0).mono ?_
  rintro e w' ⟨rfl, rfl⟩
  go_wp2_with fail
  refine wp_region_held_drew (S := (fun w' => w'.cell? ⟨a, 1, none⟩ = some (.map (some C.fb)) ∧ w'.cell? ⟨kb, 0, none⟩ = some (.string db) ∧ w'.cell? ⟨kb, 1, none⟩ = some (.string ro) ∧ w'.cell? ⟨kb, 2, none⟩ = some (.int .i64 fm) ∧ w'.cell? ⟨kb, 3, none⟩ = some (.string no) ∧ (Instr.lookup 60 (.map (some C.fb)) (kyV (db, ro, fm, no)) true).run Try.prog w' = .ok (.tuple #[v, .bool b]) w' ∧ Below W0.heap.size W0 w')) (by kernel_rfl) ?_ (fun hS => ?_)
  · exact ⟨c1, a0, a1, a2, a3, hld, (Below.refl _ _).drew⟩
  refine tkY 0 ?_ rfl hS ?_ ?_
  rotate_left
  · intro wz hz
    obtain ⟨z1, z2, z3, z4, z5, z6, z7⟩ := hz
    go_simp
    all_goals first | with_reducible rfl | omega
  try simp only [Act.put, pu]
  refine tkY 1 ?_ rfl hS ?_ ?_
  rotate_left
  · intro wz hz
    obtain ⟨z1, z2, z3, z4, z5, z6, z7⟩ := hz
    go_simp
    all_goals first | with_reducible rfl | omega
  try simp only [Act.put, pu]
  refine tkY 2 ?_ rfl hS ?_ ?_
  rotate_left
  · intro wz hz
    obtain ⟨z1, z2, z3, z4, z5, z6, z7⟩ := hz
    go_simp
    all_goals first | with_reducible rfl | omega
  try simp only [Act.put, pu]
  refine tkY 3 ?_ rfl hS ?_ ?_
  rotate_left
  · intro wz hz
    obtain ⟨z1, z2, z3, z4, z5, z6, z7⟩ := hz
    go_simp
    all_goals first | with_reducible rfl | omega
  try simp only [Act.put, pu]
  refine tkY 4 ?_ rfl hS ?_ ?_
  rotate_left
  · intro wz hz
    obtain ⟨z1, z2, z3, z4, z5, z6, z7⟩ := hz
    go_simp
    all_goals first | with_reducible rfl | omega
  try simp only [Act.put, pu]
  refine tkY 5 ?_ rfl hS ?_ ?_
  rotate_left
  · intro wz hz
    obtain ⟨z1, z2, z3, z4, z5, z6, z7⟩ := hz
    go_simp
    all_goals first | with_reducible rfl | omega
  try simp only [Act.put, pu]
  refine tkY 6 ?_ rfl hS ?_ ?_
  rotate_left
  · intro wz hz
    obtain ⟨z1, z2, z3, z4, z5, z6, z7⟩ := hz
    go_simp
    all_goals first | with_reducible rfl | omega
  try simp only [Act.put, pu]
  refine tkY 7 ?_ rfl hS ?_ ?_
  rotate_left
  · intro wz hz
    obtain ⟨z1, z2, z3, z4, z5, z6, z7⟩ := hz
    go_simp
    all_goals first | with_reducible rfl | omega
  try simp only [Act.put, pu]
  refine tkY 8 ?_ rfl hS ?_ ?_
  rotate_left
  · intro wz hz
    obtain ⟨z1, z2, z3, z4, z5, z6, z7⟩ := hz
    go_simp
    all_goals first | with_reducible rfl | omega
  try simp only [Act.put, pu]
  refine tkY 9 ?_ rfl hS ?_ ?_
  rotate_left
  · intro wz hz
    obtain ⟨z1, z2, z3, z4, z5, z6, z7⟩ := hz
    go_simp
    all_goals first | with_reducible rfl | omega
  try simp only [Act.put, pu]
  refine tkY 10 ?_ rfl hS ?_ ?_
  rotate_left
  · intro wz hz
    obtain ⟨z1, z2, z3, z4, z5, z6, z7⟩ := hz
    go_simp
    all_goals first | with_reducible rfl | omega
  try simp only [Act.put, pu]
  refine wpAnyH_done (by kernel_rfl) ?_ _
  clear hS
  go_wp2
  go_ret2
  exact ⟨rfl, HB.out.drew⟩
def SitP (o : Option (Nat × Int)) (w : World) (e : Ending) (w' : World) : Prop := e = .returned (.tuple #[seO o, .bool o.isSome]) ∧ Below w.heap.size w w'
set_option maxHeartbeats 4000000 in
theorem sits_any {w : World} {a N : Nat} {C : Bs} {S : List Fl} (h : CB w a N C S) (c : Int) (hc : I9 c) :
    Calls Try.prog 33 #[ptr a, .int .i64 c] w (SitP (C.Z c) w) := by
  obtain ⟨W0, hW0⟩ : ∃ W, w.alloc (.cells #[.pointer none, .int .i64 0] 68) = W := ⟨_, rfl⟩
  obtain ⟨kb, hkb⟩ : ∃ b, w.heap.size = b := ⟨_, rfl⟩
  have b0 : Below w.heap.size w W0 := by rw [← hW0]; exact (Below.refl _ _).alloc (Nat.le_refl _) _
  have kk : Bk W0 kb 68 #[.pointer none, .int .i64 0] := by rw [← hW0, ← hkb]; exact Bk.new _ _ _
  obtain ⟨c0, c1, c2⟩ := (h.below b0).cells
  have hl := (h.below b0).lookS c hc
  unfold SitP
  generalize (C.Z c).isSome = b at *
  unfold seO at hl ⊢
  obtain ⟨px, hpx⟩ : ∃ x, pV ((C.Z c).map (·.1)) = .pointer x := by cases C.Z c <;> exact ⟨_, rfl⟩
  rw [hpx] at hl ⊢
  generalize ((C.Z c).map (·.2)).getD 0 = pn at *
  obtain ⟨W1, hW1⟩ : ∃ W, W0.alloc (.cells #[.pointer px, .int .i64 pn] 68) = W := ⟨_, rfl⟩
  obtain ⟨sb, hsb⟩ : ∃ b, W0.heap.size = b := ⟨_, rfl⟩
  have b1 : Below W0.heap.size W0 W1 := by rw [← hW1]; exact (Below.refl _ _).alloc (Nat.le_refl _) _
  have k1 : Bk W1 sb 68 #[.pointer px, .int .i64 pn] := by rw [← hW1, ← hsb]; exact Bk.new _ _ _
  have k0 : Bk W1 kb 68 #[.pointer none, .int .i64 0] := by rw [← hW1]; exact kk.alloc _
  have s0 : W1.cell? ⟨sb, 0, none⟩ = some (.pointer px) := k1.cell 0
  have s1 : W1.cell? ⟨sb, 1, none⟩ = some (.int .i64 pn) := k1.cell 1
  have r0 : W1.cell? ⟨kb, 0, none⟩ = some (.pointer none) := k0.cell 0
  have r1 : W1.cell? ⟨kb, 1, none⟩ = some (.int .i64 0) := k0.cell 1
  have f0 := k0.frozen 0
  have f1 := k0.frozen 1
  have K0 := Lib.hid k0
  have HB := Lib.hid (b0.trans (b1.mono b0.size))
  have HKB : Hid (w.heap.size ≤ kb) := Lib.hid (Nat.le_of_eq hkb)
  clear h hc b0 kk c1 b1 k1 k0 hpx
  go_enter Try.func33, Try.ntmps33
  go_wp2_with fail
  try rw [hW0]
  try rw [hkb]
  refine (given_yes _ _ c0).mono ?_
  rintro e w' ⟨rfl, rfl⟩
  go_wp2_with fail
  try rw [hW1]
  try rw [hsb]
  have k2 := (K0.out.set_ 0 (.pointer px)).set_ 1 (.int .i64 pn)
  have k3 := k2.cell 0
  have k4 := k2.cell 1
  simp at k3 k4
  refine bodyPost_ret (v := .tuple #[.agg #[.pointer px, .int .i64 pn], .bool b]) (by simp [results, Try.results33, go_sem, k3, k4]) rfl ?_
  exact ⟨rfl, (HB.out.setCell (p := ⟨kb, 0, none⟩) HKB.out _).setCell (p := ⟨kb, 1, none⟩) HKB.out _⟩
end Go.Proofs.Ytldpamlmnganmaa.FL
