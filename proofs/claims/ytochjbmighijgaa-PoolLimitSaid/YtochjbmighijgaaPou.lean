/- Package pool, its code: Leave. Conditions: how many calls there were. -/
import Derived.Test.YtochjbmighijgaaPot
namespace Go.Proofs.Ytochjbmighijgaa.PO
open Go.ChangeShapes Go.WideShapes Go.ChangeAt Go.RowKit Go.Maps Go.ChangeMaps
open Go.Proofs.Ytochjbmighijgaa.SL Go.Proofs.Ytochjbmighijgaa.RW
open Go.Proofs.Ytochjbmighijgaa.LN (tkY tkN pu OI IS RdP)
set_option maxRecDepth 100000
set_option linter.unusedVariables false
set_option linter.unusedSimpArgs false

open Go.Proofs.Ytochjbmighijgaa.LN (leaveS)
section
variable {B : Nat} {w w' : World} {a N : Nat} {C : Cf} {R : Raw}
set_option maxHeartbeats 4000000 in
theorem leave_none (h : PL B w a N C R) (c now : Int) (hc : I9 c) (hs : R.sm c = none) :
    Calls Try.prog 12 #[ptr a, nV c, nV now] w (RdP (.tuple #[nV 0, loV 0 0 false, .bool false]) w) := by
  obtain ⟨W0, hW0⟩ : ∃ W, w.alloc (.cells #[nV 0, nV 0, .bool false] 30) = W := ⟨_, rfl⟩
  obtain ⟨kb, hkb⟩ : ∃ b, w.heap.size = b := ⟨_, rfl⟩
  have HB0 : Hid (Below w.heap.size w W0) := Lib.hid (by rw [← hW0]; exact (Below.refl _ _).alloc (Nat.le_refl _) _)
  have HK0 : Hid (Bk W0 kb 30 #[nV 0, nV 0, .bool false]) := Lib.hid (by rw [← hW0, ← hkb]; exact Bk.new _ _ _)
  have HKS : Hid (w.heap.size ≤ kb) := Lib.hid (Nat.le_of_eq hkb)
  have HS := Lib.hid (sits_any (h.below HB0.out) c hc)
  rw [hs] at HS
  simp only [seO, Option.isSome_none] at HS
  obtain ⟨px, hpx⟩ : ∃ x : Option Addr, none = x := ⟨_, rfl⟩
  obtain ⟨pn, hpn⟩ : ∃ n : Int, 0 = n := ⟨_, rfl⟩
  obtain ⟨pb, hpb⟩ : ∃ b : Bool, false = b := ⟨_, rfl⟩
  rw [show (Value.agg #[.pointer none, nV 0, .bool false]) = .agg #[.pointer px, nV pn, .bool pb] by rw [hpx, hpn, hpb]] at HS
  clear hpx hpn hpb h hc hs
  go_enter Try.func12, Try.ntmps12
  go_wp2_with fail
  try rw [hW0]
  try rw [hkb]
  refine HS.out.mono ?_
  rintro e w1 ⟨rfl, hb1⟩
  have HB1 := Lib.hid hb1
  clear hb1
  obtain ⟨W2, hW2⟩ : ∃ W, w1.alloc (.cells #[.pointer px, nV pn, .bool pb] 59) = W := ⟨_, rfl⟩
  obtain ⟨sb, hsb⟩ : ∃ b, w1.heap.size = b := ⟨_, rfl⟩
  have HB2 : Hid (Below w1.heap.size w1 W2) := Lib.hid (by rw [← hW2]; exact (Below.refl _ _).alloc (Nat.le_refl _) _)
  have HK2 : Hid (Bk W2 sb 59 #[.pointer px, nV pn, .bool pb]) := Lib.hid (by rw [← hW2, ← hsb]; exact Bk.new _ _ _)
  have HKL := Lib.hid ((HK0.out.heap (HB1.out.block kb HK0.out.lt)).heap (HB2.out.block kb (Nat.lt_of_lt_of_le HK0.out.lt HB1.out.size)))
  have k0 := HKL.out
  have q0 := k0.cell 0
  have qf0 := k0.frozen 0
  have q1 := k0.cell 1
  have qf1 := k0.frozen 1
  have q2 := k0.cell 2
  have qf2 := k0.frozen 2
  simp at q0 q1 q2
  clear k0
  have HBB := Lib.hid ((HB0.out.trans (HB1.out.mono HB0.out.size)).trans (HB2.out.mono (Nat.le_trans HB0.out.size HB1.out.size)))
  have HSZ : Hid (w.heap.size ≤ kb) := Lib.hid HKS.out
  go_wp2_with fail
  try rw [hsb]
  try rw [hW2]
  have k5 := ((HKL.out.set_ 0 (nV 0)).set_ 1 (nV 0)).set_ 2 (.bool false)
  have e0 := k5.cell 0
  have e1 := k5.cell 1
  have e2 := k5.cell 2
  simp at e0 e1 e2
  refine bodyPost_ret (v := .tuple #[nV 0, loV 0 0 false, .bool false]) (by simp [results, Try.results12, go_sem, e0, e1, e2]) rfl ?_
  exact ⟨rfl, ((HBB.out.setCell (p := ⟨kb, 0, none⟩) HSZ.out _).setCell (p := ⟨kb, 1, none⟩) HSZ.out _).setCell (p := ⟨kb, 2, none⟩) HSZ.out _⟩
set_option maxHeartbeats 8000000 in
theorem leave_wait (h : PL B w a N C R) (c now : Int) (hc : I9 c) {g : Nat} {p : Bool} (hs : R.sm c = some (g, 0, p)) {q : Row} (hq : R.rows g = some q) :
    Calls Try.prog 12 #[ptr a, nV c, nV now] w fun e w' => e = .returned (.tuple #[nV 0, loV 0 0 false, .bool false]) ∧ PL B w' a N C { R with sm := upd R.sm c none, rows := upd R.rows g (some { q with line := (leaveS q.line c).1 }) } ∧ Fr B w w' := by
  obtain ⟨W0, hW0⟩ : ∃ W, w.alloc (.cells #[nV 0, nV 0, .bool false] 30) = W := ⟨_, rfl⟩
  obtain ⟨kb, hkb⟩ : ∃ b, w.heap.size = b := ⟨_, rfl⟩
  have HB0 : Hid (Below w.heap.size w W0) := Lib.hid (by rw [← hW0]; exact (Below.refl _ _).alloc (Nat.le_refl _) _)
  have HK0 : Hid (Bk W0 kb 30 #[nV 0, nV 0, .bool false]) := Lib.hid (by rw [← hW0, ← hkb]; exact Bk.new _ _ _)
  have HKS : Hid (w.heap.size ≤ kb) := Lib.hid (Nat.le_of_eq hkb)
  have HS := Lib.hid (sits_any (h.below HB0.out) c hc)
  rw [hs] at HS
  simp only [seO, Option.isSome_some] at HS
  have HH := Lib.hid h
  have HC := Lib.hid hc
  have HQ := Lib.hid hq
  have HBW := Lib.hid h.le
  clear h hc hs hq
  obtain ⟨pn, hpn⟩ : ∃ n : Int, n = 0 := ⟨_, rfl⟩
  go_enter Try.func12, Try.ntmps12
  go_wp2_with fail
  try rw [hW0]
  try rw [hkb]
  refine HS.out.mono ?_
  rintro e w1 ⟨rfl, hb1⟩
  have HB1 := Lib.hid hb1
  clear hb1
  obtain ⟨W2, hW2⟩ : ∃ W, w1.alloc (.cells #[ptr g, nV 0, .bool p] 59) = W := ⟨_, rfl⟩
  obtain ⟨sb, hsb⟩ : ∃ b, w1.heap.size = b := ⟨_, rfl⟩
  have HB2 : Hid (Below w1.heap.size w1 W2) := Lib.hid (by rw [← hW2]; exact (Below.refl _ _).alloc (Nat.le_refl _) _)
  have HK2 : Hid (Bk W2 sb 59 #[ptr g, nV 0, .bool p]) := Lib.hid (by rw [← hW2, ← hsb]; exact Bk.new _ _ _)
  have HKL := Lib.hid ((HK0.out.heap (HB1.out.block kb HK0.out.lt)).heap (HB2.out.block kb (Nat.lt_of_lt_of_le HK0.out.lt HB1.out.size)))
  have k1 := HK2.out
  have s0 := k1.cell 0
  have s1 := k1.cell 1
  have s2 := k1.cell 2
  simp at s0 s1 s2
  clear k1
  have HBB := Lib.hid ((HB0.out.trans (HB1.out.mono HB0.out.size)).trans (HB2.out.mono (Nat.le_trans HB0.out.size HB1.out.size)))
  have HSZ : Hid (w.heap.size ≤ kb) := Lib.hid HKS.out
  obtain ⟨M, hp⟩ := HH.out.below HBB.out
  have HP2 := Lib.hid hp
  have HF2 := Lib.hid (HH.out.fr HBB.out)
  have hr := hp.row g q HQ.out
  have x3 := hr.cells.2.2.2
  have HLE := Lib.hid (leave_row hr c)
  have HKC := Lib.hid (keyI c HC.out)
  clear hp hr
  go_wp2_with fail
  refine HLE.out.mono ?_
  rintro e w3 ⟨rfl, ht3⟩
  obtain ⟨⟨M3, hp3⟩, hf3⟩ := HP2.out.turn HQ.out ht3
  have HP3 := Lib.hid hp3
  have HF3 := Lib.hid (HF2.out.trans hf3)
  have HKL3 := Lib.hid (hf3.kt.bk HKL.out)
  obtain ⟨_, _, _, _, _, _, _, _, c8, _⟩ := hp3.cells
  clear ht3 hp3 hf3 x3
  go_wp2_with (at_delete; refine MV.wpList_del rfl _ _ 50 rfl 59 iK Try.underlying50 rfl HP3.out.ms _ _ rfl HKC.out ?_; intro w4 hm4 ht4; (obtain ⟨hp4, hf4⟩ := HP3.out.putS (Nat.le_refl N) c none hm4 ht4); have HP4 := Lib.hid (show PL B w4 a N C { R with sm := upd R.sm c none, rows := upd R.rows g (some { q with line := (leaveS q.line c).1 }) } from ⟨M3, hp4⟩); have HF4 := Lib.hid (HF3.out.trans hf4); (have k3 := hf4.kt.bk HKL3.out); have K3 := Lib.hid k3; (have q0 := k3.cell 0); (have qf0 := k3.frozen 0); (have q1 := k3.cell 1); (have qf1 := k3.frozen 1); (have q2 := k3.cell 2); (have qf2 := k3.frozen 2); (simp at q0 q1 q2); clear hm4 ht4 hp4 hf4 k3 c8)
  have k5 := ((K3.out.set_ 0 (nV 0)).set_ 1 (nV 0)).set_ 2 (.bool false)
  have e0 := k5.cell 0
  have e1 := k5.cell 1
  have e2 := k5.cell 2
  simp at e0 e1 e2
  refine bodyPost_ret (v := .tuple #[nV 0, loV 0 0 false, .bool false]) (by simp [results, Try.results12, go_sem, e0, e1, e2]) rfl ?_
  have hr := PL.cell3 HP4.out HF4.out HSZ.out HBW.out K3.out (nV 0) (nV 0) (.bool false)
  exact ⟨rfl, hr.1, hr.2⟩
set_option maxHeartbeats 8000000 in
theorem leave_held (h : PL B w a N C R) (c now : Int) (hc : I9 c) {g : Nat} {n : Int} {p : Bool} (hs : R.sm c = some (g, n, p)) (hn : n ≠ 0) {s : Int} {q : Row}
    (hlost : ∀ W, PL B W a N C R → Calls Try.prog 11 #[ptr a, nV n, nV now] W (LostP B W a N C R n g c s q)) :
    Calls Try.prog 12 #[ptr a, nV c, nV now] w fun e w' => ∃ (R' : Raw) (x y : Int) (z b : Bool), e = .returned (.tuple #[nV n, loV x y z, .bool b]) ∧ PL B w' a (N + 3) C R' ∧ Fr B w w' ∧ LostS R n g c s q R' x y z b := by
  obtain ⟨W0, hW0⟩ : ∃ W, w.alloc (.cells #[nV 0, nV 0, .bool false] 30) = W := ⟨_, rfl⟩
  obtain ⟨kb, hkb⟩ : ∃ b, w.heap.size = b := ⟨_, rfl⟩
  have HB0 : Hid (Below w.heap.size w W0) := Lib.hid (by rw [← hW0]; exact (Below.refl _ _).alloc (Nat.le_refl _) _)
  have HK0 : Hid (Bk W0 kb 30 #[nV 0, nV 0, .bool false]) := Lib.hid (by rw [← hW0, ← hkb]; exact Bk.new _ _ _)
  have HKS : Hid (w.heap.size ≤ kb) := Lib.hid (Nat.le_of_eq hkb)
  have HS := Lib.hid (sits_any (h.below HB0.out) c hc)
  rw [hs] at HS
  simp only [seO, Option.isSome_some] at HS
  have HH := Lib.hid h
  have HLO := Lib.hid hlost
  have HBW := Lib.hid h.le
  have hn0 : ¬ n = 0 := hn
  clear h hc hs hn hlost
  go_enter Try.func12, Try.ntmps12
  go_wp2_with fail
  try rw [hW0]
  try rw [hkb]
  refine HS.out.mono ?_
  rintro e w1 ⟨rfl, hb1⟩
  have HB1 := Lib.hid hb1
  clear hb1
  obtain ⟨W2, hW2⟩ : ∃ W, w1.alloc (.cells #[ptr g, nV n, .bool p] 59) = W := ⟨_, rfl⟩
  obtain ⟨sb, hsb⟩ : ∃ b, w1.heap.size = b := ⟨_, rfl⟩
  have HB2 : Hid (Below w1.heap.size w1 W2) := Lib.hid (by rw [← hW2]; exact (Below.refl _ _).alloc (Nat.le_refl _) _)
  have HK2 : Hid (Bk W2 sb 59 #[ptr g, nV n, .bool p]) := Lib.hid (by rw [← hW2, ← hsb]; exact Bk.new _ _ _)
  have HKL := Lib.hid ((HK0.out.heap (HB1.out.block kb HK0.out.lt)).heap (HB2.out.block kb (Nat.lt_of_lt_of_le HK0.out.lt HB1.out.size)))
  have k1 := HK2.out
  have s0 := k1.cell 0
  have s1 := k1.cell 1
  have s2 := k1.cell 2
  simp at s0 s1 s2
  clear k1
  have HBB := Lib.hid ((HB0.out.trans (HB1.out.mono HB0.out.size)).trans (HB2.out.mono (Nat.le_trans HB0.out.size HB1.out.size)))
  have HSZ : Hid (w.heap.size ≤ kb) := Lib.hid HKS.out
  have HP2 := Lib.hid (HH.out.below HBB.out)
  have HF2 := Lib.hid (HH.out.fr HBB.out)
  have HCA := Lib.hid (HLO.out _ HP2.out)
  go_wp2_with fail
  refine HCA.out.mono ?_
  rintro e w3 ⟨R', x, y, z, b, rfl, hp3, hf3, hls⟩
  have HLS := Lib.hid hls
  have HP3 := Lib.hid hp3
  have HF3 := Lib.hid (HF2.out.trans hf3)
  have HKL3 := Lib.hid (hf3.kt.bk HKL.out)
  have HK3S := Lib.hid (hf3.kt.bk HK2.out)
  have HSBL : Hid (sb < w3.heap.size) := Lib.hid HK3S.out.lt
  obtain ⟨w8, hw8⟩ : ∃ W, w3.alloc (.cells #[nV x, nV y, .bool z] 30) = W := ⟨_, rfl⟩
  obtain ⟨vb, hvb⟩ : ∃ b, w3.heap.size = b := ⟨_, rfl⟩
  have HB6 : Hid (Below w3.heap.size w3 w8) := Lib.hid (by rw [← hw8]; exact (Below.refl _ _).alloc (Nat.le_refl _) _)
  have HK6 : Hid (Bk w8 vb 30 #[nV x, nV y, .bool z]) := Lib.hid (by rw [← hw8, ← hvb]; exact Bk.new _ _ _)
  have HP8 := Lib.hid (HP3.out.below HB6.out)
  have HF8 := Lib.hid (HF3.out.trans (HP3.out.fr HB6.out))
  have HKL8 := Lib.hid (HKL3.out.heap (HB6.out.block kb HKL3.out.lt))
  have HK8L := Lib.hid (HK3S.out.heap (HB6.out.block sb HK3S.out.lt))
  have hneL : kb ≠ sb := fun e => by
    have h1 := HKL8.out
    have h2 := HK8L.out
    unfold Bk at h1 h2
    rw [e, h2] at h1
    injection h1 with h1
    injection h1 with _ h1
    exact absurd h1 (by decide)
  have hneV : kb ≠ vb := by have := HKL3.out.lt; omega
  clear hp3 hf3 hls
  have l8 := HK8L.out.cell 1
  have v80 := HK6.out.cell 0
  have v81 := HK6.out.cell 1
  have v82 := HK6.out.cell 2
  simp at l8 v80 v81 v82
  have HS3 := Lib.hid (fun (W : World) (p q r : Value) (hc : W.cell? ⟨sb, 1, none⟩ = some (nV n) ∧ W.cell? ⟨vb, 0, none⟩ = some (nV x) ∧ W.cell? ⟨vb, 1, none⟩ = some (nV y) ∧ W.cell? ⟨vb, 2, none⟩ = some (.bool z)) => show (((W.setCell ⟨kb, 0, none⟩ p).setCell ⟨kb, 1, none⟩ q).setCell ⟨kb, 2, none⟩ r).cell? ⟨sb, 1, none⟩ = some (nV n) ∧ (((W.setCell ⟨kb, 0, none⟩ p).setCell ⟨kb, 1, none⟩ q).setCell ⟨kb, 2, none⟩ r).cell? ⟨vb, 0, none⟩ = some (nV x) ∧ (((W.setCell ⟨kb, 0, none⟩ p).setCell ⟨kb, 1, none⟩ q).setCell ⟨kb, 2, none⟩ r).cell? ⟨vb, 1, none⟩ = some (nV y) ∧ (((W.setCell ⟨kb, 0, none⟩ p).setCell ⟨kb, 1, none⟩ q).setCell ⟨kb, 2, none⟩ r).cell? ⟨vb, 2, none⟩ = some (.bool z) from by
    have far : ∀ b, b ≠ kb → (((W.setCell ⟨kb, 0, none⟩ p).setCell ⟨kb, 1, none⟩ q).setCell ⟨kb, 2, none⟩ r).heap[b]? = W.heap[b]? := fun b hb => (Below.heap_setCell _ ⟨kb, 2, none⟩ _ b hb).trans ((Below.heap_setCell _ ⟨kb, 1, none⟩ _ b hb).trans (Below.heap_setCell _ ⟨kb, 0, none⟩ _ b hb))
    exact ⟨(World.cell?_of_block (w := W) (a := ⟨sb, 1, none⟩) (far sb hneL.symm)).trans hc.1, (World.cell?_of_block (w := W) (a := ⟨vb, 0, none⟩) (far vb hneV.symm)).trans hc.2.1, (World.cell?_of_block (w := W) (a := ⟨vb, 1, none⟩) (far vb hneV.symm)).trans hc.2.2.1, (World.cell?_of_block (w := W) (a := ⟨vb, 2, none⟩) (far vb hneV.symm)).trans hc.2.2.2⟩)
  go_wp2_with fail
  try rw [hvb]
  try rw [hw8]
  refine wp_region_held_drew (S := fun W => W.cell? ⟨sb, 1, none⟩ = some (nV n) ∧ W.cell? ⟨vb, 0, none⟩ = some (nV x) ∧ W.cell? ⟨vb, 1, none⟩ = some (nV y) ∧ W.cell? ⟨vb, 2, none⟩ = some (.bool z)) (by kernel_rfl) ?_ (fun hS => ?_)
  · exact ⟨l8, v80, v81, v82⟩
  obtain ⟨WD, hWD⟩ : ∃ W, w8.drew = W := ⟨_, rfl⟩
  have HD8 := Lib.hid (show Bk WD kb 30 #[nV 0, nV 0, .bool false] from by rw [← hWD]; exact HKL8.out)
  have HPD := Lib.hid (show PL B WD a _ C _ from by rw [← hWD]; exact HP8.out.below (w' := w8.drew) (Below.refl _ _).drew)
  have HFD := Lib.hid (show Fr B w WD from by rw [← hWD]; exact HF8.out.trans (Fr.below (Below.refl _ _).drew HP8.out.le))
  rw [hWD] at hS ⊢
  clear hWD
  have k9 := HD8.out
  have ud0 := k9.cell 0
  have udf0 := k9.frozen 0
  have ud1 := k9.cell 1
  have udf1 := k9.frozen 1
  have ud2 := k9.cell 2
  have udf2 := k9.frozen 2
  simp at ud0 ud1 ud2
  clear k9
  refine tkY 0 ?_ rfl hS ?_ ?_
  rotate_left
  · intro wz hz
    obtain ⟨z0, z1, z2, z3⟩ := hz
    go_simp
    all_goals first | with_reducible rfl | omega
  try simp only [Act.put, pu]
  refine tkY 1 ?_ rfl hS ?_ ?_
  rotate_left
  · intro wz hz
    obtain ⟨z0, z1, z2, z3⟩ := hz
    go_simp
    all_goals first | with_reducible rfl | omega
  try simp only [Act.put, pu]
  refine tkY 2 ?_ rfl hS ?_ ?_
  rotate_left
  · intro wz hz
    obtain ⟨z0, z1, z2, z3⟩ := hz
    go_simp
    all_goals first | with_reducible rfl | omega
  try simp only [Act.put, pu]
  refine tkY 3 ?_ rfl hS ?_ ?_
  rotate_left
  · intro wz hz
    obtain ⟨z0, z1, z2, z3⟩ := hz
    go_simp
    all_goals first | with_reducible rfl | omega
  try simp only [Act.put, pu]
  refine tkY 4 ?_ rfl hS ?_ ?_
  rotate_left
  · intro wz hz
    obtain ⟨z0, z1, z2, z3⟩ := hz
    go_simp
    all_goals first | with_reducible rfl | omega
  try simp only [Act.put, pu]
  refine wpAnyH_ready (rs := [5]) (by kernel_rfl) (by simp) (AllReadyH.cons rfl (fun K' hK' => ?_) AllReadyH.nil)
  go_simp
  refine hK'.out _ _ (HS3.out _ _ _ _ hS) (fun hSn => ?_)
  clear hK' K' hS
  have hS := hSn
  clear hSn
  try simp only [Act.put, pu]
  refine tkY 6 ?_ rfl hS ?_ ?_
  rotate_left
  · intro wz hz
    go_simp
    all_goals first | with_reducible rfl | omega
  try simp only [Act.put, pu]
  refine wpAnyH_done (by kernel_rfl) ?_ _
  clear hS
  go_wp2_with fail
  have hd8 := HD8.out
  have k5 := ((hd8.set_ 0 (nV x)).set_ 1 (nV y)).set_ 2 (.bool z)
  have e0 := k5.cell 0
  have e1 := k5.cell 1
  have e2 := k5.cell 2
  simp at e0 e1 e2
  refine bodyPost_ret (v := .tuple #[nV n, .agg #[nV x, nV y, .bool z], .bool b]) (by simp [results, Try.results12, go_sem, e0, e1, e2]) rfl ?_
  have hr := PL.cell3 HPD.out HFD.out HSZ.out HBW.out hd8 (nV x) (nV y) (.bool z)
  exact ⟨_, _, _, _, _, rfl, hr.1, hr.2, HLS.out⟩
end
end Go.Proofs.Ytochjbmighijgaa.PO
