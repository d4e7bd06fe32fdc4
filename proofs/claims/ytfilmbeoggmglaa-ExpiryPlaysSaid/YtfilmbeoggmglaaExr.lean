/- Package expiry: Copy; a queue that is not there. Conditions: how many. -/
import Derived.Test.YtfilmbeoggmglaaExq
import Derived.Shelf.SlMaps.Clone
namespace Go.Proofs.Ytfilmbeoggmglaa.EX
open Go.ChangeShapes Go.WideShapes Go.ChangeAt Go.RowKit Go.Maps Go.ChangeMaps
open Go.Proofs.Ytfilmbeoggmglaa.SL Go.Proofs.Ytfilmbeoggmglaa.RW
set_option maxRecDepth 100000
set_option linter.unusedVariables false
set_option linter.unusedSimpArgs false

set_option maxHeartbeats 2000000 in
theorem mclone_any (w : World) (b n s : Nat) (f : ByteArray → Option Et) (h : MapF w b n f s) :
    Calls Try.prog 63 #[.map (some b)] w fun e w' => e = .returned (.map (some w.heap.size)) ∧ MapF w' w.heap.size n f s ∧ Below w.heap.size w w' := by
  obtain ⟨D, ⟨es, clock, hb, r⟩, hr⟩ := h
  have hq := fun w => run_eql_map_nil_sl (P := Try.prog) w 69 _ _ (some b) Try.underlying69
  have hcl := run_maps_clone_sl (P := Try.prog) w 69 hb
  have hext : (callFunc 79 #[.iface 69 (.map (some b))]).run Try.prog w = .ok (.value (.iface 69 (.map (some w.heap.size)))) (w.alloc (.map es clock)) := by
    rw [run_callFunc_extern Try.func79 (by kernel_rfl) (by kernel_rfl) (by kernel_rfl) (e := Extern.MapsClone.clone) (by kernel_rfl), hcl]; rfl
  have hta := fun W v => run_typeAssert_map_sl (P := Try.prog) W 69 20 _ _ v Try.underlying69
  go_enter Try.func63, Try.ntmps63
  go_wp2
  go_ret
  exact ⟨rfl, ⟨D, ⟨es, clock, heap_alloc_new w _, r⟩, hr⟩, (Below.refl _ _).alloc (Nat.le_refl _) _⟩
def CopQ (B n : Nat) (x : Qx) (w : World) (e : Ending) (w' : World) : Prop := ∃ g' x', e = .returned (ptr g') ∧ QT B w' g' n x' ∧ x'.L = x.L ∧ (∀ b, x'.own g' b → w.heap.size ≤ b) ∧ Below w.heap.size w w'
set_option maxHeartbeats 4000000 in
theorem copy_any (w : World) (B g n : Nat) (x : Qx) (h : QT B w g n x) (hn : n ≤ 1000000) (hB : B ≤ w.heap.size) :
    Calls Try.prog 33 #[ptr g] w (CopQ B n x w) := by
  obtain ⟨c0, c1, c2, c3, c4⟩ := h.cells
  have HH := Lib.hid h
  have HN := Lib.hid hn
  have HB := Lib.hid hB
  have HG := Lib.hid h.bk.lt
  clear h hn hB c4
  go_enter Try.func33, Try.ntmps33
  go_wp2_with fail
  refine (given_yes _ g c0).mono ?_
  rintro e w' ⟨rfl, rfl⟩
  go_wp2_with fail
  refine wp_region_held_drew (S := (fun w' => Below w.heap.size w w')) (by kernel_rfl) ?_ (fun hS => ?_)
  · exact (Below.refl _ _).drew
  refine tkY 0 ?_ rfl hS ?_ ?_
  rotate_left
  · intro wz hz
    have z1 := (hz.cell (p := ⟨g, 1, none⟩) HG.out).trans c1
    have z2 := (hz.cell (p := ⟨g, 2, none⟩) HG.out).trans c2
    have z3 := (hz.cell (p := ⟨g, 3, none⟩) HG.out).trans c3
    go_simp
    all_goals first | with_reducible rfl | omega
  try simp only [Act.put, pu]
  refine tkY 1 ?_ rfl hS ?_ ?_
  rotate_left
  · intro wz hz
    have z1 := (hz.cell (p := ⟨g, 1, none⟩) HG.out).trans c1
    have z2 := (hz.cell (p := ⟨g, 2, none⟩) HG.out).trans c2
    have z3 := (hz.cell (p := ⟨g, 3, none⟩) HG.out).trans c3
    go_simp
    all_goals first | with_reducible rfl | omega
  try simp only [Act.put, pu]
  refine tkY 2 ?_ rfl hS ?_ ?_
  rotate_left
  · intro wz hz
    have z1 := (hz.cell (p := ⟨g, 1, none⟩) HG.out).trans c1
    have z2 := (hz.cell (p := ⟨g, 2, none⟩) HG.out).trans c2
    have z3 := (hz.cell (p := ⟨g, 3, none⟩) HG.out).trans c3
    go_simp
    all_goals first | with_reducible rfl | omega
  try simp only [Act.put, pu]
  refine tkY 3 ?_ rfl hS ?_ ?_
  rotate_left
  · intro wz hz
    have z1 := (hz.cell (p := ⟨g, 1, none⟩) HG.out).trans c1
    have z2 := (hz.cell (p := ⟨g, 2, none⟩) HG.out).trans c2
    have z3 := (hz.cell (p := ⟨g, 3, none⟩) HG.out).trans c3
    go_simp
    all_goals first | with_reducible rfl | omega
  try simp only [Act.put, pu]
  refine tkY 4 ?_ rfl hS ?_ ?_
  rotate_left
  · intro wz hz
    have z1 := (hz.cell (p := ⟨g, 1, none⟩) HG.out).trans c1
    have z2 := (hz.cell (p := ⟨g, 2, none⟩) HG.out).trans c2
    have z3 := (hz.cell (p := ⟨g, 3, none⟩) HG.out).trans c3
    go_simp
    all_goals first | with_reducible rfl | omega
  try simp only [Act.put, pu]
  refine tkY 5 ?_ rfl hS ?_ ?_
  rotate_left
  · intro wz hz
    have z1 := (hz.cell (p := ⟨g, 1, none⟩) HG.out).trans c1
    have z2 := (hz.cell (p := ⟨g, 2, none⟩) HG.out).trans c2
    have z3 := (hz.cell (p := ⟨g, 3, none⟩) HG.out).trans c3
    go_simp
    all_goals first | with_reducible rfl | omega
  try simp only [Act.put, pu]
  refine tkY 6 ?_ rfl hS ?_ ?_
  rotate_left
  · intro wz hz
    have z1 := (hz.cell (p := ⟨g, 1, none⟩) HG.out).trans c1
    have z2 := (hz.cell (p := ⟨g, 2, none⟩) HG.out).trans c2
    have z3 := (hz.cell (p := ⟨g, 3, none⟩) HG.out).trans c3
    go_simp
    all_goals first | with_reducible rfl | omega
  try simp only [Act.put, pu]
  refine tkY 7 ?_ rfl hS ?_ ?_
  rotate_left
  · intro wz hz
    have z1 := (hz.cell (p := ⟨g, 1, none⟩) HG.out).trans c1
    have z2 := (hz.cell (p := ⟨g, 2, none⟩) HG.out).trans c2
    have z3 := (hz.cell (p := ⟨g, 3, none⟩) HG.out).trans c3
    go_simp
    all_goals first | with_reducible rfl | omega
  try simp only [Act.put, pu]
  refine tkY 9 ?_ rfl hS ?_ ?_
  rotate_left
  · intro wz hz
    have z1 := (hz.cell (p := ⟨g, 1, none⟩) HG.out).trans c1
    have z2 := (hz.cell (p := ⟨g, 2, none⟩) HG.out).trans c2
    have z3 := (hz.cell (p := ⟨g, 3, none⟩) HG.out).trans c3
    go_simp
    all_goals first | with_reducible rfl | omega
  try simp only [Act.put, pu]
  refine tkY 10 ?_ rfl hS ?_ ?_
  rotate_left
  · intro wz hz
    have z1 := (hz.cell (p := ⟨g, 1, none⟩) HG.out).trans c1
    have z2 := (hz.cell (p := ⟨g, 2, none⟩) HG.out).trans c2
    have z3 := (hz.cell (p := ⟨g, 3, none⟩) HG.out).trans c3
    go_simp
    all_goals first | with_reducible rfl | omega
  try simp only [Act.put, pu]
  refine tkY 11 ?_ rfl hS ?_ ?_
  rotate_left
  · intro wz hz
    have z1 := (hz.cell (p := ⟨g, 1, none⟩) HG.out).trans c1
    have z2 := (hz.cell (p := ⟨g, 2, none⟩) HG.out).trans c2
    have z3 := (hz.cell (p := ⟨g, 3, none⟩) HG.out).trans c3
    go_simp
    all_goals first | with_reducible rfl | omega
  try simp only [Act.put, pu]
  refine tkY 12 ?_ rfl hS ?_ ?_
  rotate_left
  · intro wz hz
    have z1 := (hz.cell (p := ⟨g, 1, none⟩) HG.out).trans c1
    have z2 := (hz.cell (p := ⟨g, 2, none⟩) HG.out).trans c2
    have z3 := (hz.cell (p := ⟨g, 3, none⟩) HG.out).trans c3
    go_simp
    all_goals first | with_reducible rfl | omega
  try simp only [Act.put, pu]
  refine wpAnyH_ready (rs := [8]) (by kernel_rfl) (by simp) (AllReadyH.cons rfl (fun K' hK' => ?_) AllReadyH.nil)
  go_simp
  refine (mclone_any _ x.m n x.L.length _ (HH.out.below hS).mp).mono ?_
  rintro e w2 ⟨rfl, hm2, hb2⟩
  have hb2' := hS.trans (hb2.mono hS.size)
  obtain ⟨mb, hmb⟩ : ∃ b, w.drew.heap.size = b := ⟨_, rfl⟩
  have hmw : w.heap.size ≤ mb := by rw [← hmb]; exact Nat.le_refl _
  rw [hmb] at hm2
  try rw [hmb]
  try rw [show w.heap.size = mb from hmb]
  have HM2 := Lib.hid hm2
  have HB2 := Lib.hid hb2'
  have HMB := Lib.hid hmw
  clear hm2 hb2 hmw hmb
  refine hK'.out _ _ ?_ (fun hSn => ?_)
  · exact hb2'
  clear hK' K' hS hb2'
  have hS := hSn
  clear hSn
  try simp only [Act.put, pu]
  refine wpAnyH_ready (rs := [13]) (by kernel_rfl) (by simp) (AllReadyH.cons rfl (fun K' hK' => ?_) AllReadyH.nil)
  go_simp
  refine (copied_any w2 B x.ob x.v x.L (HH.out.below HB2.out).ko (HH.out.below HB2.out).eq (by have := HH.out.le; have := HN.out; omega)).mono ?_
  rintro e w3 ⟨nb, a3, c3', rfl, kb3, he3, hnb, hb3⟩
  have hb3' := HB2.out.trans (hb3.mono HB2.out.size)
  have HM3 := Lib.hid (HM2.out.below hb3)
  have HB3 := Lib.hid hb3'
  have KB3 := Lib.hid kb3
  have HE3 := Lib.hid he3
  have HNB : Hid (w.heap.size ≤ nb) := Lib.hid (Nat.le_trans HB2.out.size hnb)
  have HW2 : Hid (w.heap.size ≤ w2.heap.size) := Lib.hid HB2.out.size
  clear kb3 he3 hnb hb3
  refine hK'.out _ _ ?_ (fun hSn => ?_)
  · exact hb3'
  clear hK' K' hS hb3'
  have hS := hSn
  clear hSn
  try simp only [Act.put, pu]
  refine wpAnyH_ready (rs := [14]) (by kernel_rfl) (by simp) (AllReadyH.cons rfl (fun K' hK' => ?_) AllReadyH.nil)
  go_simp
  refine (made_any w3 n mb nb).mono ?_
  rintro e w4 ⟨g4, rfl, kg4, hg4, hb4⟩
  have hb4' := HB3.out.trans (hb4.mono HB3.out.size)
  have HM4 := Lib.hid (HM3.out.below hb4)
  have HB4 := Lib.hid hb4'
  have KB4 := Lib.hid (KB3.out.below hb4)
  have HE4 := Lib.hid (HE3.out.below hb4)
  have KG4 := Lib.hid kg4
  have HG4 : Hid (w.heap.size ≤ g4) := Lib.hid (Nat.le_trans HB3.out.size hg4)
  clear kg4 hg4 hb4
  refine hK'.out _ _ ?_ (fun hSn => ?_)
  · exact hb4'
  clear hK' K' hS hb4'
  have hS := hSn
  clear hSn
  try simp only [Act.put, pu]
  refine tkY 15 ?_ rfl hS ?_ ?_
  rotate_left
  · intro wz hz
    go_simp
    all_goals first | with_reducible rfl | omega
  try simp only [Act.put, pu]
  refine wpAnyH_done (by kernel_rfl) ?_ _
  clear hS
  go_wp2
  go_ret
  have h1 := HB.out
  have h2 := HG4.out
  have h3 := HMB.out
  have h4 := HNB.out
  refine ⟨g4, ⟨mb, nb, a3, c3', x.L⟩, rfl, ⟨KG4.out, KB4.out, HE4.out.mono (Nat.le_trans h1 HW2.out), HM4.out, HH.out.sr, HH.out.le, by omega, by show B ≤ mb; omega, by show B ≤ nb; omega⟩, rfl, fun b hb => ?_, HB4.out⟩
  rcases hb with rfl | rfl | rfl | hb
  · exact h2
  · exact h3
  · exact h4
  · exact Nat.le_trans HW2.out (HE4.out.lt b hb).1
theorem due_nil (w : World) (t : Int) :
    Calls Try.prog 31 #[.pointer none, .int .i64 t] w fun e w' => e = .returned (.slice none 0 0) ∧ w = w' := by
  go_enter Try.func31, Try.ntmps31
  go_wp2_with fail
  refine (given_nil _).mono ?_
  rintro e w' ⟨rfl, rfl⟩
  go_wp2
  go_ret
  exact ⟨rfl, rfl⟩
theorem due_zero (w : World) (g : Nat) (h : w.cell? ⟨g, 0, none⟩ = some (.pointer none)) (t : Int) :
    Calls Try.prog 31 #[ptr g, .int .i64 t] w fun e w' => e = .returned (.slice none 0 0) ∧ w = w' := by
  go_enter Try.func31, Try.ntmps31
  go_wp2_with fail
  refine (given_zero _ g h).mono ?_
  rintro e w' ⟨rfl, rfl⟩
  go_wp2
  go_ret
  exact ⟨rfl, rfl⟩
theorem keys_nil (w : World) :
    Calls Try.prog 38 #[.pointer none] w fun e w' => e = .returned (.slice none 0 0) ∧ w = w' := by
  go_enter Try.func38, Try.ntmps38
  go_wp2_with fail
  refine (given_nil _).mono ?_
  rintro e w' ⟨rfl, rfl⟩
  go_wp2
  go_ret
  exact ⟨rfl, rfl⟩
theorem keys_zero (w : World) (g : Nat) (h : w.cell? ⟨g, 0, none⟩ = some (.pointer none)) :
    Calls Try.prog 38 #[ptr g] w fun e w' => e = .returned (.slice none 0 0) ∧ w = w' := by
  go_enter Try.func38, Try.ntmps38
  go_wp2_with fail
  refine (given_zero _ g h).mono ?_
  rintro e w' ⟨rfl, rfl⟩
  go_wp2
  go_ret
  exact ⟨rfl, rfl⟩
theorem copy_nil (w : World) :
    Calls Try.prog 33 #[.pointer none] w fun e w' => e = .returned (.pointer none) ∧ w = w' := by
  go_enter Try.func33, Try.ntmps33
  go_wp2_with fail
  refine (given_nil _).mono ?_
  rintro e w' ⟨rfl, rfl⟩
  go_wp2
  go_ret
  exact ⟨rfl, rfl⟩
theorem copy_zero (w : World) (g : Nat) (h : w.cell? ⟨g, 0, none⟩ = some (.pointer none)) :
    Calls Try.prog 33 #[ptr g] w fun e w' => e = .returned (.pointer none) ∧ w = w' := by
  go_enter Try.func33, Try.ntmps33
  go_wp2_with fail
  refine (given_zero _ g h).mono ?_
  rintro e w' ⟨rfl, rfl⟩
  go_wp2
  go_ret
  exact ⟨rfl, rfl⟩
theorem next_nil (w : World) :
    Calls Try.prog 36 #[.pointer none] w fun e w' => e = .returned (.tuple #[.int .i64 0, .bool false]) ∧ w = w' := by
  go_enter Try.func36, Try.ntmps36
  go_wp2_with fail
  refine (given_nil _).mono ?_
  rintro e w' ⟨rfl, rfl⟩
  go_wp2
  go_ret2
  exact ⟨rfl, rfl⟩
theorem next_zero (w : World) (g : Nat) (h : w.cell? ⟨g, 0, none⟩ = some (.pointer none)) :
    Calls Try.prog 36 #[ptr g] w fun e w' => e = .returned (.tuple #[.int .i64 0, .bool false]) ∧ w = w' := by
  go_enter Try.func36, Try.ntmps36
  go_wp2_with fail
  refine (given_zero _ g h).mono ?_
  rintro e w' ⟨rfl, rfl⟩
  go_wp2
  go_ret2
  exact ⟨rfl, rfl⟩
set_option maxHeartbeats 2000000 in
theorem find_nil (w : World) (k : ByteArray) :
    Calls Try.prog 60 #[.pointer none, .string k] w (FinP none w) := by
  go_enter Try.func60, Try.ntmps60
  go_wp2_with fail
  refine (given_nil _).mono ?_
  rintro e w' ⟨rfl, rfl⟩
  go_wp2_with fail
  have hk : Bk (w.alloc (.cells #[.string ⟨#[]⟩, .int .i64 0, .int .i64 0] 101)) w.heap.size 101 #[.string ⟨#[]⟩, .int .i64 0, .int .i64 0] := Bk.new _ _ _
  have hb : Below w.heap.size w (w.alloc (.cells #[.string ⟨#[]⟩, .int .i64 0, .int .i64 0] 101)) := (Below.refl _ _).alloc (Nat.le_refl _) _
  obtain ⟨W, hW⟩ : ∃ W, w.alloc (.cells #[.string ⟨#[]⟩, .int .i64 0, .int .i64 0] 101) = W := ⟨_, rfl⟩
  rw [hW] at hk hb ⊢
  have e0 : W.cell? ⟨w.heap.size, 0, none⟩ = some (.string ⟨#[]⟩) := hk.cell 0
  have e1 : W.cell? ⟨w.heap.size, 1, none⟩ = some (.int .i64 0) := hk.cell 1
  have e2 : W.cell? ⟨w.heap.size, 2, none⟩ = some (.int .i64 0) := hk.cell 2
  exact bodyPost_ret (v := .tuple #[eV zE, .bool false]) (by simp [results, Try.results60, go_sem, e0, e1, e2]; exact ⟨rfl, rfl, rfl⟩) rfl ⟨rfl, hb⟩
set_option maxHeartbeats 2000000 in
theorem drop_nil (w : World) (k : ByteArray) :
    Calls Try.prog 29 #[.pointer none, .string k] w fun e w' => e = .returned (.bool false) ∧ Below w.heap.size w w' := by
  have HF := Lib.hid (find_nil w k)
  unfold FinP at HF
  go_enter Try.func29, Try.ntmps29
  go_wp2_with fail
  refine HF.out.mono ?_
  rintro e w2 ⟨rfl, hb2⟩
  have HB2 := Lib.hid hb2
  clear hb2
  go_wp2
  go_ret
  exact ⟨rfl, HB2.out.alloc HB2.out.size _⟩
set_option maxHeartbeats 2000000 in
theorem at_nil (w : World) (k : ByteArray) :
    Calls Try.prog 34 #[.pointer none, .string k] w fun e w' => e = .returned (.tuple #[.int .i64 0, .bool false]) ∧ Below w.heap.size w w' := by
  have HF := Lib.hid (find_nil w k)
  unfold FinP at HF
  go_enter Try.func34, Try.ntmps34
  go_wp2_with fail
  refine HF.out.mono ?_
  rintro e w2 ⟨rfl, hb2⟩
  have HB2 := Lib.hid hb2
  clear hb2
  go_wp2
  go_ret2
  exact ⟨rfl, HB2.out.alloc HB2.out.size _⟩
set_option maxHeartbeats 2000000 in
theorem find_zero (w : World) (k : ByteArray) (g : Nat) (h : w.cell? ⟨g, 0, none⟩ = some (.pointer none)) :
    Calls Try.prog 60 #[ptr g, .string k] w (FinP none w) := by
  have hz : (w.alloc (.cells #[.string ⟨#[]⟩, .int .i64 0, .int .i64 0] 101)).cell? ⟨g, 0, none⟩ = some (.pointer none) := ((show Below w.heap.size w _ from (Below.refl _ _).alloc (Nat.le_refl _) _).cell (p := ⟨g, 0, none⟩) (World.block_lt_of_cell? _ _ h)).trans h
  go_enter Try.func60, Try.ntmps60
  go_wp2_with fail
  refine (given_zero _ g hz).mono ?_
  rintro e w' ⟨rfl, rfl⟩
  go_wp2_with fail
  have hk : Bk (w.alloc (.cells #[.string ⟨#[]⟩, .int .i64 0, .int .i64 0] 101)) w.heap.size 101 #[.string ⟨#[]⟩, .int .i64 0, .int .i64 0] := Bk.new _ _ _
  have hb : Below w.heap.size w (w.alloc (.cells #[.string ⟨#[]⟩, .int .i64 0, .int .i64 0] 101)) := (Below.refl _ _).alloc (Nat.le_refl _) _
  obtain ⟨W, hW⟩ : ∃ W, w.alloc (.cells #[.string ⟨#[]⟩, .int .i64 0, .int .i64 0] 101) = W := ⟨_, rfl⟩
  rw [hW] at hk hb ⊢
  have e0 : W.cell? ⟨w.heap.size, 0, none⟩ = some (.string ⟨#[]⟩) := hk.cell 0
  have e1 : W.cell? ⟨w.heap.size, 1, none⟩ = some (.int .i64 0) := hk.cell 1
  have e2 : W.cell? ⟨w.heap.size, 2, none⟩ = some (.int .i64 0) := hk.cell 2
  exact bodyPost_ret (v := .tuple #[eV zE, .bool false]) (by simp [results, Try.results60, go_sem, e0, e1, e2]; exact ⟨rfl, rfl, rfl⟩) rfl ⟨rfl, hb⟩
set_option maxHeartbeats 2000000 in
theorem drop_zero (w : World) (k : ByteArray) (g : Nat) (h : w.cell? ⟨g, 0, none⟩ = some (.pointer none)) :
    Calls Try.prog 29 #[ptr g, .string k] w fun e w' => e = .returned (.bool false) ∧ Below w.heap.size w w' := by
  have HF := Lib.hid (find_zero w k g h)
  unfold FinP at HF
  go_enter Try.func29, Try.ntmps29
  go_wp2_with fail
  refine HF.out.mono ?_
  rintro e w2 ⟨rfl, hb2⟩
  have HB2 := Lib.hid hb2
  clear hb2
  go_wp2
  go_ret
  exact ⟨rfl, HB2.out.alloc HB2.out.size _⟩
set_option maxHeartbeats 2000000 in
theorem at_zero (w : World) (k : ByteArray) (g : Nat) (h : w.cell? ⟨g, 0, none⟩ = some (.pointer none)) :
    Calls Try.prog 34 #[ptr g, .string k] w fun e w' => e = .returned (.tuple #[.int .i64 0, .bool false]) ∧ Below w.heap.size w w' := by
  have HF := Lib.hid (find_zero w k g h)
  unfold FinP at HF
  go_enter Try.func34, Try.ntmps34
  go_wp2_with fail
  refine HF.out.mono ?_
  rintro e w2 ⟨rfl, hb2⟩
  have HB2 := Lib.hid hb2
  clear hb2
  go_wp2
  go_ret2
  exact ⟨rfl, HB2.out.alloc HB2.out.size _⟩
end Go.Proofs.Ytfilmbeoggmglaa.EX
