/- Package cache: given, find, Drop; a cache that is not there. Conditions: how long keys are, how many puts there were.
   Package cache: Drop. Conditions: how long keys are, how many puts there were.
   Lists of keys: rows of four cells, read and owned; package cache's parsed. Conditions: how many, how long the texts are. -/
import Derived.Test.YtjngangojgjceaaG15
import Derived.Test.YtjngangojgjceaaG7
set_option linter.unusedSimpArgs false
set_option linter.unusedVariables false
namespace Go.Proofs.Ytjngangojgjceaa.CA
open Go.ChangeShapes Go.WideShapes Go.ChangeAt Go.RowKit Go.Maps Go.ChangeMaps
open Go.Proofs.Ytjngangojgjceaa.SL Go.Proofs.Ytjngangojgjceaa.EX
set_option maxRecDepth 100000
set_option linter.unusedVariables false
set_option linter.unusedSimpArgs false

theorem cinfo : ∃ j, Try.prog.info? 69 = some j := Option.isSome_iff_exists.1 (by kernel_rfl)
theorem eql_same (w : World) (a : Addr) : (binOp .eql 38 (.pointer (some a)) (.pointer (some a))).run Try.prog w = .ok (.bool true) w := by
  obtain ⟨j, hj⟩ := cinfo
  exact run_eql_ptr_same (P := Try.prog) w a Try.underlying38 hj
theorem eql_none (w : World) (a : Addr) : (binOp .eql 38 (.pointer none) (.pointer (some a))).run Try.prog w = .ok (.bool false) w := by
  have h : ∀ d : Nat, (Op.equalIn (d + 1) 38 (.pointer none) (.pointer (some a))).run Try.prog w = .ok false w := fun d => by
    simp [Op.equalIn, run_underlying Try.underlying38]
  simp only [binOp]
  simp [Op.equal, Op.maxDepth, h 9999]
theorem given_yes (w : World) (g : Nat) (h : w.cell? ⟨g, 0, none⟩ = some (ptr g)) :
    Calls Try.prog 32 #[ptr g] w fun e w' => e = .returned (.bool true) ∧ w = w' := by
  have he := fun w => CA.eql_same w ⟨g, 0, none⟩
  go_enter Try.func32, Try.ntmps32
  go_wp2
  go_ret
  exact ⟨rfl, rfl⟩
theorem given_nil (w : World) :
    Calls Try.prog 32 #[.pointer none] w fun e w' => e = .returned (.bool false) ∧ w = w' := by
  go_enter Try.func32, Try.ntmps32
  go_wp2
  go_ret
  exact ⟨rfl, rfl⟩
theorem given_zero (w : World) (g : Nat) (h : w.cell? ⟨g, 0, none⟩ = some (.pointer none)) :
    Calls Try.prog 32 #[ptr g] w fun e w' => e = .returned (.bool false) ∧ w = w' := by
  have he := fun w => CA.eql_none w ⟨g, 0, none⟩
  go_enter Try.func32, Try.ntmps32
  go_wp2
  go_ret
  exact ⟨rfl, rfl⟩
def FinC (o : Option Ce) (w : World) (e : Ending) (w' : World) : Prop := e = .returned (.tuple #[ceV (o.getD zCe), .bool o.isSome]) ∧ Below w.heap.size w w'
set_option maxHeartbeats 4000000 in
theorem find_any {w0 w : World} {C : Cb} {N : Nat} {σ : Sg} {O : List Kp} (h : LC w0 w C N σ O) (k : Ky) (hk : FitK k) :
    Calls Try.prog 37 #[ptr C.g, kyV k] w (FinC (fV σ.V k) w) := by
  obtain ⟨E, hE⟩ : ∃ E, (fV σ.V k).getD zCe = E := ⟨_, rfl⟩
  obtain ⟨b, hb⟩ : ∃ b, (fV σ.V k).isSome = b := ⟨_, rfl⟩
  have hlk := fun {w' : World} (hb : Below w.heap.size w w') => lc_look (h.below hb) k hk
  have hlk1 : ∀ w', Below w.heap.size w w' → (Instr.lookup 63 (.map (some C.m)) (kyV k) true).run Try.prog w' = .ok (.tuple #[ceV E, .bool b]) w' := fun w' hb1 => by
    have := hlk hb1
    rw [hE, hb] at this
    exact this
  have HLK := Lib.hid hlk1
  clear hlk1
  unfold FinC
  rw [hE, hb]
  obtain ⟨ek, ea⟩ := E
  obtain ⟨kb, hkb⟩ : ∃ b, w.heap.size = b := ⟨_, rfl⟩
  obtain ⟨W0, hW0⟩ : ∃ W, w.alloc (.cells (kC k) 23) = W := ⟨_, rfl⟩
  obtain ⟨W1, hW1⟩ : ∃ W, W0.alloc (.cells #[.string ⟨#[]⟩, .string ⟨#[]⟩] 75) = W := ⟨_, rfl⟩
  obtain ⟨rb, hrb⟩ : ∃ b, W0.heap.size = b := ⟨_, rfl⟩
  have hb0 : Below w.heap.size w W0 := by rw [← hW0]; exact (Below.refl _ _).alloc (Nat.le_refl _) _
  have kk0 : Bk W0 kb 23 (kC k) := by rw [← hW0, ← hkb]; exact Bk.new _ _ _
  have hb1 : Below w.heap.size w W1 := by rw [← hW1]; exact hb0.alloc hb0.size _
  have kk : Bk W1 kb 23 (kC k) := by rw [← hW1]; exact kk0.alloc _
  have kr : Bk W1 rb 75 #[.string ⟨#[]⟩, .string ⟨#[]⟩] := by rw [← hW1, ← hrb]; exact Bk.new _ _ _
  have hrw : w.heap.size ≤ rb := by rw [← hrb]; exact hb0.size
  obtain ⟨c0, c1, c2, c3, c4⟩ := (h.below hb1).cells
  have HG : Hid (C.g < w.heap.size) := Lib.hid h.glt
  have HB1 := Lib.hid hb1
  have HKK := Lib.hid kk
  have HKR := Lib.hid kr
  have HRW := Lib.hid hrw
  clear h hlk hk hE hb hb0 kk0 hb1 kk kr hrw c1 c3 c4
  obtain ⟨db, ro, fm, no⟩ := k
  have a0 : W1.cell? ⟨kb, 0, none⟩ = some (.string db) := HKK.out.cell 0
  have a1 : W1.cell? ⟨kb, 1, none⟩ = some (.string ro) := HKK.out.cell 1
  have a2 : W1.cell? ⟨kb, 2, none⟩ = some (.int .i64 fm) := HKK.out.cell 2
  have a3 : W1.cell? ⟨kb, 3, none⟩ = some (.string no) := HKK.out.cell 3
  go_enter Try.func37, Try.ntmps37
  go_wp2_with fail
  refine (CA.given_yes _ _ c0).mono ?_
  rintro e w' ⟨rfl, rfl⟩
  have HG1 : Hid (C.g < W1.heap.size) := Lib.hid (Nat.lt_of_lt_of_le HG.out HB1.out.size)
  have HKL : Hid (kb < W1.heap.size) := Lib.hid HKK.out.lt
  go_wp2_with fail
  refine wp_region_held_drew (S := (fun w' => Below W1.heap.size W1 w')) (by kernel_rfl) ?_ (fun hS => ?_)
  · exact (Below.refl _ _).drew
  refine tkY 0 ?_ rfl hS ?_ ?_
  rotate_left
  · intro wz hz
    have z0 : wz.cell? ⟨C.g, 2, none⟩ = some (.map (some C.m)) := (hz.cell (p := ⟨C.g, 2, none⟩) HG1.out).trans c2
    have z1 : wz.cell? ⟨kb, 0, none⟩ = some (.string db) := (hz.cell (p := ⟨kb, 0, none⟩) HKL.out).trans a0
    have z2 : wz.cell? ⟨kb, 1, none⟩ = some (.string ro) := (hz.cell (p := ⟨kb, 1, none⟩) HKL.out).trans a1
    have z3 : wz.cell? ⟨kb, 2, none⟩ = some (.int .i64 fm) := (hz.cell (p := ⟨kb, 2, none⟩) HKL.out).trans a2
    have z4 : wz.cell? ⟨kb, 3, none⟩ = some (.string no) := (hz.cell (p := ⟨kb, 3, none⟩) HKL.out).trans a3
    go_simp
    all_goals first | with_reducible rfl | omega
  try simp only [Act.put, pu]
  refine tkY 1 ?_ rfl hS ?_ ?_
  rotate_left
  · intro wz hz
    have z0 : wz.cell? ⟨C.g, 2, none⟩ = some (.map (some C.m)) := (hz.cell (p := ⟨C.g, 2, none⟩) HG1.out).trans c2
    have z1 : wz.cell? ⟨kb, 0, none⟩ = some (.string db) := (hz.cell (p := ⟨kb, 0, none⟩) HKL.out).trans a0
    have z2 : wz.cell? ⟨kb, 1, none⟩ = some (.string ro) := (hz.cell (p := ⟨kb, 1, none⟩) HKL.out).trans a1
    have z3 : wz.cell? ⟨kb, 2, none⟩ = some (.int .i64 fm) := (hz.cell (p := ⟨kb, 2, none⟩) HKL.out).trans a2
    have z4 : wz.cell? ⟨kb, 3, none⟩ = some (.string no) := (hz.cell (p := ⟨kb, 3, none⟩) HKL.out).trans a3
    go_simp
    all_goals first | with_reducible rfl | omega
  try simp only [Act.put, pu]
  refine tkY 2 ?_ rfl hS ?_ ?_
  rotate_left
  · intro wz hz
    have z0 : wz.cell? ⟨C.g, 2, none⟩ = some (.map (some C.m)) := (hz.cell (p := ⟨C.g, 2, none⟩) HG1.out).trans c2
    have z1 : wz.cell? ⟨kb, 0, none⟩ = some (.string db) := (hz.cell (p := ⟨kb, 0, none⟩) HKL.out).trans a0
    have z2 : wz.cell? ⟨kb, 1, none⟩ = some (.string ro) := (hz.cell (p := ⟨kb, 1, none⟩) HKL.out).trans a1
    have z3 : wz.cell? ⟨kb, 2, none⟩ = some (.int .i64 fm) := (hz.cell (p := ⟨kb, 2, none⟩) HKL.out).trans a2
    have z4 : wz.cell? ⟨kb, 3, none⟩ = some (.string no) := (hz.cell (p := ⟨kb, 3, none⟩) HKL.out).trans a3
    go_simp
    all_goals first | with_reducible rfl | omega
  try simp only [Act.put, pu]
  refine tkY 3 ?_ rfl hS ?_ ?_
  rotate_left
  · intro wz hz
    have z0 : wz.cell? ⟨C.g, 2, none⟩ = some (.map (some C.m)) := (hz.cell (p := ⟨C.g, 2, none⟩) HG1.out).trans c2
    have z1 : wz.cell? ⟨kb, 0, none⟩ = some (.string db) := (hz.cell (p := ⟨kb, 0, none⟩) HKL.out).trans a0
    have z2 : wz.cell? ⟨kb, 1, none⟩ = some (.string ro) := (hz.cell (p := ⟨kb, 1, none⟩) HKL.out).trans a1
    have z3 : wz.cell? ⟨kb, 2, none⟩ = some (.int .i64 fm) := (hz.cell (p := ⟨kb, 2, none⟩) HKL.out).trans a2
    have z4 : wz.cell? ⟨kb, 3, none⟩ = some (.string no) := (hz.cell (p := ⟨kb, 3, none⟩) HKL.out).trans a3
    go_simp
    all_goals first | with_reducible rfl | omega
  try simp only [Act.put, pu]
  refine tkY 4 ?_ rfl hS ?_ ?_
  rotate_left
  · intro wz hz
    have z0 : wz.cell? ⟨C.g, 2, none⟩ = some (.map (some C.m)) := (hz.cell (p := ⟨C.g, 2, none⟩) HG1.out).trans c2
    have z1 : wz.cell? ⟨kb, 0, none⟩ = some (.string db) := (hz.cell (p := ⟨kb, 0, none⟩) HKL.out).trans a0
    have z2 : wz.cell? ⟨kb, 1, none⟩ = some (.string ro) := (hz.cell (p := ⟨kb, 1, none⟩) HKL.out).trans a1
    have z3 : wz.cell? ⟨kb, 2, none⟩ = some (.int .i64 fm) := (hz.cell (p := ⟨kb, 2, none⟩) HKL.out).trans a2
    have z4 : wz.cell? ⟨kb, 3, none⟩ = some (.string no) := (hz.cell (p := ⟨kb, 3, none⟩) HKL.out).trans a3
    go_simp
    all_goals first | with_reducible rfl | omega
  try simp only [Act.put, pu]
  refine tkY 5 ?_ rfl hS ?_ ?_
  rotate_left
  · intro wz hz
    have zl := HLK.out wz (HB1.out.trans (hz.mono HB1.out.size))
    go_simp
    all_goals first | with_reducible rfl | omega
  try simp only [Act.put, pu]
  refine tkY 6 ?_ rfl hS ?_ ?_
  rotate_left
  · intro wz hz
    go_simp
    all_goals first | with_reducible rfl | omega
  try simp only [Act.put, pu]
  refine tkY 7 ?_ rfl hS ?_ ?_
  rotate_left
  · intro wz hz
    go_simp
    all_goals first | with_reducible rfl | omega
  try simp only [Act.put, pu]
  refine tkY 8 ?_ rfl hS ?_ ?_
  rotate_left
  · intro wz hz
    go_simp
    all_goals first | with_reducible rfl | omega
  try simp only [Act.put, pu]
  refine wpAnyH_ready (rs := [9]) (by kernel_rfl) (by simp) (AllReadyH.cons rfl (fun K' hK' => ?_) AllReadyH.nil)
  go_simp
  obtain ⟨W2, hW2⟩ : ∃ W, (W1.alloc (.cells #[.string ⟨#[]⟩, .string ⟨#[]⟩] 75)).drew = W := ⟨_, rfl⟩
  obtain ⟨eb, heb⟩ : ∃ b, W1.heap.size = b := ⟨_, rfl⟩
  have hb2 : Below W1.heap.size W1 W2 := by rw [← hW2]; exact ((Below.refl _ _).alloc (Nat.le_refl _) _).drew
  have ke : Bk W2 eb 75 #[.string ⟨#[]⟩, .string ⟨#[]⟩] := by rw [← hW2, ← heb]; exact Bk.new W1 _ _
  have HB2 := Lib.hid hb2
  have HKE := Lib.hid ke
  have HEB : Hid (W1.heap.size ≤ eb) := Lib.hid (by omega)
  have HRB : Hid (rb < eb) := Lib.hid (by rw [← heb]; exact HKR.out.lt)
  have e0 : W2.cell? ⟨eb, 0, none⟩ = some (.string ⟨#[]⟩) := ke.cell 0
  have e1 : W2.cell? ⟨eb, 1, none⟩ = some (.string ⟨#[]⟩) := ke.cell 1
  have f0 := ke.frozen 0
  have f1 := ke.frozen 1
  try rw [hW2, heb]
  clear hb2 ke hW2 heb
  refine hK'.out _ _ ?_ (fun hSn => ?_)
  · exact HB2.out
  clear hK' K' hS
  have hS := hSn
  clear hSn
  try simp only [Act.put, pu]
  refine wpAnyH_ready (rs := [10]) (by kernel_rfl) (by simp) (AllReadyH.cons rfl (fun K' hK' => ?_) AllReadyH.nil)
  go_simp
  have k3 := (HKE.out.set_ 0 (.string ek)).set_ 1 (.string ea)
  have hb3 : Below W1.heap.size W1 ((W2.setCell ⟨eb, 0, none⟩ (.string ek)).setCell ⟨eb, 1, none⟩ (.string ea)) := (HB2.out.setCell (p := ⟨eb, 0, none⟩) HEB.out _).setCell (p := ⟨eb, 1, none⟩) HEB.out _
  obtain ⟨W3, hW3⟩ : ∃ W, (W2.setCell ⟨eb, 0, none⟩ (.string ek)).setCell ⟨eb, 1, none⟩ (.string ea) = W := ⟨_, rfl⟩
  rw [hW3] at k3 hb3 ⊢
  have HB3 := Lib.hid hb3
  have HK3 : Hid (Bk W3 eb 75 #[.string ek, .string ea]) := Lib.hid k3
  clear k3 hb3 hW3 e0 e1 f0 f1
  refine hK'.out _ _ ?_ (fun hSn => ?_)
  · exact HB3.out
  clear hK' K' hS
  have hS := hSn
  clear hSn
  try simp only [Act.put, pu]
  refine tkY 11 ?_ rfl hS ?_ ?_
  rotate_left
  · intro wz hz
    go_simp
    all_goals first | with_reducible rfl | omega
  try simp only [Act.put, pu]
  refine wpAnyH_done (by kernel_rfl) ?_ _
  clear hS
  have kr := HKR.out.below HB3.out
  have HKR := Lib.hid kr
  have x0 : W3.cell? ⟨eb, 0, none⟩ = some (.string ek) := HK3.out.cell 0
  have x1 : W3.cell? ⟨eb, 1, none⟩ = some (.string ea) := HK3.out.cell 1
  have r0 : W3.cell? ⟨rb, 0, none⟩ = some (.string ⟨#[]⟩) := kr.cell 0
  have r1 : W3.cell? ⟨rb, 1, none⟩ = some (.string ⟨#[]⟩) := kr.cell 1
  have f0 := kr.frozen 0
  have f1 := kr.frozen 1
  clear kr c0 c2 a0 a1 a2 a3
  go_wp2
  have k0 := (HKR.out.set_ 0 (.string ek)).set_ 1 (.string ea)
  have hb4 := ((HB1.out.trans (HB3.out.mono HB1.out.size)).setCell (p := ⟨rb, 0, none⟩) HRW.out (.string ek)).setCell (p := ⟨rb, 1, none⟩) HRW.out (.string ea)
  obtain ⟨W4, hW4⟩ : ∃ W, (W3.setCell ⟨rb, 0, none⟩ (.string ek)).setCell ⟨rb, 1, none⟩ (.string ea) = W := ⟨_, rfl⟩
  rw [hW4] at k0 hb4 ⊢
  have e0 : W4.cell? ⟨rb, 0, none⟩ = some (.string ek) := k0.cell 0
  have e1 : W4.cell? ⟨rb, 1, none⟩ = some (.string ea) := k0.cell 1
  exact bodyPost_ret (v := .tuple #[ceV (ek, ea), .bool b]) (by simp [results, Try.results37, go_sem, e0, e1]) rfl ⟨rfl, hb4⟩
set_option maxHeartbeats 2000000 in
theorem find_nil (k : Ky) (w : World) : Calls Try.prog 37 #[.pointer none, kyV k] w (FinC none w) := by
  unfold FinC
  obtain ⟨rb, hrb⟩ : ∃ b, (w.alloc (.cells (kC k) 23)).heap.size = b := ⟨_, rfl⟩
  obtain ⟨W1, hW1⟩ : ∃ W, (w.alloc (.cells (kC k) 23)).alloc (.cells #[.string ⟨#[]⟩, .string ⟨#[]⟩] 75) = W := ⟨_, rfl⟩
  have hb1 : Below w.heap.size w W1 := by rw [← hW1]; exact ((Below.refl _ _).alloc (Nat.le_refl _) _).alloc (by simp) _
  have kr : Bk W1 rb 75 #[.string ⟨#[]⟩, .string ⟨#[]⟩] := by rw [← hW1, ← hrb]; exact Bk.new _ _ _
  have hrw : w.heap.size ≤ rb := by rw [← hrb]; simp
  obtain ⟨db, ro, fm, no⟩ := k
  have HB1 := Lib.hid hb1
  have HKR := Lib.hid kr
  have HRW := Lib.hid hrw
  have r0 : W1.cell? ⟨rb, 0, none⟩ = some (.string ⟨#[]⟩) := kr.cell 0
  have r1 : W1.cell? ⟨rb, 1, none⟩ = some (.string ⟨#[]⟩) := kr.cell 1
  have f0 := kr.frozen 0
  have f1 := kr.frozen 1
  clear hb1 kr hrw
  go_enter Try.func37, Try.ntmps37
  go_wp2_with fail
  refine (CA.given_nil _).mono ?_
  rintro e w' ⟨rfl, rfl⟩
  go_wp2
  have k0 := (HKR.out.set_ 0 (.string ⟨#[]⟩)).set_ 1 (.string ⟨#[]⟩)
  have hb4 := (HB1.out.setCell (p := ⟨rb, 0, none⟩) HRW.out (.string ⟨#[]⟩)).setCell (p := ⟨rb, 1, none⟩) HRW.out (.string ⟨#[]⟩)
  obtain ⟨W4, hW4⟩ : ∃ W, (W1.setCell ⟨rb, 0, none⟩ (.string ⟨#[]⟩)).setCell ⟨rb, 1, none⟩ (.string ⟨#[]⟩) = W := ⟨_, rfl⟩
  rw [hW4] at k0 hb4 ⊢
  have e0 : W4.cell? ⟨rb, 0, none⟩ = some (.string ⟨#[]⟩) := k0.cell 0
  have e1 : W4.cell? ⟨rb, 1, none⟩ = some (.string ⟨#[]⟩) := k0.cell 1
  exact bodyPost_ret (v := .tuple #[ceV zCe, .bool false]) (by simp [results, Try.results37, go_sem, e0, e1, zCe]; rfl) rfl ⟨rfl, hb4⟩
set_option maxHeartbeats 2000000 in
theorem find_zero (k : Ky) (w : World) (g : Nat) (h : w.cell? ⟨g, 0, none⟩ = some (.pointer none)) : Calls Try.prog 37 #[ptr g, kyV k] w (FinC none w) := by
  unfold FinC
  obtain ⟨rb, hrb⟩ : ∃ b, (w.alloc (.cells (kC k) 23)).heap.size = b := ⟨_, rfl⟩
  obtain ⟨W1, hW1⟩ : ∃ W, (w.alloc (.cells (kC k) 23)).alloc (.cells #[.string ⟨#[]⟩, .string ⟨#[]⟩] 75) = W := ⟨_, rfl⟩
  have hb1 : Below w.heap.size w W1 := by rw [← hW1]; exact ((Below.refl _ _).alloc (Nat.le_refl _) _).alloc (by simp) _
  have kr : Bk W1 rb 75 #[.string ⟨#[]⟩, .string ⟨#[]⟩] := by rw [← hW1, ← hrb]; exact Bk.new _ _ _
  have hrw : w.heap.size ≤ rb := by rw [← hrb]; simp
  have hg : W1.cell? ⟨g, 0, none⟩ = some (.pointer none) := (hb1.cell (p := ⟨g, 0, none⟩) (World.block_lt_of_cell? w _ h)).trans h
  obtain ⟨db, ro, fm, no⟩ := k
  have HB1 := Lib.hid hb1
  have HKR := Lib.hid kr
  have HRW := Lib.hid hrw
  have r0 : W1.cell? ⟨rb, 0, none⟩ = some (.string ⟨#[]⟩) := kr.cell 0
  have r1 : W1.cell? ⟨rb, 1, none⟩ = some (.string ⟨#[]⟩) := kr.cell 1
  have f0 := kr.frozen 0
  have f1 := kr.frozen 1
  clear hb1 kr hrw h
  go_enter Try.func37, Try.ntmps37
  go_wp2_with fail
  refine (CA.given_zero _ g hg).mono ?_
  rintro e w' ⟨rfl, rfl⟩
  clear hg
  go_wp2
  have k0 := (HKR.out.set_ 0 (.string ⟨#[]⟩)).set_ 1 (.string ⟨#[]⟩)
  have hb4 := (HB1.out.setCell (p := ⟨rb, 0, none⟩) HRW.out (.string ⟨#[]⟩)).setCell (p := ⟨rb, 1, none⟩) HRW.out (.string ⟨#[]⟩)
  obtain ⟨W4, hW4⟩ : ∃ W, (W1.setCell ⟨rb, 0, none⟩ (.string ⟨#[]⟩)).setCell ⟨rb, 1, none⟩ (.string ⟨#[]⟩) = W := ⟨_, rfl⟩
  rw [hW4] at k0 hb4 ⊢
  have e0 : W4.cell? ⟨rb, 0, none⟩ = some (.string ⟨#[]⟩) := k0.cell 0
  have e1 : W4.cell? ⟨rb, 1, none⟩ = some (.string ⟨#[]⟩) := k0.cell 1
  exact bodyPost_ret (v := .tuple #[ceV zCe, .bool false]) (by simp [results, Try.results37, go_sem, e0, e1, zCe]; rfl) rfl ⟨rfl, hb4⟩
end Go.Proofs.Ytjngangojgjceaa.CA
namespace Go.Proofs.Ytjngangojgjceaa.CA
open Go.ChangeShapes Go.WideShapes Go.ChangeAt Go.RowKit Go.Maps Go.ChangeMaps
open Go.Proofs.Ytjngangojgjceaa.SL Go.Proofs.Ytjngangojgjceaa.EX
set_option maxRecDepth 100000
set_option linter.unusedVariables false
set_option linter.unusedSimpArgs false

theorem fit_text {k : Ky} (hk : FitK k) (hr : rightK k = true) : (textK k).size ≤ 281474976710656 := by
  have := text_size hr
  obtain ⟨h1, h2, h3, _⟩ := hk
  omega
def FalseB (w : World) (e : Ending) (w' : World) : Prop := e = .returned (.bool false) ∧ Below w.heap.size w w'
set_option maxHeartbeats 2000000 in
theorem drop_no {w : World} {r : Value} (k : Ky) (hf : ∀ W, Below w.heap.size w W → Calls Try.prog 37 #[r, kyV k] W (FinC none W)) :
    Calls Try.prog 39 #[r, kyV k] w (FalseB w) := by
  obtain ⟨kb, hkb⟩ : ∃ b, w.heap.size = b := ⟨_, rfl⟩
  obtain ⟨W0, hW0⟩ : ∃ W, w.alloc (.cells (kC k) 23) = W := ⟨_, rfl⟩
  have hb0 : Below w.heap.size w W0 := by rw [← hW0]; exact (Below.refl _ _).alloc (Nat.le_refl _) _
  have kk : Bk W0 kb 23 (kC k) := by rw [← hW0, ← hkb]; exact Bk.new _ _ _
  have HF := Lib.hid (hf W0 hb0)
  have HB := Lib.hid hb0
  obtain ⟨db, ro, fm, no⟩ := k
  have a0 : W0.cell? ⟨kb, 0, none⟩ = some (.string db) := kk.cell 0
  have a1 : W0.cell? ⟨kb, 1, none⟩ = some (.string ro) := kk.cell 1
  have a2 : W0.cell? ⟨kb, 2, none⟩ = some (.int .i64 fm) := kk.cell 2
  have a3 : W0.cell? ⟨kb, 3, none⟩ = some (.string no) := kk.cell 3
  unfold FalseB
  clear hf hb0 kk
  go_enter Try.func39, Try.ntmps39
  go_wp2_with fail
  refine HF.out.mono ?_
  rintro e w2 ⟨rfl, hb2⟩
  have HB := Lib.hid (HB.out.trans (hb2.mono HB.out.size))
  clear hb2 HF hW0 hkb a0 a1 a2 a3
  go_wp2
  go_ret
  exact ⟨rfl, HB.out.alloc HB.out.size _⟩
theorem drop_nil (k : Ky) (w : World) : Calls Try.prog 39 #[.pointer none, kyV k] w (FalseB w) := drop_no k fun W _ => CA.find_nil k W
theorem drop_zero (k : Ky) (w : World) (g : Nat) (h : w.cell? ⟨g, 0, none⟩ = some (.pointer none)) : Calls Try.prog 39 #[ptr g, kyV k] w (FalseB w) :=
  drop_no k fun W hb => CA.find_zero k W g ((hb.cell (p := ⟨g, 0, none⟩) (World.block_lt_of_cell? w _ h)).trans h)
section
variable {w0 w : World} {C : Cb} {N : Nat} {σ : Sg} {O : List Kp}
theorem lc_drop_no (h : LC w0 w C N σ O) (k : Ky) (hk : FitK k) (hf : fV σ.V k = none) : Calls Try.prog 39 #[ptr C.g, kyV k] w (RetC w0 C N σ O (.bool false)) := by
  refine (drop_no k fun W hb => by have := CA.find_any (h.below hb) k hk; rw [hf] at this; exact this).mono ?_
  rintro e w' ⟨rfl, hb⟩
  exact ⟨rfl, h.below hb⟩
set_option maxHeartbeats 8000000 in
theorem lc_drop_yes (h : LC w0 w C N σ O) (k : Ky) (hk : FitK k) (hN : N ≤ 480) (e : Ce) (hf : fV σ.V k = some e) : Calls Try.prog 39 #[ptr C.g, kyV k] w (RetC w0 C N (dropS (textK k) σ) O (.bool true)) := by
  obtain ⟨hr, he1, _⟩ := fV_some hf
  obtain ⟨et, ev⟩ := e
  simp only at he1
  have hts := fit_text hk hr
  obtain ⟨kb, hkb⟩ : ∃ b, w.heap.size = b := ⟨_, rfl⟩
  obtain ⟨W0, hW0⟩ : ∃ W, w.alloc (.cells (kC k) 23) = W := ⟨_, rfl⟩
  have hb0 : Below w.heap.size w W0 := by rw [← hW0]; exact (Below.refl _ _).alloc (Nat.le_refl _) _
  have kk : Bk W0 kb 23 (kC k) := by rw [← hW0, ← hkb]; exact Bk.new _ _ _
  have h1 := h.blkO hb0 (Nat.le_of_eq hkb) kk
  have hfi := CA.find_any h1 k hk
  rw [hf] at hfi
  have HF := Lib.hid hfi
  have hmd : ∀ (W : World) (σ2 : Sg) (O2 : List Kp), LC w0 W C N σ2 O2 → ∀ ty : TypeId, ∃ w', (Builtin.delete_ #[63, 23] ty #[.map (some C.m), kyV k]).run Try.prog W = .ok (.tuple #[]) w' ∧ LC w0 w' C N ⟨σ2.T, σ2.K, σ2.I, delV (textK k) σ2.V⟩ O2 := fun W σ2 O2 hx ty => lc_mdel hx k hk hr ty
  have HMD := Lib.hid hmd
  clear hmd
  have H := Lib.hid h1
  have HTS := Lib.hid hts
  have HN := Lib.hid hN
  rw [← he1] at HTS
  rw [← he1] at HMD
  unfold RetC
  rw [← he1]
  obtain ⟨db, ro, fm, no⟩ := k
  have a0 : W0.cell? ⟨kb, 0, none⟩ = some (.string db) := kk.cell 0
  have a1 : W0.cell? ⟨kb, 1, none⟩ = some (.string ro) := kk.cell 1
  have a2 : W0.cell? ⟨kb, 2, none⟩ = some (.int .i64 fm) := kk.cell 2
  have a3 : W0.cell? ⟨kb, 3, none⟩ = some (.string no) := kk.cell 3
  clear h hk hN hf hr he1 hts hb0 kk h1 hfi
  go_enter Try.func39, Try.ntmps39
  go_wp2_with fail
  try rw [hW0]
  refine HF.out.mono ?_
  rintro e w2 ⟨rfl, hb2⟩
  have HS0 : Hid (W0.heap.size ≤ w2.heap.size) := Lib.hid hb2.size
  have H := Lib.hid (H.out.below hb2)
  obtain ⟨W3, hW3⟩ : ∃ W, w2.alloc (.cells #[.string et, .string ev] 75) = W := ⟨_, rfl⟩
  obtain ⟨eb, heb⟩ : ∃ b, w2.heap.size = b := ⟨_, rfl⟩
  have hb3 : Below w2.heap.size w2 W3 := by rw [← hW3]; exact (Below.refl _ _).alloc (Nat.le_refl _) _
  have ke : Bk W3 eb 75 #[.string et, .string ev] := by rw [← hW3, ← heb]; exact Bk.new _ _ _
  have H := Lib.hid (H.out.blkO hb3 (Nat.le_of_eq heb) ke)
  obtain ⟨c0, c1, c2, c3, c4⟩ := H.out.cells
  have e0 : W3.cell? ⟨eb, 0, none⟩ = some (.string et) := ke.cell 0
  have e1 : W3.cell? ⟨eb, 1, none⟩ = some (.string ev) := ke.cell 1
  clear hb2 hb3 ke HF hW0 hkb a0 a1 a2 a3
  go_wp2_with fail
  try rw [hW3]
  try rw [heb]
  refine wp_region_held_drew (S := (fun w' => ∃ σ', LC w0 w' C N σ' (.blk eb 75 #[.string et, .string ev] :: .blk kb 23 (kC (db, ro, fm, no)) :: O))) (by kernel_rfl) ?_ (fun hS => ?_)
  · exact ⟨_, H.out.below (Below.refl _ _).drew⟩
  refine tkY 0 ?_ rfl hS ?_ ?_
  rotate_left
  · intro wz hz
    obtain ⟨σ9, hz⟩ := hz
    obtain ⟨z0, z1, z2, z3, z4⟩ := hz.cells
    have y0 : wz.cell? ⟨eb, 0, none⟩ = some (.string et) := (hz.blk (List.mem_cons_self ..)).cell 0
    have y1 : wz.cell? ⟨eb, 1, none⟩ = some (.string ev) := (hz.blk (List.mem_cons_self ..)).cell 1
    have q0 : wz.cell? ⟨kb, 0, none⟩ = some (.string db) := (hz.blk (List.mem_cons_of_mem _ (List.mem_cons_self ..))).cell 0
    have q1 : wz.cell? ⟨kb, 1, none⟩ = some (.string ro) := (hz.blk (List.mem_cons_of_mem _ (List.mem_cons_self ..))).cell 1
    have q2 : wz.cell? ⟨kb, 2, none⟩ = some (.int .i64 fm) := (hz.blk (List.mem_cons_of_mem _ (List.mem_cons_self ..))).cell 2
    have q3 : wz.cell? ⟨kb, 3, none⟩ = some (.string no) := (hz.blk (List.mem_cons_of_mem _ (List.mem_cons_self ..))).cell 3
    go_simp
    all_goals first | with_reducible rfl | omega
  try simp only [Act.put, pu]
  refine tkY 1 ?_ rfl hS ?_ ?_
  rotate_left
  · intro wz hz
    obtain ⟨σ9, hz⟩ := hz
    obtain ⟨z0, z1, z2, z3, z4⟩ := hz.cells
    have y0 : wz.cell? ⟨eb, 0, none⟩ = some (.string et) := (hz.blk (List.mem_cons_self ..)).cell 0
    have y1 : wz.cell? ⟨eb, 1, none⟩ = some (.string ev) := (hz.blk (List.mem_cons_self ..)).cell 1
    have q0 : wz.cell? ⟨kb, 0, none⟩ = some (.string db) := (hz.blk (List.mem_cons_of_mem _ (List.mem_cons_self ..))).cell 0
    have q1 : wz.cell? ⟨kb, 1, none⟩ = some (.string ro) := (hz.blk (List.mem_cons_of_mem _ (List.mem_cons_self ..))).cell 1
    have q2 : wz.cell? ⟨kb, 2, none⟩ = some (.int .i64 fm) := (hz.blk (List.mem_cons_of_mem _ (List.mem_cons_self ..))).cell 2
    have q3 : wz.cell? ⟨kb, 3, none⟩ = some (.string no) := (hz.blk (List.mem_cons_of_mem _ (List.mem_cons_self ..))).cell 3
    go_simp
    all_goals first | with_reducible rfl | omega
  try simp only [Act.put, pu]
  refine tkY 2 ?_ rfl hS ?_ ?_
  rotate_left
  · intro wz hz
    obtain ⟨σ9, hz⟩ := hz
    obtain ⟨z0, z1, z2, z3, z4⟩ := hz.cells
    have y0 : wz.cell? ⟨eb, 0, none⟩ = some (.string et) := (hz.blk (List.mem_cons_self ..)).cell 0
    have y1 : wz.cell? ⟨eb, 1, none⟩ = some (.string ev) := (hz.blk (List.mem_cons_self ..)).cell 1
    have q0 : wz.cell? ⟨kb, 0, none⟩ = some (.string db) := (hz.blk (List.mem_cons_of_mem _ (List.mem_cons_self ..))).cell 0
    have q1 : wz.cell? ⟨kb, 1, none⟩ = some (.string ro) := (hz.blk (List.mem_cons_of_mem _ (List.mem_cons_self ..))).cell 1
    have q2 : wz.cell? ⟨kb, 2, none⟩ = some (.int .i64 fm) := (hz.blk (List.mem_cons_of_mem _ (List.mem_cons_self ..))).cell 2
    have q3 : wz.cell? ⟨kb, 3, none⟩ = some (.string no) := (hz.blk (List.mem_cons_of_mem _ (List.mem_cons_self ..))).cell 3
    go_simp
    all_goals first | with_reducible rfl | omega
  try simp only [Act.put, pu]
  refine tkY 3 ?_ rfl hS ?_ ?_
  rotate_left
  · intro wz hz
    obtain ⟨σ9, hz⟩ := hz
    obtain ⟨z0, z1, z2, z3, z4⟩ := hz.cells
    have y0 : wz.cell? ⟨eb, 0, none⟩ = some (.string et) := (hz.blk (List.mem_cons_self ..)).cell 0
    have y1 : wz.cell? ⟨eb, 1, none⟩ = some (.string ev) := (hz.blk (List.mem_cons_self ..)).cell 1
    have q0 : wz.cell? ⟨kb, 0, none⟩ = some (.string db) := (hz.blk (List.mem_cons_of_mem _ (List.mem_cons_self ..))).cell 0
    have q1 : wz.cell? ⟨kb, 1, none⟩ = some (.string ro) := (hz.blk (List.mem_cons_of_mem _ (List.mem_cons_self ..))).cell 1
    have q2 : wz.cell? ⟨kb, 2, none⟩ = some (.int .i64 fm) := (hz.blk (List.mem_cons_of_mem _ (List.mem_cons_self ..))).cell 2
    have q3 : wz.cell? ⟨kb, 3, none⟩ = some (.string no) := (hz.blk (List.mem_cons_of_mem _ (List.mem_cons_self ..))).cell 3
    go_simp
    all_goals first | with_reducible rfl | omega
  try simp only [Act.put, pu]
  refine tkY 4 ?_ rfl hS ?_ ?_
  rotate_left
  · intro wz hz
    obtain ⟨σ9, hz⟩ := hz
    obtain ⟨z0, z1, z2, z3, z4⟩ := hz.cells
    have y0 : wz.cell? ⟨eb, 0, none⟩ = some (.string et) := (hz.blk (List.mem_cons_self ..)).cell 0
    have y1 : wz.cell? ⟨eb, 1, none⟩ = some (.string ev) := (hz.blk (List.mem_cons_self ..)).cell 1
    have q0 : wz.cell? ⟨kb, 0, none⟩ = some (.string db) := (hz.blk (List.mem_cons_of_mem _ (List.mem_cons_self ..))).cell 0
    have q1 : wz.cell? ⟨kb, 1, none⟩ = some (.string ro) := (hz.blk (List.mem_cons_of_mem _ (List.mem_cons_self ..))).cell 1
    have q2 : wz.cell? ⟨kb, 2, none⟩ = some (.int .i64 fm) := (hz.blk (List.mem_cons_of_mem _ (List.mem_cons_self ..))).cell 2
    have q3 : wz.cell? ⟨kb, 3, none⟩ = some (.string no) := (hz.blk (List.mem_cons_of_mem _ (List.mem_cons_self ..))).cell 3
    go_simp
    all_goals first | with_reducible rfl | omega
  try simp only [Act.put, pu]
  refine tkY 5 ?_ rfl hS ?_ ?_
  rotate_left
  · intro wz hz
    obtain ⟨σ9, hz⟩ := hz
    obtain ⟨z0, z1, z2, z3, z4⟩ := hz.cells
    have y0 : wz.cell? ⟨eb, 0, none⟩ = some (.string et) := (hz.blk (List.mem_cons_self ..)).cell 0
    have y1 : wz.cell? ⟨eb, 1, none⟩ = some (.string ev) := (hz.blk (List.mem_cons_self ..)).cell 1
    have q0 : wz.cell? ⟨kb, 0, none⟩ = some (.string db) := (hz.blk (List.mem_cons_of_mem _ (List.mem_cons_self ..))).cell 0
    have q1 : wz.cell? ⟨kb, 1, none⟩ = some (.string ro) := (hz.blk (List.mem_cons_of_mem _ (List.mem_cons_self ..))).cell 1
    have q2 : wz.cell? ⟨kb, 2, none⟩ = some (.int .i64 fm) := (hz.blk (List.mem_cons_of_mem _ (List.mem_cons_self ..))).cell 2
    have q3 : wz.cell? ⟨kb, 3, none⟩ = some (.string no) := (hz.blk (List.mem_cons_of_mem _ (List.mem_cons_self ..))).cell 3
    go_simp
    all_goals first | with_reducible rfl | omega
  try simp only [Act.put, pu]
  refine wpAnyH_ready (rs := [6]) (by kernel_rfl) (by simp) (AllReadyH.cons rfl (fun K' hK' => ?_) AllReadyH.nil)
  go_simp
  refine (lc_sdrop (H.out.below (Below.refl _ _).drew) et HTS.out _ _ rfl rfl).mono ?_
  rintro e w4 ⟨⟨b4, rfl⟩, h4⟩
  have H := Lib.hid h4
  clear h4
  refine hK'.out _ _ ?_ (fun hSn => ?_)
  · exact ⟨_, H.out⟩
  clear hK' K' hS
  have hS := hSn
  clear hSn
  try simp only [Act.put, pu]
  refine wpAnyH_done (by kernel_rfl) ?_ _
  clear hS
  obtain ⟨c0, c1, c2, c3, c4⟩ := H.out.cells
  have e0 : w4.cell? ⟨eb, 0, none⟩ = some (.string et) := (H.out.blk (List.mem_cons_self ..)).cell 0
  have e1 : w4.cell? ⟨eb, 1, none⟩ = some (.string ev) := (H.out.blk (List.mem_cons_self ..)).cell 1
  go_wp2_with fail
  refine wp_region_held_drew (S := (fun w' => ∃ σ', LC w0 w' C N σ' (.blk eb 75 #[.string et, .string ev] :: .blk kb 23 (kC (db, ro, fm, no)) :: O))) (by kernel_rfl) ?_ (fun hS => ?_)
  · exact ⟨_, H.out.below (Below.refl _ _).drew⟩
  refine tkY 0 ?_ rfl hS ?_ ?_
  rotate_left
  · intro wz hz
    obtain ⟨σ9, hz⟩ := hz
    obtain ⟨z0, z1, z2, z3, z4⟩ := hz.cells
    have y0 : wz.cell? ⟨eb, 0, none⟩ = some (.string et) := (hz.blk (List.mem_cons_self ..)).cell 0
    have y1 : wz.cell? ⟨eb, 1, none⟩ = some (.string ev) := (hz.blk (List.mem_cons_self ..)).cell 1
    have q0 : wz.cell? ⟨kb, 0, none⟩ = some (.string db) := (hz.blk (List.mem_cons_of_mem _ (List.mem_cons_self ..))).cell 0
    have q1 : wz.cell? ⟨kb, 1, none⟩ = some (.string ro) := (hz.blk (List.mem_cons_of_mem _ (List.mem_cons_self ..))).cell 1
    have q2 : wz.cell? ⟨kb, 2, none⟩ = some (.int .i64 fm) := (hz.blk (List.mem_cons_of_mem _ (List.mem_cons_self ..))).cell 2
    have q3 : wz.cell? ⟨kb, 3, none⟩ = some (.string no) := (hz.blk (List.mem_cons_of_mem _ (List.mem_cons_self ..))).cell 3
    go_simp
    all_goals first | with_reducible rfl | omega
  try simp only [Act.put, pu]
  refine tkY 1 ?_ rfl hS ?_ ?_
  rotate_left
  · intro wz hz
    obtain ⟨σ9, hz⟩ := hz
    obtain ⟨z0, z1, z2, z3, z4⟩ := hz.cells
    have y0 : wz.cell? ⟨eb, 0, none⟩ = some (.string et) := (hz.blk (List.mem_cons_self ..)).cell 0
    have y1 : wz.cell? ⟨eb, 1, none⟩ = some (.string ev) := (hz.blk (List.mem_cons_self ..)).cell 1
    have q0 : wz.cell? ⟨kb, 0, none⟩ = some (.string db) := (hz.blk (List.mem_cons_of_mem _ (List.mem_cons_self ..))).cell 0
    have q1 : wz.cell? ⟨kb, 1, none⟩ = some (.string ro) := (hz.blk (List.mem_cons_of_mem _ (List.mem_cons_self ..))).cell 1
    have q2 : wz.cell? ⟨kb, 2, none⟩ = some (.int .i64 fm) := (hz.blk (List.mem_cons_of_mem _ (List.mem_cons_self ..))).cell 2
    have q3 : wz.cell? ⟨kb, 3, none⟩ = some (.string no) := (hz.blk (List.mem_cons_of_mem _ (List.mem_cons_self ..))).cell 3
    go_simp
    all_goals first | with_reducible rfl | omega
  try simp only [Act.put, pu]
  refine tkY 2 ?_ rfl hS ?_ ?_
  rotate_left
  · intro wz hz
    obtain ⟨σ9, hz⟩ := hz
    obtain ⟨z0, z1, z2, z3, z4⟩ := hz.cells
    have y0 : wz.cell? ⟨eb, 0, none⟩ = some (.string et) := (hz.blk (List.mem_cons_self ..)).cell 0
    have y1 : wz.cell? ⟨eb, 1, none⟩ = some (.string ev) := (hz.blk (List.mem_cons_self ..)).cell 1
    have q0 : wz.cell? ⟨kb, 0, none⟩ = some (.string db) := (hz.blk (List.mem_cons_of_mem _ (List.mem_cons_self ..))).cell 0
    have q1 : wz.cell? ⟨kb, 1, none⟩ = some (.string ro) := (hz.blk (List.mem_cons_of_mem _ (List.mem_cons_self ..))).cell 1
    have q2 : wz.cell? ⟨kb, 2, none⟩ = some (.int .i64 fm) := (hz.blk (List.mem_cons_of_mem _ (List.mem_cons_self ..))).cell 2
    have q3 : wz.cell? ⟨kb, 3, none⟩ = some (.string no) := (hz.blk (List.mem_cons_of_mem _ (List.mem_cons_self ..))).cell 3
    go_simp
    all_goals first | with_reducible rfl | omega
  try simp only [Act.put, pu]
  refine tkY 3 ?_ rfl hS ?_ ?_
  rotate_left
  · intro wz hz
    obtain ⟨σ9, hz⟩ := hz
    obtain ⟨z0, z1, z2, z3, z4⟩ := hz.cells
    have y0 : wz.cell? ⟨eb, 0, none⟩ = some (.string et) := (hz.blk (List.mem_cons_self ..)).cell 0
    have y1 : wz.cell? ⟨eb, 1, none⟩ = some (.string ev) := (hz.blk (List.mem_cons_self ..)).cell 1
    have q0 : wz.cell? ⟨kb, 0, none⟩ = some (.string db) := (hz.blk (List.mem_cons_of_mem _ (List.mem_cons_self ..))).cell 0
    have q1 : wz.cell? ⟨kb, 1, none⟩ = some (.string ro) := (hz.blk (List.mem_cons_of_mem _ (List.mem_cons_self ..))).cell 1
    have q2 : wz.cell? ⟨kb, 2, none⟩ = some (.int .i64 fm) := (hz.blk (List.mem_cons_of_mem _ (List.mem_cons_self ..))).cell 2
    have q3 : wz.cell? ⟨kb, 3, none⟩ = some (.string no) := (hz.blk (List.mem_cons_of_mem _ (List.mem_cons_self ..))).cell 3
    go_simp
    all_goals first | with_reducible rfl | omega
  try simp only [Act.put, pu]
  refine tkY 4 ?_ rfl hS ?_ ?_
  rotate_left
  · intro wz hz
    obtain ⟨σ9, hz⟩ := hz
    obtain ⟨z0, z1, z2, z3, z4⟩ := hz.cells
    have y0 : wz.cell? ⟨eb, 0, none⟩ = some (.string et) := (hz.blk (List.mem_cons_self ..)).cell 0
    have y1 : wz.cell? ⟨eb, 1, none⟩ = some (.string ev) := (hz.blk (List.mem_cons_self ..)).cell 1
    have q0 : wz.cell? ⟨kb, 0, none⟩ = some (.string db) := (hz.blk (List.mem_cons_of_mem _ (List.mem_cons_self ..))).cell 0
    have q1 : wz.cell? ⟨kb, 1, none⟩ = some (.string ro) := (hz.blk (List.mem_cons_of_mem _ (List.mem_cons_self ..))).cell 1
    have q2 : wz.cell? ⟨kb, 2, none⟩ = some (.int .i64 fm) := (hz.blk (List.mem_cons_of_mem _ (List.mem_cons_self ..))).cell 2
    have q3 : wz.cell? ⟨kb, 3, none⟩ = some (.string no) := (hz.blk (List.mem_cons_of_mem _ (List.mem_cons_self ..))).cell 3
    go_simp
    all_goals first | with_reducible rfl | omega
  try simp only [Act.put, pu]
  refine tkY 5 ?_ rfl hS ?_ ?_
  rotate_left
  · intro wz hz
    obtain ⟨σ9, hz⟩ := hz
    obtain ⟨z0, z1, z2, z3, z4⟩ := hz.cells
    have y0 : wz.cell? ⟨eb, 0, none⟩ = some (.string et) := (hz.blk (List.mem_cons_self ..)).cell 0
    have y1 : wz.cell? ⟨eb, 1, none⟩ = some (.string ev) := (hz.blk (List.mem_cons_self ..)).cell 1
    have q0 : wz.cell? ⟨kb, 0, none⟩ = some (.string db) := (hz.blk (List.mem_cons_of_mem _ (List.mem_cons_self ..))).cell 0
    have q1 : wz.cell? ⟨kb, 1, none⟩ = some (.string ro) := (hz.blk (List.mem_cons_of_mem _ (List.mem_cons_self ..))).cell 1
    have q2 : wz.cell? ⟨kb, 2, none⟩ = some (.int .i64 fm) := (hz.blk (List.mem_cons_of_mem _ (List.mem_cons_self ..))).cell 2
    have q3 : wz.cell? ⟨kb, 3, none⟩ = some (.string no) := (hz.blk (List.mem_cons_of_mem _ (List.mem_cons_self ..))).cell 3
    go_simp
    all_goals first | with_reducible rfl | omega
  try simp only [Act.put, pu]
  refine wpAnyH_ready (rs := [6]) (by kernel_rfl) (by simp) (AllReadyH.cons rfl (fun K' hK' => ?_) AllReadyH.nil)
  go_simp
  refine (lc_qdrop (H.out.below (Below.refl _ _).drew) et HTS.out (by have := HN.out; omega) _ rfl).mono ?_
  rintro e w5 ⟨⟨b5, rfl⟩, h5⟩
  have H := Lib.hid h5
  clear h5
  refine hK'.out _ _ ?_ (fun hSn => ?_)
  · exact ⟨_, H.out⟩
  clear hK' K' hS
  have hS := hSn
  clear hSn
  try simp only [Act.put, pu]
  refine wpAnyH_done (by kernel_rfl) ?_ _
  clear hS
  obtain ⟨c0, c1, c2, c3, c4⟩ := H.out.cells
  have q0 : w5.cell? ⟨kb, 0, none⟩ = some (.string db) := (H.out.blk (List.mem_cons_of_mem _ (List.mem_cons_self ..))).cell 0
  have q1 : w5.cell? ⟨kb, 1, none⟩ = some (.string ro) := (H.out.blk (List.mem_cons_of_mem _ (List.mem_cons_self ..))).cell 1
  have q2 : w5.cell? ⟨kb, 2, none⟩ = some (.int .i64 fm) := (H.out.blk (List.mem_cons_of_mem _ (List.mem_cons_self ..))).cell 2
  have q3 : w5.cell? ⟨kb, 3, none⟩ = some (.string no) := (H.out.blk (List.mem_cons_of_mem _ (List.mem_cons_self ..))).cell 3
  go_wp2_with fail
  refine wp_region_held_drew (S := (fun w' => ∃ σ', LC w0 w' C N σ' (.blk eb 75 #[.string et, .string ev] :: .blk kb 23 (kC (db, ro, fm, no)) :: O))) (by kernel_rfl) ?_ (fun hS => ?_)
  · exact ⟨_, H.out.below (Below.refl _ _).drew⟩
  refine tkY 0 ?_ rfl hS ?_ ?_
  rotate_left
  · intro wz hz
    obtain ⟨σ9, hz⟩ := hz
    obtain ⟨z0, z1, z2, z3, z4⟩ := hz.cells
    have y0 : wz.cell? ⟨eb, 0, none⟩ = some (.string et) := (hz.blk (List.mem_cons_self ..)).cell 0
    have y1 : wz.cell? ⟨eb, 1, none⟩ = some (.string ev) := (hz.blk (List.mem_cons_self ..)).cell 1
    have q0 : wz.cell? ⟨kb, 0, none⟩ = some (.string db) := (hz.blk (List.mem_cons_of_mem _ (List.mem_cons_self ..))).cell 0
    have q1 : wz.cell? ⟨kb, 1, none⟩ = some (.string ro) := (hz.blk (List.mem_cons_of_mem _ (List.mem_cons_self ..))).cell 1
    have q2 : wz.cell? ⟨kb, 2, none⟩ = some (.int .i64 fm) := (hz.blk (List.mem_cons_of_mem _ (List.mem_cons_self ..))).cell 2
    have q3 : wz.cell? ⟨kb, 3, none⟩ = some (.string no) := (hz.blk (List.mem_cons_of_mem _ (List.mem_cons_self ..))).cell 3
    go_simp
    all_goals first | with_reducible rfl | omega
  try simp only [Act.put, pu]
  refine tkY 1 ?_ rfl hS ?_ ?_
  rotate_left
  · intro wz hz
    obtain ⟨σ9, hz⟩ := hz
    obtain ⟨z0, z1, z2, z3, z4⟩ := hz.cells
    have y0 : wz.cell? ⟨eb, 0, none⟩ = some (.string et) := (hz.blk (List.mem_cons_self ..)).cell 0
    have y1 : wz.cell? ⟨eb, 1, none⟩ = some (.string ev) := (hz.blk (List.mem_cons_self ..)).cell 1
    have q0 : wz.cell? ⟨kb, 0, none⟩ = some (.string db) := (hz.blk (List.mem_cons_of_mem _ (List.mem_cons_self ..))).cell 0
    have q1 : wz.cell? ⟨kb, 1, none⟩ = some (.string ro) := (hz.blk (List.mem_cons_of_mem _ (List.mem_cons_self ..))).cell 1
    have q2 : wz.cell? ⟨kb, 2, none⟩ = some (.int .i64 fm) := (hz.blk (List.mem_cons_of_mem _ (List.mem_cons_self ..))).cell 2
    have q3 : wz.cell? ⟨kb, 3, none⟩ = some (.string no) := (hz.blk (List.mem_cons_of_mem _ (List.mem_cons_self ..))).cell 3
    go_simp
    all_goals first | with_reducible rfl | omega
  try simp only [Act.put, pu]
  refine tkY 2 ?_ rfl hS ?_ ?_
  rotate_left
  · intro wz hz
    obtain ⟨σ9, hz⟩ := hz
    obtain ⟨z0, z1, z2, z3, z4⟩ := hz.cells
    have y0 : wz.cell? ⟨eb, 0, none⟩ = some (.string et) := (hz.blk (List.mem_cons_self ..)).cell 0
    have y1 : wz.cell? ⟨eb, 1, none⟩ = some (.string ev) := (hz.blk (List.mem_cons_self ..)).cell 1
    have q0 : wz.cell? ⟨kb, 0, none⟩ = some (.string db) := (hz.blk (List.mem_cons_of_mem _ (List.mem_cons_self ..))).cell 0
    have q1 : wz.cell? ⟨kb, 1, none⟩ = some (.string ro) := (hz.blk (List.mem_cons_of_mem _ (List.mem_cons_self ..))).cell 1
    have q2 : wz.cell? ⟨kb, 2, none⟩ = some (.int .i64 fm) := (hz.blk (List.mem_cons_of_mem _ (List.mem_cons_self ..))).cell 2
    have q3 : wz.cell? ⟨kb, 3, none⟩ = some (.string no) := (hz.blk (List.mem_cons_of_mem _ (List.mem_cons_self ..))).cell 3
    go_simp
    all_goals first | with_reducible rfl | omega
  try simp only [Act.put, pu]
  refine tkY 3 ?_ rfl hS ?_ ?_
  rotate_left
  · intro wz hz
    obtain ⟨σ9, hz⟩ := hz
    obtain ⟨z0, z1, z2, z3, z4⟩ := hz.cells
    have y0 : wz.cell? ⟨eb, 0, none⟩ = some (.string et) := (hz.blk (List.mem_cons_self ..)).cell 0
    have y1 : wz.cell? ⟨eb, 1, none⟩ = some (.string ev) := (hz.blk (List.mem_cons_self ..)).cell 1
    have q0 : wz.cell? ⟨kb, 0, none⟩ = some (.string db) := (hz.blk (List.mem_cons_of_mem _ (List.mem_cons_self ..))).cell 0
    have q1 : wz.cell? ⟨kb, 1, none⟩ = some (.string ro) := (hz.blk (List.mem_cons_of_mem _ (List.mem_cons_self ..))).cell 1
    have q2 : wz.cell? ⟨kb, 2, none⟩ = some (.int .i64 fm) := (hz.blk (List.mem_cons_of_mem _ (List.mem_cons_self ..))).cell 2
    have q3 : wz.cell? ⟨kb, 3, none⟩ = some (.string no) := (hz.blk (List.mem_cons_of_mem _ (List.mem_cons_self ..))).cell 3
    go_simp
    all_goals first | with_reducible rfl | omega
  try simp only [Act.put, pu]
  refine tkY 4 ?_ rfl hS ?_ ?_
  rotate_left
  · intro wz hz
    obtain ⟨σ9, hz⟩ := hz
    obtain ⟨z0, z1, z2, z3, z4⟩ := hz.cells
    have y0 : wz.cell? ⟨eb, 0, none⟩ = some (.string et) := (hz.blk (List.mem_cons_self ..)).cell 0
    have y1 : wz.cell? ⟨eb, 1, none⟩ = some (.string ev) := (hz.blk (List.mem_cons_self ..)).cell 1
    have q0 : wz.cell? ⟨kb, 0, none⟩ = some (.string db) := (hz.blk (List.mem_cons_of_mem _ (List.mem_cons_self ..))).cell 0
    have q1 : wz.cell? ⟨kb, 1, none⟩ = some (.string ro) := (hz.blk (List.mem_cons_of_mem _ (List.mem_cons_self ..))).cell 1
    have q2 : wz.cell? ⟨kb, 2, none⟩ = some (.int .i64 fm) := (hz.blk (List.mem_cons_of_mem _ (List.mem_cons_self ..))).cell 2
    have q3 : wz.cell? ⟨kb, 3, none⟩ = some (.string no) := (hz.blk (List.mem_cons_of_mem _ (List.mem_cons_self ..))).cell 3
    go_simp
    all_goals first | with_reducible rfl | omega
  try simp only [Act.put, pu]
  obtain ⟨w6, hrun, h6⟩ := HMD.out _ _ _ (H.out.below (Below.refl _ _).drew) 0
  have H := Lib.hid h6
  clear h6
  refine wpAnyH_ready (rs := [5]) (by kernel_rfl) (by simp) (AllReadyH.cons rfl (fun K' hK' => ?_) AllReadyH.nil)
  go_simp
  refine hK'.out _ _ ?_ (fun hSn => ?_)
  · exact ⟨_, H.out⟩
  clear hK' K' hS
  have hS := hSn
  clear hSn
  try simp only [Act.put, pu]
  refine wpAnyH_done (by kernel_rfl) ?_ _
  clear hS
  clear hrun c0 c1 c2 c3 c4 q0 q1 q2 q3 e0 e1
  go_wp2
  go_ret
  exact ⟨rfl, H.out.forget fun p hp => List.mem_cons_of_mem _ (List.mem_cons_of_mem _ hp)⟩
end
end Go.Proofs.Ytjngangojgjceaa.CA
namespace Go.Proofs.Ytjngangojgjceaa.CA
open Go.ChangeShapes Go.WideShapes Go.ChangeAt Go.RowKit Go.Maps Go.ChangeMaps
open Go.Proofs.Ytjngangojgjceaa.SL Go.Proofs.Ytjngangojgjceaa.EX Go.Proofs.Ytjngangojgjceaa.RW
set_option maxRecDepth 100000
set_option linter.unusedVariables false
set_option linter.unusedSimpArgs false

def kRow (k : Ky) : List Value := [.string k.1, .string k.2.1, .int .i64 k.2.2.1, .string k.2.2.2]
def kRs (d : List Ky) : List Value := fz (d.map kRow)
theorem kUni (d : List Ky) : Uni 4 (d.map kRow) := fun r hr => by
  obtain ⟨k, _, rfl⟩ := List.mem_map.1 hr; rfl
theorem kRs_len (d : List Ky) : (kRs d).length = d.length * 4 := by unfold kRs; rw [fz_len (kUni d), List.length_map]
theorem kRs_app (a b : List Ky) : kRs (a ++ b) = kRs a ++ kRs b := by unfold kRs; rw [List.map_append, fz_append]
theorem kRs_at {d : List Ky} {i : Nat} {k : Ky} (h : d[i]? = some k) (j : Nat) (hj : j < 4) : (kRs d)[i * 4 + j]? = (kRow k)[j]? := by
  unfold kRs
  exact fz_at (kUni d) (by rw [List.getElem?_map, h]; rfl) j hj
/-- v is a slice of keys that reads as d -/
def KR (w : World) (v : Value) (d : List Ky) : Prop :=
  (∃ A cap, v = .slice A 0 cap ∧ d = []) ∨
  ∃ b off cap, v = .slice (some ⟨b, off, none⟩) d.length cap ∧ d.length ≤ cap ∧ ∀ (i : Nat) (k : Ky), d[i]? = some k → w.cell? ⟨b, off + i * 4, none⟩ = some (.string k.1) ∧ w.cell? ⟨b, off + i * 4 + 1, none⟩ = some (.string k.2.1) ∧ w.cell? ⟨b, off + i * 4 + 2, none⟩ = some (.int .i64 k.2.2.1) ∧ w.cell? ⟨b, off + i * 4 + 3, none⟩ = some (.string k.2.2.2)
/-- the call owns the keys, of the type te -/
def KO (te : TypeId) (B : Nat) (w : World) (v : Value) (d : List Ky) : Prop := w.ownsRow B te 4 v d.length (kRs d)
section
variable {te : TypeId} {B : Nat} {w w' : World} {v : Value} {d : List Ky}
theorem KR.keep (h : KR w v d) (hk : ∀ p : Addr, (w.cell? p).isSome = true → w'.cell? p = w.cell? p) : KR w' v d := by
  rcases h with h | ⟨b, off, cap, e, hc, hm⟩
  · exact .inl h
  · refine .inr ⟨b, off, cap, e, hc, fun i k hi => ?_⟩
    obtain ⟨h0, h1, h2, h3⟩ := hm i k hi
    exact ⟨(hk _ (by rw [h0]; rfl)).trans h0, (hk _ (by rw [h1]; rfl)).trans h1, (hk _ (by rw [h2]; rfl)).trans h2, (hk _ (by rw [h3]; rfl)).trans h3⟩
theorem KR.below (h : KR w v d) (hb : Below w.heap.size w w') : KR w' v d :=
  h.keep fun p hp => by
    obtain ⟨u, hu⟩ := Option.isSome_iff_exists.1 hp
    exact hb.cell (World.block_lt_of_cell? w p hu)
theorem KR.form (h : KR w v d) : ∃ a cap, v = .slice a d.length cap := by
  rcases h with ⟨A, cap, rfl, rfl⟩ | ⟨b, off, cap, rfl, _⟩
  · exact ⟨_, _, rfl⟩
  · exact ⟨_, _, rfl⟩
theorem KR.inv (h : KR w v d) (hp : 0 < d.length) : ∃ b off cap, v = .slice (some ⟨b, off, none⟩) d.length cap ∧ d.length ≤ cap ∧ ∀ (i : Nat) (k : Ky), d[i]? = some k → w.cell? ⟨b, off + i * 4, none⟩ = some (.string k.1) ∧ w.cell? ⟨b, off + i * 4 + 1, none⟩ = some (.string k.2.1) ∧ w.cell? ⟨b, off + i * 4 + 2, none⟩ = some (.int .i64 k.2.2.1) ∧ w.cell? ⟨b, off + i * 4 + 3, none⟩ = some (.string k.2.2.2) := by
  rcases h with ⟨A, cap, rfl, rfl⟩ | h
  · simp at hp
  · exact h
theorem KO.kr (h : KO te B w v d) : KR w v d := by
  rcases h.2 with ⟨rfl, hz⟩ | ⟨g, cap, cur, rfl, hb, hh, hc, hm, hs, ht⟩
  · exact .inl ⟨none, 0, rfl, List.eq_nil_of_length_eq_zero hz⟩
  · refine .inr ⟨g, 0, cap, rfl, hc, fun i k hi => ?_⟩
    have at_ : ∀ j, j < 4 → ∀ u, (kRow k)[j]? = some u → w.cell? ⟨g, 0 + i * 4 + j, none⟩ = some u := fun j hj u hu => by
      have := World.ownsRow.cells h (g := g) rfl (i * 4 + j) u (by rw [kRs_at hi j hj]; exact hu)
      rw [Addr.add_lit] at this
      rw [Nat.add_assoc]; exact this
    exact ⟨at_ 0 (by omega) _ rfl, at_ 1 (by omega) _ rfl, at_ 2 (by omega) _ rfl, at_ 3 (by omega) _ rfl⟩
theorem KO.nil (te : TypeId) (B : Nat) (w : World) : KO te B w (.slice none 0 0) [] := World.ownsRow_nil _ _ _ _
theorem KO.keepB (h : KO te B w v d) (hk : ∀ b, v.ownBlock = some b → w'.heap[b]? = w.heap[b]?) : KO te B w' v d := by
  refine ⟨h.1, ?_⟩
  rcases h.2 with h2 | ⟨q, cap, cur, rfl, hbb, hg, hr⟩
  · exact .inl h2
  · exact .inr ⟨q, cap, cur, rfl, hbb, (hk q rfl).trans hg, hr⟩
theorem KO.below (h : KO te B w v d) (hb : Below w.heap.size w w') : KO te B w' v d := h.keepB fun q hq => hb.block q (World.ownsRow.lt h q hq).2
theorem KO.mono (h : KO te B w v d) {B' : Nat} (hB : B' ≤ B) : KO te B' w v d := by
  refine ⟨h.1, ?_⟩
  rcases h.2 with h2 | ⟨q, cap, cur, rfl, hbb, hr⟩
  · exact .inl h2
  · exact .inr ⟨q, cap, cur, rfl, Nat.le_trans hB hbb, hr⟩
theorem KO.form (h : KO te B w v d) : ∃ a c, v = .slice a d.length c := h.kr.form
theorem KO.ty (h : KO te B w v d) : ∀ b, v.ownBlock = some b → B ≤ b ∧ b < w.heap.size ∧ ∃ cur fz, w.heap[b]? = some (.cells cur te fz) := by
  intro b hb
  refine ⟨(World.ownsRow.lt h b hb).1, (World.ownsRow.lt h b hb).2, ?_⟩
  rcases h.2 with ⟨rfl, _⟩ | ⟨q, cap, cur, rfl, hbb, hg, hr⟩
  · cases hb
  · injection hb with hb
    subst hb
    exact ⟨cur, _, hg⟩
/-- a key put behind a list of keys that the call owns -/
theorem wpList_app_key {ops : Array Oper} {rest : List Oper} {o : Oper} {a : Act} {Q : Exit → Act → World → Prop} (te ts : TypeId) (hu : Try.prog.underlying ts = some (.slice te)) (hi : ∃ i z, Try.prog.info? te = some i ∧ i.zero = some z ∧ i.size = 4 ∧ i.bytes = 56 ∧ z.cells.size = 4)
    (B : Nat) (v : Value) (d : List Ky) (k : Ky) (nb : Nat) (hgd : o.guard = none) (s x : Operand)
    (ho : o.op = .call { callee := .builtin .append, args := #[s, x], argTypes := #[ts, ts] }) (hs : a.eval s = v) (hown : KO te B w v d) (hx : a.eval x = .slice (some ⟨nb, 0, none⟩) 1 1) (h2 : Bk w nb te (kC k))
    (hd : d.length ≤ 1099511627776) (hB : B ≤ w.heap.size)
    (hk : ∀ va c w', KO te B w' (.slice va (d ++ [k]).length c) (d ++ [k]) → w.grownBy w' v.ownBlock → wpList Try.prog ops Q rest (a.put o.dst (.slice va (d ++ [k]).length c)) w') : wpList Try.prog ops Q (o :: rest) a w := by
  obtain ⟨i, z, hi, hz, hsz, hby, hzs⟩ := hi
  refine wpList_append_lies _ hgd s x ts ho B te i z 4 56 hu hi hz hsz hby hzs (by decide) v d.length (kRs d) hs hown ⟨nb, 0, none⟩ 1 1 (kRow k) hx rfl ?_ ?_ (by omega) (by unfold maxLen; omega) (by omega) hB _ rfl ?_
  · intro j u hj
    have := h2.cell j
    rw [Addr.add_lit, Nat.zero_add, this]
    match j, hj with
    | 0, hj => exact hj
    | 1, hj => exact hj
    | 2, hj => exact hj
    | 3, hj => exact hj
    | j + 4, hj => simp [kRow] at hj
  · intro u hu
    simp only [kRow, List.mem_cons, List.not_mem_nil, or_false] at hu
    rcases hu with rfl | rfl | rfl | rfl <;> rfl
  · intro g' cap' w' o1 o2 o3 o4
    have e1 : d.length + 1 = (d ++ [k]).length := by rw [List.length_append]; rfl
    rw [e1] at o1 ⊢
    refine hk _ _ _ ?_ o2
    unfold KO
    rw [kRs_app]
    have : kRs [k] = kRow k := by unfold kRs; rw [List.map_cons, List.map_nil]; show [kRow k].flatten = _; simp
    rw [this]; exact o1
end
theorem iKey : ∃ i z, Try.prog.info? 23 = some i ∧ i.zero = some z ∧ i.size = 4 ∧ i.bytes = 56 ∧ z.cells.size = 4 := by
  have h : (Try.prog.info? 23).bind (fun i => if i.size = 4 ∧ i.bytes = 56 then i.zero else none) = some (.agg zkC) := by kernel_rfl
  cases hi : Try.prog.info? 23 with
  | none => rw [hi] at h; cases h
  | some j =>
    rw [hi] at h
    by_cases hc : j.size = 4 ∧ j.bytes = 56
    · simp only [Option.bind_some, if_pos hc] at h
      exact ⟨j, _, rfl, h, hc.1, hc.2, rfl⟩
    · simp [hc] at h
def KeysC (d : List Ky) (w : World) (e : Ending) (w' : World) : Prop := ∃ a c, e = .returned (.slice a d.length c) ∧ KO 23 w.heap.size w' (.slice a d.length c) d ∧ Below w.heap.size w w'
set_option maxHeartbeats 4000000 in
theorem parsed_any (v : Value) (l : List ByteArray) (w : World) (h : TS w v l) (hl : l.length ≤ 1099511627776) (hs : ∀ t ∈ l, t.size ≤ 1099511627776) :
    Calls Try.prog 56 #[v] w (KeysC (l.map parK) w) := by
  obtain ⟨va, vc, rfl⟩ := h.form
  have HE := Lib.hid h
  have HLEN := Lib.hid hl
  have HS := Lib.hid hs
  clear h hl hs
  unfold KeysC
  go_enter Try.func56, Try.ntmps56
  go_wp2
  go_loopg [3, 10] l.length (fun g u3 u10 wx => ∃ i : Nat, u10 = .int .i64 (i : Int) ∧ i + g = l.length ∧ KO 23 w.heap.size wx u3 ((l.take i).map parK) ∧ Below w.heap.size w wx)
  case atStart => exact ⟨0, rfl, by omega, KO.nil _ _ _, Below.refl _ _⟩
  case round =>
    obtain ⟨i, rfl, hi, hO, hB⟩ := hrel
    obtain ⟨ua, uc, rfl⟩ := hO.form
    have HO := Lib.hid hO
    have HB := Lib.hid hB
    cases gk with
    | zero =>
      have hil : i = l.length := by omega
      have l1 : ¬ ((i : Int) < (l.length : Int)) := by omega
      have hD : (l.take i).map parK = l.map parK := by rw [hil, List.take_length]
      rw [hD] at HO ⊢
      have HO := Lib.hid HO.out
      clear hi hil hO hB hD
      go_wp2
      go_ret
      exact ⟨_, _, rfl, by have := HO.out; rw [List.length_map] at this; exact this, HB.out⟩
    | succ g =>
      have hlt : i < l.length := by omega
      obtain ⟨b, off, cap, he, hc, hx⟩ := (HE.out.below hB).inv (by omega)
      injection he with e1 _ e3
      subst e1 e3
      obtain ⟨y, hy⟩ : ∃ y, l[i] = y := ⟨_, rfl⟩
      have hyi : l[i]? = some y := by rw [List.getElem?_eq_getElem hlt, hy]
      have x0 := hx i y hyi
      have l0 : (0 : Int) ≤ (i : Int) := by omega
      have l1 : (i : Int) < (l.length : Int) := by omega
      obtain ⟨i1, hi1⟩ : ∃ i1, i + 1 = i1 := ⟨_, rfl⟩
      have wk : IntKind.i64.wrap ((i : Int) + 1) = (i1 : Int) := by rw [show (i : Int) + 1 = (i1 : Int) by omega]; exact IntWalk.i64_in _ (by have := HLEN.out; omega)
      have hk : (l.take i1).map parK = (l.take i).map parK ++ [parK y] := by rw [← hi1, List.take_add_one, hyi, List.map_append]; rfl
      obtain ⟨D, hD⟩ : ∃ D, (l.take i).map parK = D := ⟨_, rfl⟩
      have HDL : Hid (D.length ≤ 1099511627776) := Lib.hid (by rw [← hD, List.length_map, List.length_take]; have := HLEN.out; omega)
      rw [hD] at hk
      have HC := Lib.hid (fun w => parse_any y (HS.out y (List.mem_of_getElem? hyi)) w)
      obtain ⟨K, hK⟩ : ∃ K, parK y = K := ⟨_, rfl⟩
      unfold ParP at HC
      rw [hK] at hk HC
      have HK := Lib.hid hk
      have HO := Lib.hid (show KO 23 w.heap.size wr (.slice ua D.length uc) D by rw [← hD]; exact hO)
      have HI1 : Hid (i1 + g = l.length) := Lib.hid (by omega)
      obtain ⟨db, ro, fm, no⟩ := K
      rw [hD]
      clear hi hx hc hy hyi hi1 hk hO hB hlt hD hK
      go_wp2_with fail
      refine (HC.out _).mono ?_
      rintro e w2 ⟨rfl, hb2⟩
      have HO := Lib.hid (HO.out.below hb2)
      have HB := Lib.hid (HB.out.trans (hb2.mono HB.out.size))
      obtain ⟨W3, hW3⟩ : ∃ W, w2.alloc (.cells #[.string db, .string ro, .int .i64 fm, .string no] 23) = W := ⟨_, rfl⟩
      obtain ⟨eb, heb⟩ : ∃ b, w2.heap.size = b := ⟨_, rfl⟩
      have hb3 : Below w2.heap.size w2 W3 := by rw [← hW3]; exact (Below.refl _ _).alloc (Nat.le_refl _) _
      have ke : Bk W3 eb 23 (kC (db, ro, fm, no)) := by rw [← hW3, ← heb]; exact Bk.new _ _ _
      have e0 : W3.cell? ⟨eb, 0, none⟩ = some (.string db) := ke.cell 0
      have e1 : W3.cell? ⟨eb, 1, none⟩ = some (.string ro) := ke.cell 1
      have e2 : W3.cell? ⟨eb, 2, none⟩ = some (.int .i64 fm) := ke.cell 2
      have e3 : W3.cell? ⟨eb, 3, none⟩ = some (.string no) := ke.cell 3
      obtain ⟨W4, hW4⟩ : ∃ W, W3.alloc (.cells #[.string db, .string ro, .int .i64 fm, .string no] 23) = W := ⟨_, rfl⟩
      obtain ⟨nb, hnb⟩ : ∃ b, W3.heap.size = b := ⟨_, rfl⟩
      have hb4 : Below w2.heap.size w2 W4 := by rw [← hW4]; exact hb3.alloc hb3.size _
      have kn : Bk W4 nb 23 (kC (db, ro, fm, no)) := by rw [← hW4, ← hnb]; exact Bk.new _ _ _
      have HO := Lib.hid (HO.out.below hb4)
      have HB := Lib.hid (HB.out.trans (hb4.mono HB.out.size))
      have HKN := Lib.hid kn
      clear hb2 hb3 hb4 kn ke HC
      go_wp2_with (at_builtin; (try rw [hW3]); (try rw [heb]); (try rw [hW4]); (try rw [hnb]); refine wpList_app_key 23 44 Try.underlying44 iKey w.heap.size (.slice ua D.length uc) D (db, ro, fm, no) nb rfl _ _ rfl rfl HO.out rfl HKN.out HDL.out HB.out.size ?_; intro g9 cap9 w9 o9 gr9)
      have HB9 : Hid (Below w.heap.size w w9) := Lib.hid (HB.out.grown gr9 HB.out.size fun k hk => (World.ownsRow.lt HO.out k hk).1)
      have HO9 := Lib.hid o9
      clear o9 gr9
      go_wp2
      go_roundg g
      case measure => exact Nat.lt_succ_self _
      case rel =>
        refine ⟨i1, rfl, HI1.out, ?_, HB9.out⟩
        rw [HK.out]
        have := HO9.out
        rw [List.length_append] at this
        exact this
end Go.Proofs.Ytjngangojgjceaa.CA
