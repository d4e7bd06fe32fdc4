/- Package flight: Ask as a whole, Leader, Waits, Open, Land, Leave. Conditions: how many asks there were, how long keys are. -/
import Derived.Test.YtldpamlmnganmaaFlk
namespace Go.Proofs.Ytldpamlmnganmaa.FL
open Go.ChangeShapes Go.WideShapes Go.ChangeAt Go.RowKit Go.Maps Go.ChangeMaps
open Go.Proofs.Ytldpamlmnganmaa.SL
set_option maxRecDepth 100000
set_option linter.unusedVariables false
set_option linter.unusedSimpArgs false

theorem ask_any {w : World} {a N : Nat} {C : Bs} {S : List Fl} (h : CB w a N C S) (hN : N ≤ 1000000) (k : Ky) (hk : FitK k) (c : Int) (hc : I9 c) :
    Calls Try.prog 10 #[ptr a, kyV k, .int .i64 c] w (AskP w a N C (askS S k c)) := by
  unfold askS
  by_cases h0 : c < 0
  · rw [if_pos h0]; exact ask_arg h k c h0
  · rw [if_neg h0]
    have hc2 : 0 ≤ c ∧ c ≤ 9223372036854775807 := ⟨by omega, hc.2⟩
    cases hZ : C.Z c with
    | some p =>
      obtain ⟨k', r, _, _, _, ho⟩ := h.of_some hZ
      rw [ho]; exact ask_state h k c hc2 hZ
    | none =>
      rw [h.of_none hZ, if_neg (by simp)]
      cases hF : C.F k with
      | none => rw [h.find_none hF]; exact ask_open h hN k hk c hc2 hZ hF
      | some r => rw [h.find_some hF]; exact ask_join h hN k hk c hc2 hZ r hF
def RdP (v : Value) (w : World) (e : Ending) (w' : World) : Prop := e = .returned v ∧ Below w.heap.size w w'
theorem head_cl (r : Fr) : (cl r).headD 0 = r.ld := rfl
set_option maxHeartbeats 4000000 in
theorem lead_any {w : World} {a N : Nat} {C : Bs} {S : List Fl} (h : CB w a N C S) (k : Ky) (hk : FitK k) :
    Calls Try.prog 19 #[ptr a, kyV k] w (RdP (.tuple #[.int .i64 (leadS S k).1, .bool (leadS S k).2]) w) := by
  obtain ⟨W0, hW0⟩ : ∃ W, w.alloc (.cells (kC k) 30) = W := ⟨_, rfl⟩
  obtain ⟨kb, hkb⟩ : ∃ b, w.heap.size = b := ⟨_, rfl⟩
  have b0 : Below w.heap.size w W0 := by rw [← hW0]; exact (Below.refl _ _).alloc (Nat.le_refl _) _
  have kk : Bk W0 kb 30 (kC k) := by rw [← hW0, ← hkb]; exact Bk.new _ _ _
  have HB0 := Lib.hid b0
  have H := Lib.hid h
  have HFI := Lib.hid (find_any (h.below b0) k hk)
  cases hF : C.F k with
  | none =>
    unfold leadS
    rw [h.find_none hF]
    rw [hF] at HFI
    have HFI : Hid (Calls Try.prog 30 #[ptr a, kyV k] W0 (RdP (.tuple #[.pointer none, .bool false]) W0)) := HFI
    obtain ⟨db, ro, fm, no⟩ := k
    have a0 : W0.cell? ⟨kb, 0, none⟩ = some (.string db) := kk.cell 0
    have a1 : W0.cell? ⟨kb, 1, none⟩ = some (.string ro) := kk.cell 1
    have a2 : W0.cell? ⟨kb, 2, none⟩ = some (.int .i64 fm) := kk.cell 2
    have a3 : W0.cell? ⟨kb, 3, none⟩ = some (.string no) := kk.cell 3
    clear h hk b0 kk hF
    go_enter Try.func19, Try.ntmps19
    go_wp2_with fail
    try rw [hW0]
    try rw [hkb]
    go_wp2_with fail
    refine HFI.out.mono ?_
    rintro e w2 ⟨rfl, hb2⟩
    have HB2 := Lib.hid (HB0.out.trans (hb2.mono HB0.out.size))
    clear hb2
    go_wp2
    go_ret2
    exact ⟨rfl, HB2.out⟩
  | some r =>
    unfold leadS
    rw [h.find_some hF]
    rw [hF] at HFI
    have HFI : Hid (Calls Try.prog 30 #[ptr a, kyV k] W0 (RdP (.tuple #[ptr r.g, .bool true]) W0)) := HFI
    have HR := Lib.hid ((h.below b0).row k r hF)
    obtain ⟨db, ro, fm, no⟩ := k
    have a0 : W0.cell? ⟨kb, 0, none⟩ = some (.string db) := kk.cell 0
    have a1 : W0.cell? ⟨kb, 1, none⟩ = some (.string ro) := kk.cell 1
    have a2 : W0.cell? ⟨kb, 2, none⟩ = some (.int .i64 fm) := kk.cell 2
    have a3 : W0.cell? ⟨kb, 3, none⟩ = some (.string no) := kk.cell 3
    clear h hk b0 kk hF
    show Calls _ _ _ _ (RdP (.tuple #[.int .i64 r.ld, .bool true]) w)
    go_enter Try.func19, Try.ntmps19
    go_wp2_with fail
    try rw [hW0]
    try rw [hkb]
    go_wp2_with fail
    refine HFI.out.mono ?_
    rintro e w2 ⟨rfl, hb2⟩
    have HB2 := Lib.hid (HB0.out.trans (hb2.mono HB0.out.size))
    have q4 : w2.cell? ⟨r.g, 4, none⟩ = some (.int .i64 r.ld) := (HR.out.bk.heap (hb2.block _ HR.out.lt.1)).cell 4
    clear hb2
    go_wp2
    go_ret2
    exact ⟨rfl, HB2.out⟩
def LanP (w : World) (a N : Nat) (C : Bs) (R : List Fl × Int × List Int × Bool) (e : Ending) (w' : World) : Prop := ∃ v, e = .returned (.tuple #[.int .i64 R.2.1, v, .bool R.2.2.2]) ∧ OI w.heap.size w' v R.2.2.1 ∧ StP w a N C R.1 w'
set_option maxHeartbeats 4000000 in
theorem land_any {w : World} {a N : Nat} {C : Bs} {S : List Fl} (h : CB w a N C S) (hN : N ≤ 1000000) (k : Ky) (hk : FitK k) :
    Calls Try.prog 13 #[ptr a, kyV k] w (LanP w a N C (landS S k)) := by
  obtain ⟨W0, hW0⟩ : ∃ W, w.alloc (.cells (kC k) 30) = W := ⟨_, rfl⟩
  obtain ⟨kb, hkb⟩ : ∃ b, w.heap.size = b := ⟨_, rfl⟩
  have b0 : Below w.heap.size w W0 := by rw [← hW0]; exact (Below.refl _ _).alloc (Nat.le_refl _) _
  have kk : Bk W0 kb 30 (kC k) := by rw [← hW0, ← hkb]; exact Bk.new _ _ _
  have HB0 := Lib.hid b0
  have H := Lib.hid h
  have HFI := Lib.hid (find_any (h.below b0) k hk)
  have HN := Lib.hid hN
  cases hF : C.F k with
  | none =>
    unfold landS
    rw [h.find_none hF]
    rw [hF] at HFI
    have HFI : Hid (Calls Try.prog 30 #[ptr a, kyV k] W0 (RdP (.tuple #[.pointer none, .bool false]) W0)) := HFI
    obtain ⟨db, ro, fm, no⟩ := k
    have a0 : W0.cell? ⟨kb, 0, none⟩ = some (.string db) := kk.cell 0
    have a1 : W0.cell? ⟨kb, 1, none⟩ = some (.string ro) := kk.cell 1
    have a2 : W0.cell? ⟨kb, 2, none⟩ = some (.int .i64 fm) := kk.cell 2
    have a3 : W0.cell? ⟨kb, 3, none⟩ = some (.string no) := kk.cell 3
    clear h hk b0 kk hF hN
    go_enter Try.func13, Try.ntmps13
    go_wp2_with fail
    try rw [hW0]
    try rw [hkb]
    go_wp2_with fail
    refine HFI.out.mono ?_
    rintro e w2 ⟨rfl, hb2⟩
    have HB2 := Lib.hid (HB0.out.trans (hb2.mono HB0.out.size))
    clear hb2
    go_wp2
    refine bodyPost_ret (v := .tuple #[.int .i64 0, .slice none 0 0, .bool false]) (by simp [results, Try.results13, go_sem]) rfl ?_
    exact ⟨_, rfl, OI.nil _ _, StP.same H.out HB2.out⟩
  | some r =>
    unfold landS
    rw [h.find_some hF]
    rw [hF] at HFI
    have HFI : Hid (Calls Try.prog 30 #[ptr a, kyV k] W0 (RdP (.tuple #[ptr r.g, .bool true]) W0)) := HFI
    have HF := Lib.hid hF
    have HR := Lib.hid ((h.below b0).row k r hF)
    show Calls _ _ _ _ (LanP w a N C (closeS S k, r.ld, r.fl.map (·.2), true))
    obtain ⟨db, ro, fm, no⟩ := k
    have a0 : W0.cell? ⟨kb, 0, none⟩ = some (.string db) := kk.cell 0
    have a1 : W0.cell? ⟨kb, 1, none⟩ = some (.string ro) := kk.cell 1
    have a2 : W0.cell? ⟨kb, 2, none⟩ = some (.int .i64 fm) := kk.cell 2
    have a3 : W0.cell? ⟨kb, 3, none⟩ = some (.string no) := kk.cell 3
    clear h hk b0 kk hF hN
    go_enter Try.func13, Try.ntmps13
    go_wp2_with fail
    try rw [hW0]
    try rw [hkb]
    go_wp2_with fail
    refine HFI.out.mono ?_
    rintro e w2 ⟨rfl, hb2⟩
    have HB2 := Lib.hid (HB0.out.trans (hb2.mono HB0.out.size))
    have q4 : w2.cell? ⟨r.g, 4, none⟩ = some (.int .i64 r.ld) := (HR.out.bk.heap (hb2.block _ HR.out.lt.1)).cell 4
    have q5 : ∀ w', Below w2.heap.size w2 w' → w'.cell? ⟨r.g, 4, none⟩ = some (.int .i64 r.ld) := fun w' hb => (hb.cell (p := ⟨r.g, 4, none⟩) (Nat.lt_of_lt_of_le HR.out.lt.1 hb2.size)).trans q4
    have HCL := Lib.hid (close_any ((H.out.below HB2.out).below (w' := w2.drew) (Below.refl _ _).drew) HN.out _ r HF.out)
    have HQ5 := Lib.hid q5
    clear hb2 q5
    go_wp2_with fail
    refine wp_region_held_drew (S := (fun w' => w'.cell? ⟨r.g, 4, none⟩ = some (.int .i64 r.ld))) (by kernel_rfl) ?_ (fun hS => ?_)
    · exact q4
    refine tkY 0 ?_ rfl hS ?_ ?_
    rotate_left
    · intro wz hz
      go_simp
      all_goals first | with_reducible rfl | omega
    try simp only [Act.put, pu]
    refine tkY 1 ?_ rfl hS ?_ ?_
    rotate_left
    · intro wz hz
      go_simp
      all_goals first | with_reducible rfl | omega
    try simp only [Act.put, pu]
    refine tkY 2 ?_ rfl hS ?_ ?_
    rotate_left
    · intro wz hz
      go_simp
      all_goals first | with_reducible rfl | omega
    try simp only [Act.put, pu]
    refine tkY 3 ?_ rfl hS ?_ ?_
    rotate_left
    · intro wz hz
      go_simp
      all_goals first | with_reducible rfl | omega
    try simp only [Act.put, pu]
    refine tkY 4 ?_ rfl hS ?_ ?_
    rotate_left
    · intro wz hz
      go_simp
      all_goals first | with_reducible rfl | omega
    try simp only [Act.put, pu]
    refine tkY 5 ?_ rfl hS ?_ ?_
    rotate_left
    · intro wz hz
      go_simp
      all_goals first | with_reducible rfl | omega
    try simp only [Act.put, pu]
    refine wpAnyH_ready (rs := [6]) (by kernel_rfl) (by simp) (AllReadyH.cons rfl (fun K' hK' => ?_) AllReadyH.nil)
    go_simp
    refine HCL.out.mono ?_
    rintro e w3 ⟨v, rfl, hoi, hst, hsame⟩
    have q6 : w3.cell? ⟨r.g, 4, none⟩ = some (.int .i64 r.ld) := (World.cell?_of_block (w := w2) (a := ⟨r.g, 4, none⟩) (by exact hsame)).trans q4
    have HBD := (Below.refl w2.heap.size w2).drew
    have HOI : Hid (OI w.heap.size w3 v (r.fl.map (·.2))) := Lib.hid (hoi.mono (by exact HB2.out.size))
    have HST := Lib.hid ((hst.pre HBD).pre HB2.out)
    clear hoi hst hsame HBD
    refine hK'.out _ _ ?_ (fun hSn => ?_)
    · exact q6
    clear hK' K' hS
    have hS := hSn
    clear hSn
    try simp only [Act.put, pu]
    refine tkY 7 ?_ rfl hS ?_ ?_
    rotate_left
    · intro wz hz
      go_simp
      all_goals first | with_reducible rfl | omega
    try simp only [Act.put, pu]
    refine tkY 8 ?_ rfl hS ?_ ?_
    rotate_left
    · intro wz hz
      go_simp
      all_goals first | with_reducible rfl | omega
    try simp only [Act.put, pu]
    refine tkY 9 ?_ rfl hS ?_ ?_
    rotate_left
    · intro wz hz
      go_simp
      all_goals first | with_reducible rfl | omega
    try simp only [Act.put, pu]
    refine wpAnyH_done (by kernel_rfl) ?_ _
    clear hS
    obtain ⟨av, cv, rfl⟩ := HOI.out.form
    go_wp2
    refine bodyPost_ret (v := .tuple #[.int .i64 r.ld, .slice av (r.fl.map (·.2)).length cv, .bool true]) (by simp [results, Try.results13, go_sem]) rfl ?_
    exact ⟨_, rfl, HOI.out, HST.out⟩
end Go.Proofs.Ytldpamlmnganmaa.FL
