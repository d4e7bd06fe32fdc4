/- Package flight: follow, open. Conditions: how many asks there were, how long keys are. -/
import Derived.Test.YtldpamlmnganmaaFlg
namespace Go.Proofs.Ytldpamlmnganmaa.FL
open Go.ChangeShapes Go.WideShapes Go.ChangeAt Go.RowKit Go.Maps Go.ChangeMaps
open Go.Proofs.Ytldpamlmnganmaa.SL
set_option maxRecDepth 100000
set_option linter.unusedVariables false
set_option linter.unusedSimpArgs false

theorem mapTurned_chg {w w' : World} {b : Nat} (h : w.mapTurned w' b) : Chg (fun x => x = b) w w' := (Chg.refl _ w).grown h.grown fun k hk _ => by injection hk with hk; exact hk.symm
def FolP (N : Nat) (k : Ky) (r : Fr) (c : Int) (w : World) (e : Ending) (w' : World) : Prop :=
  e = .returned (seV (r.g, (r.last : Int) + 1)) ∧ RowP w' (N + 1) k ⟨r.ld, r.fl ++ [((r.last : Int) + 1, c)], r.last + 1, r.g, r.m⟩ ∧ Chg (fun b => b = r.g ∨ b = r.m) w w'
set_option maxHeartbeats 4000000 in
theorem follow_any {w : World} {N : Nat} {k : Ky} {r : Fr} (h : RowP w N k r) (hN : N ≤ 1000000) (c : Int) (hc : I9 c) :
    Calls Try.prog 26 #[ptr r.g, .int .i64 c] w (FolP N k r c w) := by
  obtain ⟨L, hL⟩ : ∃ L : Nat, r.last + 1 = L := ⟨_, rfl⟩
  have hla := h.la
  have wk : IntKind.i64.wrap ((r.last : Int) + 1) = (L : Int) := by rw [show (r.last : Int) + 1 = (L : Int) by omega]; exact IntWalk.i64_in _ (by omega)
  obtain ⟨W0, hW0⟩ : ∃ W, w.alloc (.cells #[.pointer none, .int .i64 0] 68) = W := ⟨_, rfl⟩
  obtain ⟨kb, hkb⟩ : ∃ b, w.heap.size = b := ⟨_, rfl⟩
  have b0 : Below w.heap.size w W0 := by rw [← hW0]; exact (Below.refl _ _).alloc (Nat.le_refl _) _
  have k0 : Bk W0 kb 68 #[.pointer none, .int .i64 0] := by rw [← hW0, ← hkb]; exact Bk.new _ _ _
  have h0 := h.keep (w' := W0) (b0.block _ h.lt.1) (b0.block _ h.lt.2)
  have x5 : W0.cell? ⟨r.g, 5, none⟩ = some (.map (some r.m)) := h0.bk.cell 5
  have x6 : W0.cell? ⟨r.g, 6, none⟩ = some (.int .i64 (r.last : Int)) := h0.bk.cell 6
  have f6 : W0.frozen? ⟨r.g, 6, none⟩ = false := h0.bk.frozen 6
  obtain ⟨W1, hW1⟩ : ∃ W, W0.setCell ⟨r.g, 6, none⟩ (.int .i64 (L : Int)) = W := ⟨_, rfl⟩
  have kg : Bk W1 r.g 80 (fC k ⟨r.ld, r.fl ++ [((r.last : Int) + 1, c)], L, r.g, r.m⟩) := by rw [← hW1]; exact h0.bk.set_ 6 _
  have hne : r.g ≠ r.m := bk_nmap h.bk h.mp
  have hgk : r.g < kb := by rw [← hkb]; exact h.lt.1
  have hmk : r.m < kb := by rw [← hkb]; exact h.lt.2
  have k1 : Bk W1 kb 68 #[.pointer none, .int .i64 0] := by rw [← hW1]; exact k0.far (by show kb ≠ r.g; omega) _
  have mp1 : MV.MapV Try.prog 3 W1.drew r.m r.last (MV.fI fun j => (lk r.fl j).map (.int .i64 ·)) := h0.mp.keep (by rw [← hW1]; exact Below.heap_setCell _ _ _ _ (fun e => hne e.symm))
  have hkey := keyI ((L : Int)) ⟨by omega, by omega⟩
  obtain ⟨w3, hrun, hm3, ht3⟩ := mp1.put iK Try.underlying78 (by unfold maxLen; omega) hkey (.int .i64 c)
  have hg3 := ht3.grown
  have hc3 : Chg (fun b => b = r.g ∨ b = r.m) w w3 := ((Chg.of_below b0).trans (by rw [← hW1]; exact (Chg.refl _ W0).setCell (.inl rfl) _)).drew.trans ((mapTurned_chg ht3).mono fun b _ e => .inr e)
  have kg3 : Bk w3 r.g 80 (fC k ⟨r.ld, r.fl ++ [((r.last : Int) + 1, c)], L, r.g, r.m⟩) := kg.heap (hg3.block _ (by exact kg.lt) (fun e => hne (by injection e)))
  have k3 : Bk w3 kb 68 #[.pointer none, .int .i64 0] := k1.heap (hg3.block _ (by exact k1.lt) (fun e => by injection e with e; omega))
  have hlt : ∀ p ∈ r.fl, p.1 ≠ (L : Int) := fun p hp e => by have := (h.lo p hp).2; omega
  have hrow3 : RowP w3 (N + 1) k ⟨r.ld, r.fl ++ [((r.last : Int) + 1, c)], r.last + 1, r.g, r.m⟩ := by
    refine ⟨by rw [hL]; exact kg3, ?_, ?_, fun p hp => ?_, by show r.last + 1 ≤ N + 1; omega⟩
    · refine hm3.congr fun kl => ?_
      rw [show (Lit.int IntKind.i64 (L : Int)) = .int .i64 (L : Int) from rfl, MV.fI_put]
      congr 1
      funext j
      rw [show ((r.last : Int) + 1) = (L : Int) by omega, lk_app hlt]
      by_cases e : j = (L : Int)
      · rw [if_pos e, if_pos e]; rfl
      · rw [if_neg e, if_neg e]
    · rw [List.pairwise_append]
      refine ⟨h.up, by simp, fun p hp q hq => ?_⟩
      obtain rfl : q = ((r.last : Int) + 1, c) := by simpa using hq
      have := (h.lo p hp).2
      show p.1 < (r.last : Int) + 1
      omega
    · rcases List.mem_append.1 hp with hp | hp
      · have := h.lo p hp
        exact ⟨this.1, by show p.1 ≤ ((r.last + 1 : Nat) : Int); omega⟩
      · obtain rfl : p = ((r.last : Int) + 1, c) := by simpa using hp
        exact ⟨by show 0 < (r.last : Int) + 1; omega, by show (r.last : Int) + 1 ≤ ((r.last + 1 : Nat) : Int); omega⟩
  have y5 : W1.cell? ⟨r.g, 5, none⟩ = some (.map (some r.m)) := kg.cell 5
  have y6 : W1.cell? ⟨r.g, 6, none⟩ = some (.int .i64 (L : Int)) := kg.cell 6
  have z5 : w3.cell? ⟨r.g, 5, none⟩ = some (.map (some r.m)) := kg3.cell 5
  have z6 : w3.cell? ⟨r.g, 6, none⟩ = some (.int .i64 (L : Int)) := kg3.cell 6
  have q0 : w3.cell? ⟨kb, 0, none⟩ = some (.pointer none) := k3.cell 0
  have q1 : w3.cell? ⟨kb, 1, none⟩ = some (.int .i64 0) := k3.cell 1
  have p0 := k3.frozen 0
  have p1 := k3.frozen 1
  have K3 := Lib.hid k3
  have HR := Lib.hid hrow3
  have HC3 := Lib.hid hc3
  have HKB : Hid (w.heap.size ≤ kb ∧ r.g < kb ∧ r.m < kb) := Lib.hid ⟨Nat.le_of_eq hkb, hgk, hmk⟩
  have HL : Hid ((r.last : Int) + 1 = (L : Int)) := Lib.hid (by omega)
  clear h hN hc hla b0 k0 h0 kg hne hgk hmk k1 mp1 hkey hm3 ht3 hg3 hc3 kg3 k3 hlt hrow3 hL
  unfold FolP
  rw [HL.out]
  go_enter Try.func26, Try.ntmps26
  go_wp2_with fail
  try rw [hW0]
  try rw [hkb]
  try rw [hW1]
  refine wp_region_held_drew (S := (fun w' => w'.cell? ⟨r.g, 5, none⟩ = some (.map (some r.m)) ∧ w'.cell? ⟨r.g, 6, none⟩ = some (.int .i64 (L : Int)))) (by kernel_rfl) ?_ (fun hS => ?_)
  · exact ⟨y5, y6⟩
  refine tkY 0 ?_ rfl hS ?_ ?_
  rotate_left
  · intro wz hz
    obtain ⟨s5, s6⟩ := hz
    go_simp
    all_goals first | with_reducible rfl | omega
  try simp only [Act.put, pu]
  refine tkY 1 ?_ rfl hS ?_ ?_
  rotate_left
  · intro wz hz
    obtain ⟨s5, s6⟩ := hz
    go_simp
    all_goals first | with_reducible rfl | omega
  try simp only [Act.put, pu]
  refine tkY 2 ?_ rfl hS ?_ ?_
  rotate_left
  · intro wz hz
    obtain ⟨s5, s6⟩ := hz
    go_simp
    all_goals first | with_reducible rfl | omega
  try simp only [Act.put, pu]
  refine tkY 3 ?_ rfl hS ?_ ?_
  rotate_left
  · intro wz hz
    obtain ⟨s5, s6⟩ := hz
    go_simp
    all_goals first | with_reducible rfl | omega
  try simp only [Act.put, pu]
  refine tkY 4 ?_ rfl hS ?_ ?_
  rotate_left
  · intro wz hz
    obtain ⟨s5, s6⟩ := hz
    go_simp
    all_goals first | with_reducible rfl | omega
  try simp only [Act.put, pu]
  refine tkY 5 ?_ rfl hS ?_ ?_
  rotate_left
  · intro wz hz
    obtain ⟨s5, s6⟩ := hz
    go_simp
    all_goals first | with_reducible rfl | omega
  try simp only [Act.put, pu]
  refine tkY 6 ?_ rfl hS ?_ ?_
  rotate_left
  · intro wz hz
    obtain ⟨s5, s6⟩ := hz
    go_simp
    all_goals first | with_reducible rfl | omega
  try simp only [Act.put, pu]
  refine tkY 7 ?_ rfl hS ?_ ?_
  rotate_left
  · intro wz hz
    obtain ⟨s5, s6⟩ := hz
    go_simp
    all_goals first | with_reducible rfl | omega
  try simp only [Act.put, pu]
  refine tkY 8 ?_ rfl hS ?_ ?_
  rotate_left
  · intro wz hz
    obtain ⟨s5, s6⟩ := hz
    go_simp
    all_goals first | with_reducible rfl | omega
  try simp only [Act.put, pu]
  refine wpAnyH_ready (rs := [9]) (by kernel_rfl) (by simp) (AllReadyH.cons rfl (fun K' hK' => ?_) AllReadyH.nil)
  go_simp

  refine hK'.out _ _ ?_ (fun hSn => ?_)
  · exact ⟨z5, z6⟩
  clear hK' K' hS
  have hS := hSn
  clear hSn
  try simp only [Act.put, pu]
  refine wpAnyH_done (by kernel_rfl) ?_ _
  clear hS
  go_wp2
  have k5 := (K3.out.set_ 0 (ptr r.g)).set_ 1 (.int .i64 (L : Int))
  have k6 := k5.cell 0
  have k7 := k5.cell 1
  simp at k6 k7
  refine bodyPost_ret (v := .agg #[ptr r.g, .int .i64 (L : Int)]) (by simp [results, Try.results26, go_sem, k6, k7]) rfl ?_
  obtain ⟨l1, l2, l3⟩ := HKB.out
  have hr := HR.out
  rw [HL.out] at hr
  have e1 : ∀ b, b < kb → (((w3.setCell ⟨kb, 0, none⟩ (ptr r.g)).setCell ⟨kb, 1, none⟩ (.int .i64 (L : Int))).heap[b]? = w3.heap[b]?) := fun b hb => (Below.heap_setCell _ _ _ _ (by show b ≠ kb; omega)).trans (Below.heap_setCell _ _ _ _ (by show b ≠ kb; omega))
  exact ⟨rfl, hr.keep (e1 _ l2) (e1 _ l3), (HC3.out.newCell (p := ⟨kb, 0, none⟩) l1 _).newCell (p := ⟨kb, 1, none⟩) l1 _⟩
end Go.Proofs.Ytldpamlmnganmaa.FL
