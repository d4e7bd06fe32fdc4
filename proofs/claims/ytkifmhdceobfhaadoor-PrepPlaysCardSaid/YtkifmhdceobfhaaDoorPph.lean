/- Package prep, its code: Need. Conditions: sizes; how many texts there are. -/
import Derived.Test.YtkifmhdceobfhaaDoorPpg
namespace Go.Proofs.YtkifmhdceobfhaaDoor.PP
open Go.ChangeShapes Go.WideShapes Go.ChangeAt Go.RowKit Go.Maps Go.ChangeMaps
open Go.Proofs.YtkifmhdceobfhaaDoor.SL
set_option maxRecDepth 100000
set_option linter.unusedVariables false
set_option linter.unusedSimpArgs false

section
variable {B : Nat} {w w' : World} {a N : Nat} {C : Cf} {S : St}
theorem StC.next {C1 : Cf} {N' : Nat} {S' : St} (h2 : Chg C.own w w') (h3 : Kc w w') (h4 : ∀ b, C1.own b → C.own b ∨ w.heap.size ≤ b) {w'' : World} (k : StC B a N' C1 S' w' w'') : StC B a N' C S' w w'' := by
  obtain ⟨C2, k1, k2, k3, k4⟩ := k
  refine ⟨C2, k1, h2.trans' k2 fun b hb hk => (h4 b hk).resolve_right (by omega), h3.trans k3, fun b hb => ?_⟩
  rcases k4 b hb with h | h
  · exact h4 b h
  · exact .inr (Nat.le_trans h2.size h)
set_option maxHeartbeats 4000000 in
theorem need_any (h : CB B w a N C S) (hN : N ≤ 100000) (c : Int) (hI : I9 c) (t : Tx) (ht : t.size ≤ 281474976710656) (hk : S.T.length ≤ 98) :
    Calls Tryd.prog 15 #[ptr a, nV c, .string t] w fun e w' => e = .returned (.tuple #[.string (nm (numA t S)), .bool (!hasA c t S)]) ∧ StC B a (N + 2) C (neeS c t S) w w' := by
  obtain ⟨c0, _, _, _⟩ := h.cells
  have hG := given_yes w a c0
  have HNUM := Lib.hid (number_any h (by omega) t ht)
  have hk1 : numA t S < 100 := by have := (numA_le t S).2; omega
  have HNM := Lib.hid (fun W => name_any (numA t S) hk1 W)
  have hki : I9 (numA t S : Int) := ⟨by omega, by omega⟩
  have HX : Hid (∀ w2, StC B a (N + 1) C (numS t S) w w2 → ∃ cb o, w2.cell? ⟨a, 2, none⟩ = some (mpV cb) ∧ w2.cell? ⟨a, 0, none⟩ = some (ptr a) ∧
      (Instr.lookup 49 (mpV cb) (nV c) false).run Tryd.prog w2 = .ok (.map o) w2 ∧ (∃ i : Nat, (Instr.lookup 65 (.map o) (nV (numA t S : Int)) true).run Tryd.prog w2 = .ok (.tuple #[nV (i : Int), .bool (hasA c t S)]) w2) ∧
      (hasA c t S = true → StC B a (N + 2) C (neeS c t S) w w2) ∧
      (hasA c t S = false → ∃ L : Nat, ∀ W, Below w2.heap.size w2 W → (Instr.lookup 49 (mpV cb) (nV c) false).run Tryd.prog W = .ok (.map o) W ∧ (∀ ty, (Builtin.len_ #[65] ty #[.map o]).run Tryd.prog W = .ok (nV (L : Int)) W) ∧
        Calls Tryd.prog 32 #[mpV cb, nV c, nV (numA t S : Int), nV (L : Int)] W fun e w' => e = .returned (.tuple #[]) ∧ StC B a (N + 2) C (neeS c t S) w w' ∧ w'.cell? ⟨a, 2, none⟩ = some (mpV cb))) := Lib.hid fun w2 hst => by
    obtain ⟨C1, h1, hc1, hkc1, ho1⟩ := hst
    obtain ⟨a1, a2, a3⟩ := h1.lookD c hI (numA t S : Int) hki
    refine ⟨C1.cb, C1.G c, h1.cells.2.2.1, h1.cells.1, a1, a2, fun hh => ?_, fun hh => ⟨(nms S.D c).length, fun W hb => ?_⟩⟩
    · have : neeS c t S = numS t S := by unfold neeS; rw [if_pos hh]; rfl
      rw [this]
      exact ⟨C1, h1.mono (Nat.le_succ _), hc1, hkc1, ho1⟩
    · have hW := h1.below hb
      obtain ⟨b1, _, b3⟩ := hW.lookD c hI (numA t S : Int) hki
      refine ⟨b1, b3, ?_⟩
      have hnot : numA t S ∉ nms S.D c := fun e => by
        have : hasA c t S = true := ixN_isSome.2 e
        rw [hh] at this
        cases this
      refine (put_i hW.hd c hI (numA t S : Int) hki ((nms S.D c).length : Int) (by omega) (Nat.le_trans (nms_len _ _) (Nat.le_trans h.few.2.1 (by omega)))).mono ?_
      rintro e w' ⟨rfl, F', H, hcg, ho⟩
      have hp : HeldP 3 C1.cb (N + 1 + 1) C1.G (cD (S.D ++ [(c, numA t S)])) (gD (S.D ++ [(c, numA t S)])) W w' := ⟨F', H.congr (fun x => cD_app S.D c (numA t S) hnot x) (fun x kl => gD_app S.D c (numA t S) hnot x kl), hcg, ho⟩
      have hiv := h.inv.nee c t
      have e1 : neeS c t S = { numS t S with D := S.D ++ [(c, numA t S)] } := by unfold neeS; rw [if_neg (by rw [hh]; simp)]
      rw [e1] at hiv
      have hst := hW.conns (Nat.le_succ _) hp hiv.ud hiv.nr (by
        have := h.few.2.1
        rw [List.length_append]
        show S.D.length + 1 ≤ N + 1 + 1
        omega)
      rw [e1]
      refine ⟨rfl, StC.next hc1 hkc1 ho1 (StC.pre hb hst), ?_⟩
      · obtain ⟨C', _, _, hk, _⟩ := hst
        exact (hk.bk hW.bk).cell 2
  generalize neeS c t S = S2 at *
  generalize numA t S = k at *
  generalize nm k = x at *
  cases hh : hasA c t S with
  | true =>
    rw [hh] at HX
    clear h hN hI ht hk hk1 hki hh
    go_enter Tryd.func15, Tryd.ntmps15
    go_wp2_with (go_at_call 27; refine hG.mono ?_; rintro e w' ⟨rfl, rfl⟩)
    refine HNUM.out.mono ?_
    rintro e w2 ⟨rfl, hst⟩
    obtain ⟨cb, o, x2, x0, hO, ⟨i, hL⟩, hy, -⟩ := HX.out w2 hst
    have HST := Lib.hid (hy (by first | trivial | rfl))
    clear hst hy HX
    go_wp2_with (go_at_call 33; refine (HNM.out _).mono ?_; rintro e w3 ⟨rfl, rfl⟩)
    go_ret2
    exact ⟨rfl, HST.out⟩
  | false =>
    rw [hh] at HX
    clear h hN hI ht hk hk1 hki hh
    go_enter Tryd.func15, Tryd.ntmps15
    go_wp2_with (go_at_call 27; refine hG.mono ?_; rintro e w' ⟨rfl, rfl⟩)
    refine HNUM.out.mono ?_
    rintro e w2 ⟨rfl, hst⟩
    obtain ⟨cb, o, x2, x0, hO, ⟨i, hL⟩, -, hn⟩ := HX.out w2 hst
    obtain ⟨L, hn⟩ := hn (by first | trivial | rfl)
    have HP := Lib.hid hn
    have X2 := Lib.hid x2
    clear hst hn HX
    go_upto_region 6 with fail
    refine wp_region_held_drew (S := fun W => W.cell? ⟨a, 2, none⟩ = some (mpV cb)) (by kernel_rfl) ?_ (fun hS => ?_)
    · exact X2.out
    have hb0 : Below w2.heap.size w2 w2.drew := (Below.refl _ _).drew
    obtain ⟨WD, hWD⟩ : ∃ W, w2.drew = W := ⟨_, rfl⟩
    rw [hWD] at hb0 hS ⊢
    clear hWD
    obtain ⟨hO3, hL3, hput⟩ := HP.out _ hb0
    have HPUT := Lib.hid hput
    clear hb0 hput
    refine tkY 0 ?_ rfl hS ?_ ?_
    rotate_left
    · intro wz hz
      have x1 := hz
      go_simp
      all_goals first | with_reducible rfl | omega
    try simp only [Act.put, pu]
    refine tkY 1 ?_ rfl hS ?_ ?_
    rotate_left
    · intro wz hz
      have x1 := hz
      go_simp
      all_goals first | with_reducible rfl | omega
    try simp only [Act.put, pu]
    refine tkY 2 ?_ rfl hS ?_ ?_
    rotate_left
    · intro wz hz
      have x1 := hz
      go_simp
      all_goals first | with_reducible rfl | omega
    try simp only [Act.put, pu]
    refine tkY 3 ?_ rfl hS ?_ ?_
    rotate_left
    · intro wz hz
      have x1 := hz
      go_simp
      all_goals first | with_reducible rfl | omega
    try simp only [Act.put, pu]
    refine tkY 4 ?_ rfl hS ?_ ?_
    rotate_left
    · intro wz hz
      have x1 := hz
      go_simp
      all_goals first | with_reducible rfl | omega
    try simp only [Act.put, pu]
    refine tkY 5 ?_ rfl hS ?_ ?_
    rotate_left
    · intro wz hz
      have x1 := hz
      go_simp
      all_goals first | with_reducible rfl | omega
    try simp only [Act.put, pu]
    refine tkY 6 ?_ rfl hS ?_ ?_
    rotate_left
    · intro wz hz
      have x1 := hz
      go_simp
      all_goals first | with_reducible rfl | omega
    try simp only [Act.put, pu]
    refine tkY 7 ?_ rfl hS ?_ ?_
    rotate_left
    · intro wz hz
      have x1 := hz
      go_simp
      all_goals first | with_reducible rfl | omega
    try simp only [Act.put, pu]
    refine tkY 8 ?_ rfl hS ?_ ?_
    rotate_left
    · intro wz hz
      have x1 := hz
      go_simp
      all_goals first | with_reducible rfl | omega
    try simp only [Act.put, pu]
    refine tkY 9 ?_ rfl hS ?_ ?_
    rotate_left
    · intro wz hz
      have x1 := hz
      go_simp
      all_goals first | with_reducible rfl | omega
    try simp only [Act.put, pu]
    refine tkY 10 ?_ rfl hS ?_ ?_
    rotate_left
    · intro wz hz
      have x1 := hz
      go_simp
      all_goals first | with_reducible rfl | omega
    try simp only [Act.put, pu]
    refine wpAnyH_ready (rs := [11]) (by kernel_rfl) (by simp) (AllReadyH.cons rfl (fun K' hK' => ?_) AllReadyH.nil)
    go_simp
    refine hK'.out _ _ hS (fun hSn => ?_)
    clear hK' K' hS
    have hS := hSn
    clear hSn
    try simp only [Act.put, pu]
    refine wpAnyH_ready (rs := [12]) (by kernel_rfl) (by simp) (AllReadyH.cons rfl (fun K' hK' => ?_) AllReadyH.nil)
    go_simp
    refine hK'.out _ _ hS (fun hSn => ?_)
    clear hK' K' hS
    have hS := hSn
    clear hSn
    try simp only [Act.put, pu]
    refine wpAnyH_ready (rs := [13]) (by kernel_rfl) (by simp) (AllReadyH.cons rfl (fun K' hK' => ?_) AllReadyH.nil)
    go_simp
    refine HPUT.out.mono ?_
    rintro e w3 ⟨rfl, hst, x3⟩
    have HST := Lib.hid hst
    refine hK'.out _ _ x3 (fun hSn => ?_)
    clear hK' K' hS hst x3
    have hS := hSn
    clear hSn
    try simp only [Act.put, pu]
    refine wpAnyH_done (by kernel_rfl) ?_ _
    clear hS
    go_wp2_with (go_at_call 33; refine (HNM.out _).mono ?_; rintro e w4 ⟨rfl, rfl⟩)
    go_ret2
    exact ⟨rfl, HST.out⟩
end
end Go.Proofs.YtkifmhdceobfhaaDoor.PP
