/- Package prep, its code: made, New, number, Need. Conditions: sizes; how many texts there are. -/
import Derived.Test.YtkifmhdceobfhaaDoorPpf
namespace Go.Proofs.YtkifmhdceobfhaaDoor.PP
open Go.ChangeShapes Go.WideShapes Go.ChangeAt Go.RowKit Go.Maps Go.ChangeMaps
open Go.Proofs.YtkifmhdceobfhaaDoor.SL
set_option maxRecDepth 100000
set_option linter.unusedVariables false
set_option linter.unusedSimpArgs false

theorem made_any (w : World) (hb cb tb : Nat) :
    Calls Tryd.prog 26 #[mpV hb, mpV cb, mpV tb] w fun e w' => ∃ a, e = .returned (ptr a) ∧ w.heap.size ≤ a ∧ Bk w' a 52 #[ptr a, mpV hb, mpV cb, mpV tb] ∧ Below w.heap.size w w' := by
  obtain ⟨W1, hW1⟩ : ∃ W, w.alloc (.cells #[.pointer none, mpV hb, mpV cb, mpV tb] 52) = W := ⟨_, rfl⟩
  obtain ⟨a, ha⟩ : ∃ b, w.heap.size = b := ⟨_, rfl⟩
  have hb1 : Below w.heap.size w W1 := by rw [← hW1]; exact (Below.refl _ _).alloc (Nat.le_refl _) _
  have k1 : Bk W1 a 52 #[.pointer none, mpV hb, mpV cb, mpV tb] := by rw [← hW1, ← ha]; exact Bk.new _ _ _
  have x0 := k1.cell 0
  have f0 := k1.frozen 0
  simp at x0
  have HH : Hid (∃ a', Ending.returned (ptr a) = .returned (ptr a') ∧ w.heap.size ≤ a' ∧ Bk (W1.setCell ⟨a, 0, none⟩ (ptr a)) a' 52 #[ptr a', mpV hb, mpV cb, mpV tb] ∧ Below w.heap.size w (W1.setCell ⟨a, 0, none⟩ (ptr a))) := Lib.hid ⟨a, rfl, by omega, k1.set_ 0 _, hb1.setCell (p := ⟨a, 0, none⟩) (by show w.heap.size ≤ a; omega) _⟩
  rw [ha] at HH
  clear k1 hb1
  go_enter Tryd.func26, Tryd.ntmps26
  go_wp2_with fail
  try rw [ha]
  try rw [hW1]
  clear ha hW1
  go_wp2
  go_ret
  exact HH.out
def NewP (a : Nat) (w w' : World) : Prop := ∃ C, CB w.heap.size w' a 0 C S0 ∧ (∀ b, C.own b → w.heap.size ≤ b) ∧ w.heap.size ≤ a ∧ Below w.heap.size w w'
theorem noC (c : Int) (kl : Lit) : none = gC [] c kl := by
  unfold gC MV.fS
  cases kl <;> rfl
theorem noT (kl : Lit) : none = gT [] kl := by
  unfold gT MV.fS
  cases kl <;> rfl
theorem noDD (c : Int) (kl : Lit) : none = gD [] c kl := by
  unfold gD MV.fI
  cases kl with
  | int q n => cases q <;> rfl
  | _ => rfl
set_option maxHeartbeats 4000000 in
theorem new_any (w : World) : Calls Tryd.prog 8 #[] w fun e w' => ∃ a, e = .returned (ptr a) ∧ NewP a w w' := by
  have hmm := @run_makeMap Tryd.prog
  obtain ⟨hb, hhb⟩ : ∃ b, w.heap.size = b := ⟨_, rfl⟩
  obtain ⟨W1, hW1⟩ : ∃ W, w.alloc (.map #[] 0) = W := ⟨_, rfl⟩
  obtain ⟨cb, hcb⟩ : ∃ b, W1.heap.size = b := ⟨_, rfl⟩
  obtain ⟨W2, hW2⟩ : ∃ W, W1.alloc (.map #[] 0) = W := ⟨_, rfl⟩
  obtain ⟨tb, htb⟩ : ∃ b, W2.heap.size = b := ⟨_, rfl⟩
  obtain ⟨W3, hW3⟩ : ∃ W, W2.alloc (.map #[] 0) = W := ⟨_, rfl⟩
  have b1 : Below w.heap.size w W1 := by rw [← hW1]; exact (Below.refl _ _).alloc (Nat.le_refl _) _
  have b2 : Below W1.heap.size W1 W2 := by rw [← hW2]; exact (Below.refl _ _).alloc (Nat.le_refl _) _
  have b3 : Below W2.heap.size W2 W3 := by rw [← hW3]; exact (Below.refl _ _).alloc (Nat.le_refl _) _
  have s1 : W1.heap.size = w.heap.size + 1 := by rw [← hW1]; simp
  have s2 : W2.heap.size = W1.heap.size + 1 := by rw [← hW2]; simp
  have s3 : W3.heap.size = W2.heap.size + 1 := by rw [← hW3]; simp
  have m1 : Held 9 W1 hb 0 (fun _ => none) (fun _ => 0) (fun _ _ => none) := by rw [← hW1, ← hhb]; exact Held.made _ _
  have m2 : Held 3 W2 cb 0 (fun _ => none) (fun _ => 0) (fun _ _ => none) := by rw [← hW2, ← hcb]; exact Held.made _ _
  have m3 : MapN Tryd.prog 9 W3 tb 0 (fun _ => none) := by rw [← hW3, ← htb]; exact MapN.made _ _ _
  have n1 := (m1.below b2).below b3
  have n2 := m2.below b3
  have b13 : Below w.heap.size w W3 := b1.trans ((b2.trans (b3.mono (by omega))).mono (by omega))
  have HM := Lib.hid (made_any W3 hb cb tb)
  have HF : Hid (∀ a w', W3.heap.size ≤ a → Bk w' a 52 #[ptr a, mpV hb, mpV cb, mpV tb] → Below W3.heap.size W3 w' → NewP a w w') := Lib.hid fun a w' ha hk hb4 => by
    refine ⟨⟨hb, cb, tb, fun _ => none, fun _ => none⟩, ⟨hk, (n1.below hb4).congr (fun _ => rfl) noC, (n2.below hb4).congr (fun _ => rfl) noDD, (m3.keep (hb4.block _ m3.lt)).congr noT, ?_, ?_, ?_, ⟨by omega, ?_⟩, Inv.zero, ⟨Nat.le_refl 0, Nat.le_refl 0, Nat.le_refl 0⟩⟩, ?_, by omega, b13.trans (hb4.mono (by omega))⟩
    · rintro b (rfl | ⟨_, h⟩) (h2 | ⟨_, h2⟩)
      · have h2 : b = cb := h2; omega
      · cases h2
      · cases h
      · cases h
    · rintro (h | ⟨_, h⟩)
      · have h : tb = hb := h; omega
      · cases h
    · rintro (h | ⟨_, h⟩)
      · have h : tb = cb := h; omega
      · cases h
    all_goals
      rintro b ((h | ⟨_, h⟩) | (h | ⟨_, h⟩) | h)
      · have h : b = hb := h; omega
      · cases h
      · have h : b = cb := h; omega
      · cases h
      · have h : b = tb := h; omega
  clear b1 b2 b3 s1 s2 s3 m1 m2 m3 n1 n2 b13
  go_enter Tryd.func8, Tryd.ntmps8
  go_wp2_with fail
  try rw [hhb]
  try rw [hW1]
  try rw [hcb]
  try rw [hW2]
  try rw [htb]
  try rw [hW3]
  clear hhb hW1 hcb hW2 htb hW3
  refine HM.out.mono ?_
  rintro e w4 ⟨a, rfl, ha, hk, hb4⟩
  have HH := Lib.hid (HF.out a w4 ha hk hb4)
  clear ha hk hb4
  go_wp2
  go_ret
  exact ⟨_, rfl, HH.out⟩
section
variable {B : Nat} {w w' : World} {a N : Nat} {C : Cf} {S : St}
set_option maxHeartbeats 4000000 in
theorem number_any (h : CB B w a N C S) (hN : N ≤ 1000000) (t : Tx) (ht : t.size ≤ 281474976710656) :
    Calls Tryd.prog 31 #[ptr a, .string t] w fun e w' => e = .returned (nV (numA t S : Int)) ∧ StC B a (N + 1) C (numS t S) w w' := by
  obtain ⟨_, _, _, c3⟩ := h.cells
  obtain ⟨⟨v, hv, hL⟩, hLN⟩ := h.lookT t ht
  unfold numA numS
  cases hi : ixT S.T t with
  | some i =>
    rw [hi] at hL
    have hv2 := hv i hi
    subst hv2
    have HR : Hid (StC B a (N + 1) C { S with T := if (some i).isSome = true then S.T else S.T ++ [t] } w w) := Lib.hid ((StC.refl h).mono (Nat.le_succ N))
    generalize { S with T := if (some i).isSome = true then S.T else S.T ++ [t] } = S2 at *
    show Calls _ _ _ _ fun e w' => e = .returned (nV ((i + 1 : Nat) : Int)) ∧ _
    generalize i + 1 = k at *
    clear h hv hLN hi ht
    go_enter Tryd.func31, Tryd.ntmps31
    go_wp2
    go_ret
    exact ⟨rfl, HR.out⟩
  | none =>
    rw [hi] at hL
    have HP : Hid (∀ W, Below w.heap.size w W → ∃ W2, (Instr.mapUpdate 50 (mpV C.tb) (.string t) (nV ((S.T.length + 1 : Nat) : Int))).run Tryd.prog W = .ok () W2 ∧ StC B a (N + 1) C { S with T := if (none : Option Nat).isSome = true then S.T else S.T ++ [t] } w W2 ∧ W2.cell? ⟨a, 3, none⟩ = some (mpV C.tb)) := Lib.hid fun W hb => by
      have hW := h.below hb
      obtain ⟨W2, hr, hm, htn⟩ := hW.ht.put strK Tryd.underlying50 (by have := h.few.2.2; unfold maxLen; omega) (keyB t ht) (nV ((S.T.length + 1 : Nat) : Int))
      have hm2 : MapN Tryd.prog 9 W2 C.tb (S.T ++ [t]).length (gT (S.T ++ [t])) := by
        rw [gT_at, hi] at hm
        rw [List.length_append]
        exact hm.congr fun kl => gT_app S.T t hi kl
      have hst := hW.texts hi hm2 (turned_chg htn)
      refine ⟨W2, hr, StC.pre hb hst, ?_⟩
      obtain ⟨C', _, _, hk, _⟩ := hst
      exact (hk.bk hW.bk).cell 3
    have HCL := Lib.hid (fun W => clone_any t W ht)
    have wk : IntKind.i64.wrap ((S.T.length : Int) + 1) = ((S.T.length + 1 : Nat) : Int) := by
      rw [show (S.T.length : Int) + 1 = ((S.T.length + 1 : Nat) : Int) by omega]
      exact IntWalk.i64_in _ (by have := h.few.2.2; omega)
    generalize { S with T := if (none : Option Nat).isSome = true then S.T else S.T ++ [t] } = S2 at *
    show Calls _ _ _ _ fun e w' => e = .returned (nV ((S.T.length + 1 : Nat) : Int)) ∧ _
    obtain ⟨n, hn⟩ : ∃ n, S.T.length = n := ⟨_, rfl⟩
    obtain ⟨n1, hn1⟩ : ∃ n1, n + 1 = n1 := ⟨_, rfl⟩
    rw [hn] at HP hLN wk ⊢
    rw [hn1] at HP wk ⊢
    clear h hv hi ht hn hn1
    go_enter Tryd.func31, Tryd.ntmps31
    go_upto_region 4 with fail
    refine wp_region_held_drew (S := fun W => W.cell? ⟨a, 3, none⟩ = some (mpV C.tb)) (by kernel_rfl) ?_ (fun hS => ?_)
    · exact c3
    have hb0 : Below w.heap.size w w.drew := (Below.refl _ _).drew
    obtain ⟨WD, hWD⟩ : ∃ W, w.drew = W := ⟨_, rfl⟩
    rw [hWD] at hb0 hS ⊢
    clear hWD
    have HBD := Lib.hid hb0
    clear hb0
    refine tkY 0 ?_ rfl hS ?_ ?_
    rotate_left
    · intro wz hz
      have x1 := hz
      go_simp
      all_goals first | with_reducible rfl | omega
    try simp only [Act.put, pu]
    refine tkY 1 ?_ rfl hS ?_ ?_
    rotate_left
    · intro wz hz
      have x1 := hz
      go_simp
      all_goals first | with_reducible rfl | omega
    try simp only [Act.put, pu]
    refine tkY 2 ?_ rfl hS ?_ ?_
    rotate_left
    · intro wz hz
      have x1 := hz
      go_simp
      all_goals first | with_reducible rfl | omega
    try simp only [Act.put, pu]
    refine tkY 3 ?_ rfl hS ?_ ?_
    rotate_left
    · intro wz hz
      have x1 := hz
      go_simp
      all_goals first | with_reducible rfl | omega
    try simp only [Act.put, pu]
    refine tkY 4 ?_ rfl hS ?_ ?_
    rotate_left
    · intro wz hz
      have x1 := hz
      go_simp
      all_goals first | with_reducible rfl | omega
    try simp only [Act.put, pu]
    refine tkY 6 ?_ rfl hS ?_ ?_
    rotate_left
    · intro wz hz
      have x1 := hz
      go_simp
      all_goals first | with_reducible rfl | omega
    try simp only [Act.put, pu]
    refine wpAnyH_ready (rs := [5]) (by kernel_rfl) (by simp) (AllReadyH.cons rfl (fun K' hK' => ?_) AllReadyH.nil)
    go_simp
    refine (HCL.out _).mono ?_
    rintro e w2 ⟨rfl, hb2⟩
    have x2 := (hb2.cell (p := ⟨a, 3, none⟩) (World.block_lt_of_cell? _ _ hS)).trans hS
    obtain ⟨W2, hr2, hst, x3⟩ := HP.out _ (HBD.out.trans (hb2.mono HBD.out.size))
    have HST := Lib.hid hst
    have X3 := Lib.hid x3
    refine hK'.out _ _ x2 (fun hSn => ?_)
    clear hK' K' hS hb2 x2 hst x3
    have hS := hSn
    clear hSn
    try simp only [Act.put, pu]
    refine wpAnyH_ready (rs := [7]) (by kernel_rfl) (by simp) (AllReadyH.cons rfl (fun K' hK' => ?_) AllReadyH.nil)
    go_simp
    refine hK'.out _ _ X3.out (fun hSn => ?_)
    clear hK' K' hS
    have hS := hSn
    clear hSn
    try simp only [Act.put, pu]
    refine wpAnyH_done (by kernel_rfl) ?_ _
    clear hS
    go_wp2
    go_ret
    exact ⟨rfl, HST.out⟩
end
end Go.Proofs.YtkifmhdceobfhaaDoor.PP
