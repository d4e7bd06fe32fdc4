/- The document's digits. Condition: no number below nought. -/
import Derived.Test.YtkifmhdceobfhaaDoorPpx
namespace Go.Proofs.YtkifmhdceobfhaaDoor.PP
open Go.ChangeShapes Go.WideShapes Go.ChangeAt Go.RowKit Go.Maps Go.ChangeMaps
open Go.Proofs.YtkifmhdceobfhaaDoor.SL Go.Proofs.YtkifmhdceobfhaaDoor.RW
set_option maxRecDepth 100000
set_option linter.unusedVariables false
set_option linter.unusedSimpArgs false

abbrev bb (l : List UInt8) : ByteArray := ⟨l.toArray⟩
theorem conv_dig (W : World) (h : Nat) (v : Int) (c : UInt8) (hv : v = (c.toNat : Int)) (hc : W.cell? ⟨h, 0, none⟩ = some (.int .u8 v)) : (convert 43 9 (.slice (some ⟨h, 0, none⟩) 1 1)).run Tryd.prog W = .ok (.string (bb [c])) W := by
  subst hv
  refine run_convert_bytes_back (P := Tryd.prog) W 43 9 5 ⟨h, 0, none⟩ 1 [c] Tryd.underlying43 Tryd.underlying5 Tryd.underlying9 ?_
  intro j hj
  cases j with
  | zero => rw [Addr.add_lit]; exact hc
  | succ j => simp at hj
theorem dig_val (d : Nat) (h : d < 10) : (48 : Int) + (d : Int) = ((UInt8.ofNat (48 + d)).toNat : Int) := by
  rw [UInt8.toNat_ofNat']
  omega
set_option maxHeartbeats 600000 in
theorem rDigits_any (k : Nat) (hk : k < 4611686018427387904) (w : World) : Calls Tryd.prog 34 #[.int .i64 (k : Int)] w fun e w' => e = .returned (.string (bb (Lib.decDigits k))) ∧ Below w.heap.size w w' := by
  induction hn : k using Nat.strongRecOn generalizing k w with
  | ind n ih =>
    subst hn
    have l0 : ¬ ((k : Int) < 0) := by omega
    by_cases h10 : k < 10
    · have l10 : (k : Int) < 10 := by omega
      have hd : Lib.decDigits k = [UInt8.ofNat (48 + k)] := Lib.decDigits_one h10
      rw [hd]
      have kc := fun (W : World) => conv_dig (W.alloc (.cells #[.int .u8 (48 + (k : Int))] 5)) W.heap.size (48 + (k : Int)) (UInt8.ofNat (48 + k)) (dig_val k h10) (by rw [World.cell?_alloc_new]; rfl)
      have HB := Lib.hid ((Below.refl w.heap.size w).alloc (Nat.le_refl _) (.cells #[.int .u8 (48 + (k : Int))] 5))
      clear ih hd
      go_enter Tryd.func34, Tryd.ntmps34
      go_wp2
      go_ret
      exact ⟨rfl, HB.out⟩
    · have l10 : ¬ ((k : Int) < 10) := by omega
      have hd : Lib.decDigits k = Lib.decDigits (k / 10) ++ [UInt8.ofNat (48 + k % 10)] := by rw [Lib.decDigits, dif_neg h10]
      rw [hd]
      have HI : Hid (∀ W, Calls Tryd.prog 34 #[.int .i64 ((k / 10 : Nat) : Int)] W fun e w' => e = .returned (.string (bb (Lib.decDigits (k / 10)))) ∧ Below W.heap.size W w') := Lib.hid (fun W => ih (k / 10) (by omega) (k / 10) (by omega) W rfl)
      have hdl : (Lib.decDigits (k / 10)).length ≤ 20 := by rw [Lib.decDigits_length]; exact Lib.nDigits_le20 _ (by omega)
      clear ih hd
      obtain ⟨D, hD⟩ : ∃ D, Lib.decDigits (k / 10) = D := ⟨_, rfl⟩
      rw [hD] at HI hdl ⊢
      clear hD
      have hdl2 : ¬ (9223372036854775807 < D.length + 1) := by omega
      have l17 : (k : Int).tdiv 10 = ((k / 10 : Nat) : Int) := by rw [Int.tdiv_eq_ediv_of_nonneg (by omega)]; omega
      have l20 : (k : Int).tmod 10 = ((k % 10 : Nat) : Int) := by rw [Int.tmod_eq_emod_of_nonneg (by omega)]; omega
      have hq : k % 10 < 10 := by omega
      have hq2 : k / 10 < 4611686018427387904 := by omega
      obtain ⟨r, hr⟩ : ∃ r, k % 10 = r := ⟨_, rfl⟩
      rw [hr] at l20 hq ⊢
      clear hr
      obtain ⟨q, hq0⟩ : ∃ q, k / 10 = q := ⟨_, rfl⟩
      rw [hq0] at l17 hq2 HI
      clear hq0
      have r1 : (0 : Int) ≤ (r : Int) := by omega
      have r2 : (r : Int) < 10 := by omega
      have wq : IntKind.i64.wrap (q : Int) = (q : Int) := IntWalk.i64_in _ (by omega)
      have wr : IntKind.i64.wrap (48 + (r : Int)) = 48 + (r : Int) := IntWalk.i64_in _ (by omega)
      have wr8 : IntKind.u8.wrap (48 + (r : Int)) = 48 + (r : Int) := by simp [IntKind.wrap, IntKind.bits, IntKind.signed]; omega
      have HBB := Lib.hid (show bb (D ++ [UInt8.ofNat (48 + r)]) = bb D ++ bb [UInt8.ofNat (48 + r)] from by simp only [bb]; rfl)
      have HV := Lib.hid (dig_val r hq)
      clear hq
      obtain ⟨c, hc⟩ : ∃ c, UInt8.ofNat (48 + r) = c := ⟨_, rfl⟩
      have HC := Lib.hid hc
      rw [hc] at HBB ⊢
      clear hc
      go_enter Tryd.func34, Tryd.ntmps34
      go_wp2
      refine wp_region_held_drew (S := (fun w' => Below w.heap.size w w')) (by kernel_rfl) ?_ (fun hS => ?_)
      · exact (Below.refl _ _).drew
      try dsimp only at hS
      refine wpAnyH_take (i := 0) (v := ?_) rfl (by kernel_rfl) (by kernel_rfl) (by kernel_rfl) (fun _ _ _ h => h) (Or.inl ⟨by kernel_rfl, ?_⟩) hS ?_
      rotate_left
      · intro wz hSz; try dsimp only at hSz
        go_simp
        try simp only [l17, l20, wq, wr, wr8]
        all_goals with_reducible rfl
      try simp only [Act.put, List.getElem_toArray, List.getElem_cons_succ, List.getElem_cons_zero, List.setIfInBounds_toArray, List.set_cons_zero, List.set_cons_succ]
      refine wpAnyH_take (i := 1) (v := ?_) rfl (by kernel_rfl) (by kernel_rfl) (by kernel_rfl) (fun _ _ _ h => h) (Or.inl ⟨by kernel_rfl, ?_⟩) hS ?_
      rotate_left
      · intro wz hSz; try dsimp only at hSz
        go_simp
        try simp only [l17, l20, wq, wr, wr8]
        all_goals with_reducible rfl
      try simp only [Act.put, List.getElem_toArray, List.getElem_cons_succ, List.getElem_cons_zero, List.setIfInBounds_toArray, List.set_cons_zero, List.set_cons_succ]
      refine wpAnyH_take (i := 3) (v := ?_) rfl (by kernel_rfl) (by kernel_rfl) (by kernel_rfl) (fun _ _ _ h => h) (Or.inl ⟨by kernel_rfl, ?_⟩) hS ?_
      rotate_left
      · intro wz hSz; try dsimp only at hSz
        go_simp
        try simp only [l17, l20, wq, wr, wr8]
        all_goals with_reducible rfl
      try simp only [Act.put, List.getElem_toArray, List.getElem_cons_succ, List.getElem_cons_zero, List.setIfInBounds_toArray, List.set_cons_zero, List.set_cons_succ]
      refine wpAnyH_take (i := 4) (v := ?_) rfl (by kernel_rfl) (by kernel_rfl) (by kernel_rfl) (fun _ _ _ h => h) (Or.inl ⟨by kernel_rfl, ?_⟩) hS ?_
      rotate_left
      · intro wz hSz; try dsimp only at hSz
        go_simp
        try simp only [l17, l20, wq, wr, wr8]
        all_goals with_reducible rfl
      try simp only [Act.put, List.getElem_toArray, List.getElem_cons_succ, List.getElem_cons_zero, List.setIfInBounds_toArray, List.set_cons_zero, List.set_cons_succ]
      refine wpAnyH_take (i := 5) (v := ?_) rfl (by kernel_rfl) (by kernel_rfl) (by kernel_rfl) (fun _ _ _ h => h) (Or.inl ⟨by kernel_rfl, ?_⟩) hS ?_
      rotate_left
      · intro wz hSz; try dsimp only at hSz
        go_simp
        try simp only [l17, l20, wq, wr, wr8]
        all_goals with_reducible rfl
      try simp only [Act.put, List.getElem_toArray, List.getElem_cons_succ, List.getElem_cons_zero, List.setIfInBounds_toArray, List.set_cons_zero, List.set_cons_succ]
      refine wpAnyH_take (i := 6) (v := ?_) rfl (by kernel_rfl) (by kernel_rfl) (by kernel_rfl) (fun _ _ _ h => h) (Or.inl ⟨by kernel_rfl, ?_⟩) hS ?_
      rotate_left
      · intro wz hSz; try dsimp only at hSz
        go_simp
        try simp only [l17, l20, wq, wr, wr8]
        all_goals with_reducible rfl
      try simp only [Act.put, List.getElem_toArray, List.getElem_cons_succ, List.getElem_cons_zero, List.setIfInBounds_toArray, List.set_cons_zero, List.set_cons_succ]
      clear l17 l20
      refine wpAnyH_ready (rs := [2, 7]) (by kernel_rfl) (by simp) (AllReadyH.cons rfl (fun K hK => ?_) (AllReadyH.cons rfl (fun K hK => ?_) AllReadyH.nil))
      · go_simp
        refine (HI.out _).mono ?_; rintro e w5 ⟨rfl, hb5⟩
        refine hK.out _ _ ?_ (fun hSn => ?_)
        · exact hS.trans (hb5.mono hS.size)
        clear hK K hS
        have hS := hSn
        clear hSn
        try dsimp only at hS
        try simp only [Act.put, List.getElem_toArray, List.getElem_cons_succ, List.getElem_cons_zero, List.setIfInBounds_toArray, List.set_cons_zero, List.set_cons_succ]
        clear hb5
        have kc := conv_dig (w5.alloc (.cells #[.int .u8 (48 + (r : Int))] 5)) w5.heap.size (48 + (r : Int)) (UInt8.ofNat (48 + r)) HV.out (by rw [World.cell?_alloc_new]; rfl)
        rw [HC.out] at kc
        refine wpAnyH_ready (rs := [7]) (by kernel_rfl) (by simp) (AllReadyH.cons rfl (fun K hK => ?_) AllReadyH.nil)
        go_simp
        refine hK.out _ _ ?_ (fun hSn => ?_)
        · exact hS.alloc hS.size _
        clear hK K hS
        have hS := hSn
        clear hSn
        try dsimp only at hS
        try simp only [Act.put, List.getElem_toArray, List.getElem_cons_succ, List.getElem_cons_zero, List.setIfInBounds_toArray, List.set_cons_zero, List.set_cons_succ]
        refine wpAnyH_ready (rs := [8]) (by kernel_rfl) (by simp) (AllReadyH.cons rfl (fun K hK => ?_) AllReadyH.nil)
        go_simp
        refine hK.out _ _ ?_ (fun hSn => ?_)
        · exact hS
        clear hK K hS
        have hS := hSn
        clear hSn
        try dsimp only at hS
        try simp only [Act.put, List.getElem_toArray, List.getElem_cons_succ, List.getElem_cons_zero, List.setIfInBounds_toArray, List.set_cons_zero, List.set_cons_succ]
        refine wpAnyH_take (i := 9) (v := ?_) rfl (by kernel_rfl) (by kernel_rfl) (by kernel_rfl) (fun _ _ _ h => h) (Or.inl ⟨by kernel_rfl, ?_⟩) hS ?_
        rotate_left
        · intro wz hSz; try dsimp only at hSz
          go_simp
          all_goals with_reducible rfl
        try simp only [Act.put, List.getElem_toArray, List.getElem_cons_succ, List.getElem_cons_zero, List.setIfInBounds_toArray, List.set_cons_zero, List.set_cons_succ]
        refine wpAnyH_take (i := 10) (v := ?_) rfl (by kernel_rfl) (by kernel_rfl) (by kernel_rfl) (fun _ _ _ h => h) (Or.inl ⟨by kernel_rfl, ?_⟩) hS ?_
        rotate_left
        · intro wz hSz; try dsimp only at hSz
          go_simp
          all_goals with_reducible rfl
        try simp only [Act.put, List.getElem_toArray, List.getElem_cons_succ, List.getElem_cons_zero, List.setIfInBounds_toArray, List.set_cons_zero, List.set_cons_succ]
        refine wpAnyH_done (by kernel_rfl) ?_ _
        go_wp2
        go_ret
        exact ⟨by rw [HBB.out]; rfl, hS⟩
      · go_simp
        refine hK.out _ _ ?_ (fun hSn => ?_)
        · exact by first | exact hS.alloc hS.size _ | exact ((Below.refl w.heap.size w).alloc (Nat.le_refl _) _).drew
        clear hK K hS
        have hS := hSn
        clear hSn
        try dsimp only at hS
        try simp only [Act.put, List.getElem_toArray, List.getElem_cons_succ, List.getElem_cons_zero, List.setIfInBounds_toArray, List.set_cons_zero, List.set_cons_succ]
        obtain ⟨W1, hW1⟩ : ∃ W1, (w.alloc (.cells #[.int .u8 (48 + (r : Int))] 5)).drew = W1 := ⟨_, rfl⟩
        have c1 : W1.cell? ⟨w.heap.size, 0, none⟩ = some (.int .u8 (48 + (r : Int))) := by rw [← hW1]; show (w.alloc (.cells #[.int .u8 (48 + (r : Int))] 5)).cell? _ = _; rw [World.cell?_alloc_new]; rfl
        have z1 : w.heap.size < W1.heap.size := by rw [← hW1]; show _ < (w.heap.push _).size; simp
        rw [hW1] at hS ⊢
        clear hW1
        refine wpAnyH_ready (rs := [2, 8]) (by kernel_rfl) (by simp) (AllReadyH.cons rfl (fun K hK => ?_) (AllReadyH.cons rfl (fun K hK => ?_) AllReadyH.nil))
        · go_simp
          refine (HI.out _).mono ?_; rintro e w5 ⟨rfl, hb5⟩
          have c5 : w5.cell? ⟨w.heap.size, 0, none⟩ = some (.int .u8 (48 + (r : Int))) := (hb5.cell (p := ⟨w.heap.size, 0, none⟩) z1).trans c1
          refine hK.out _ _ ?_ (fun hSn => ?_)
          · exact hS.trans (hb5.mono hS.size)
          clear hK K hS
          have hS := hSn
          clear hSn
          try dsimp only at hS
          try simp only [Act.put, List.getElem_toArray, List.getElem_cons_succ, List.getElem_cons_zero, List.setIfInBounds_toArray, List.set_cons_zero, List.set_cons_succ]
          clear hb5 c1 z1
          have kc := conv_dig w5 w.heap.size (48 + (r : Int)) (UInt8.ofNat (48 + r)) HV.out (c5)
          rw [HC.out] at kc
          refine wpAnyH_ready (rs := [8]) (by kernel_rfl) (by simp) (AllReadyH.cons rfl (fun K hK => ?_) AllReadyH.nil)
          go_simp
          refine hK.out _ _ ?_ (fun hSn => ?_)
          · exact hS
          clear hK K hS
          have hS := hSn
          clear hSn
          try dsimp only at hS
          try simp only [Act.put, List.getElem_toArray, List.getElem_cons_succ, List.getElem_cons_zero, List.setIfInBounds_toArray, List.set_cons_zero, List.set_cons_succ]
          refine wpAnyH_take (i := 9) (v := ?_) rfl (by kernel_rfl) (by kernel_rfl) (by kernel_rfl) (fun _ _ _ h => h) (Or.inl ⟨by kernel_rfl, ?_⟩) hS ?_
          rotate_left
          · intro wz hSz; try dsimp only at hSz
            go_simp
            all_goals with_reducible rfl
          try simp only [Act.put, List.getElem_toArray, List.getElem_cons_succ, List.getElem_cons_zero, List.setIfInBounds_toArray, List.set_cons_zero, List.set_cons_succ]
          refine wpAnyH_take (i := 10) (v := ?_) rfl (by kernel_rfl) (by kernel_rfl) (by kernel_rfl) (fun _ _ _ h => h) (Or.inl ⟨by kernel_rfl, ?_⟩) hS ?_
          rotate_left
          · intro wz hSz; try dsimp only at hSz
            go_simp
            all_goals with_reducible rfl
          try simp only [Act.put, List.getElem_toArray, List.getElem_cons_succ, List.getElem_cons_zero, List.setIfInBounds_toArray, List.set_cons_zero, List.set_cons_succ]
          refine wpAnyH_done (by kernel_rfl) ?_ _
          go_wp2
          go_ret
          exact ⟨by rw [HBB.out]; rfl, hS⟩
        · have kc := conv_dig W1 w.heap.size (48 + (r : Int)) (UInt8.ofNat (48 + r)) HV.out (c1)
          rw [HC.out] at kc
          clear c1 z1
          go_simp
          refine hK.out _ _ ?_ (fun hSn => ?_)
          · exact hS
          clear hK K hS
          have hS := hSn
          clear hSn
          try dsimp only at hS
          try simp only [Act.put, List.getElem_toArray, List.getElem_cons_succ, List.getElem_cons_zero, List.setIfInBounds_toArray, List.set_cons_zero, List.set_cons_succ]
          refine wpAnyH_ready (rs := [2]) (by kernel_rfl) (by simp) (AllReadyH.cons rfl (fun K hK => ?_) AllReadyH.nil)
          go_simp
          refine (HI.out _).mono ?_; rintro e w5 ⟨rfl, hb5⟩
          refine hK.out _ _ ?_ (fun hSn => ?_)
          · exact hS.trans (hb5.mono hS.size)
          clear hK K hS
          have hS := hSn
          clear hSn
          try dsimp only at hS
          try simp only [Act.put, List.getElem_toArray, List.getElem_cons_succ, List.getElem_cons_zero, List.setIfInBounds_toArray, List.set_cons_zero, List.set_cons_succ]
          clear hb5
          refine wpAnyH_take (i := 9) (v := ?_) rfl (by kernel_rfl) (by kernel_rfl) (by kernel_rfl) (fun _ _ _ h => h) (Or.inl ⟨by kernel_rfl, ?_⟩) hS ?_
          rotate_left
          · intro wz hSz; try dsimp only at hSz
            go_simp
            all_goals with_reducible rfl
          try simp only [Act.put, List.getElem_toArray, List.getElem_cons_succ, List.getElem_cons_zero, List.setIfInBounds_toArray, List.set_cons_zero, List.set_cons_succ]
          refine wpAnyH_take (i := 10) (v := ?_) rfl (by kernel_rfl) (by kernel_rfl) (by kernel_rfl) (fun _ _ _ h => h) (Or.inl ⟨by kernel_rfl, ?_⟩) hS ?_
          rotate_left
          · intro wz hSz; try dsimp only at hSz
            go_simp
            all_goals with_reducible rfl
          try simp only [Act.put, List.getElem_toArray, List.getElem_cons_succ, List.getElem_cons_zero, List.setIfInBounds_toArray, List.set_cons_zero, List.set_cons_succ]
          refine wpAnyH_done (by kernel_rfl) ?_ _
          go_wp2
          go_ret
          exact ⟨by rw [HBB.out]; rfl, hS⟩
end Go.Proofs.YtkifmhdceobfhaaDoor.PP
