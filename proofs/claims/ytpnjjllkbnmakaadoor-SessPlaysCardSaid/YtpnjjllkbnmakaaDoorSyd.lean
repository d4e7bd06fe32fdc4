/- Package sess, its code: a session made; all functions but Step; of a session that is none, too. No condition. -/
import Derived.Test.YtpnjjllkbnmakaaDoorSyc
import Derived.StillTailTactics
namespace Go.Proofs.YtpnjjllkbnmakaaDoor.SE
open Go.ChangeShapes Go.WideShapes Go.ChangeAt Go.RowKit
open Go.Proofs.YtpnjjllkbnmakaaDoor.SL
set_option maxRecDepth 100000
set_option linter.unusedVariables false
set_option linter.unusedSimpArgs false

theorem binfo : ∃ j, Tryd.prog.info? 49 = some j := Option.isSome_iff_exists.1 (by kernel_rfl)
theorem eql_same (w : World) (a : Addr) : (binOp .eql 23 (.pointer (some a)) (.pointer (some a))).run Tryd.prog w = .ok (.bool true) w := by
  obtain ⟨j, hj⟩ := binfo
  exact run_eql_ptr_same (P := Tryd.prog) w a Tryd.underlying23 hj
theorem eql_none (w : World) (a : Addr) : (binOp .eql 23 (.pointer none) (.pointer (some a))).run Tryd.prog w = .ok (.bool false) w := by
  have h : ∀ d : Nat, (Op.equalIn (d + 1) 23 (.pointer none) (.pointer (some a))).run Tryd.prog w = .ok false w := fun d => by
    simp [Op.equalIn, run_underlying Tryd.underlying23]
  simp only [binOp]
  simp [Op.equal, Op.maxDepth, h 9999]
/-- what is not there: nil, or a session that New did not give -/
def Nb (w : World) (v : Value) : Prop := v = .pointer none ∨ ∃ b, v = ptr b ∧ w.cell? ⟨b, 0, none⟩ = some (.pointer none)
theorem Nb.below {w w' : World} {v : Value} (h : Nb w v) (hb : Below w.heap.size w w') : Nb w' v := by
  rcases h with h | ⟨b, h1, h2⟩
  · exact .inl h
  · exact .inr ⟨b, h1, (hb.cell (p := ⟨b, 0, none⟩) (World.block_lt_of_cell? _ _ h2)).trans h2⟩
theorem given_yes (w : World) (a : Nat) (h : w.cell? ⟨a, 0, none⟩ = some (ptr a)) : Calls Tryd.prog 24 #[ptr a] w fun e w' => e = .returned (.bool true) ∧ w = w' := by
  have he := fun w => SE.eql_same w ⟨a, 0, none⟩
  go_enter Tryd.func24, Tryd.ntmps24
  go_wp2
  go_ret
  exact ⟨rfl, rfl⟩
theorem given_no {w : World} {v : Value} (h : Nb w v) : Calls Tryd.prog 24 #[v] w fun e w' => e = .returned (.bool false) ∧ w = w' := by
  rcases h with rfl | ⟨b, rfl, h⟩
  · go_enter Tryd.func24, Tryd.ntmps24
    go_wp2
    go_ret
    exact ⟨rfl, rfl⟩
  · have he := fun w => SE.eql_none w ⟨b, 0, none⟩
    go_enter Tryd.func24, Tryd.ntmps24
    go_wp2
    go_ret
    exact ⟨rfl, rfl⟩
/-- what a step of a session makes of the world -/
def StP (a : Nat) (w w' : World) (S : St) : Prop := Chg (fun b => b = a) w w' ∧ Sx w' a S
section
variable {w w' : World} {a : Nat} {S : St}
theorem StP.refl (h : Sx w a S) : StP a w w S := ⟨.refl _ _, h⟩
theorem StP.set (h : Sx w a S) (p : Nat) (hp : p < 7) : StP a w (w.setCell ⟨a, 1, none⟩ (nV (p : Int))) { S with p := p } :=
  ⟨(Chg.refl (fun b => b = a) w).setCell (p := ⟨a, 1, none⟩) rfl _, h.1.set_ 1 _, hp⟩
theorem StP.trans {w1 w2 : World} {S1 S2 : St} (h : StP a w w1 S1) (k : StP a w1 w2 S2) : StP a w w2 S2 := ⟨h.1.trans k.1, k.2⟩
theorem StP.post {w1 w2 : World} {S1 : St} (h : StP a w w1 S1) (k : Below w1.heap.size w1 w2) : StP a w w2 S1 := ⟨h.1.trans (.of_below k), h.2.below k⟩
theorem Sx.cells (h : Sx w a S) : w.cell? ⟨a, 0, none⟩ = some (ptr a) ∧ w.cell? ⟨a, 1, none⟩ = some (nV S.p) ∧ w.cell? ⟨a, 2, none⟩ = some (.string S.u) ∧ w.cell? ⟨a, 3, none⟩ = some (.string S.d) := by
  have := h.1.cell 0
  have := h.1.cell 1
  have := h.1.cell 2
  have := h.1.cell 3
  simp_all
theorem accept_any (h : Sx w a S) (b : Bool) : Calls Tryd.prog 11 #[ptr a, .bool b] w fun e w' => e = .returned (nV (accE b S)) ∧ StP a w w' (accS b S) := by
  obtain ⟨c0, c1, c2, c3⟩ := h.cells
  have hG := given_yes w a c0
  have zf := h.1.frozen 1
  unfold accE accS
  by_cases e : S.p = 1
  · rw [if_pos e, if_pos e]
    have e1 : ((S.p : Int) != 1) = false := by rw [e]; rfl
    cases b with
    | true =>
      simp only [if_true]
      have HS := Lib.hid (StP.set h 2 (by omega))
      clear h e
      go_enter Tryd.func11, Tryd.ntmps11
      go_wp2_with (go_at_call 24; refine hG.mono ?_; rintro e w' ⟨rfl, rfl⟩)
      go_ret
      exact ⟨rfl, HS.out⟩
    | false =>
      simp only [Bool.false_eq_true, if_false]
      have HS := Lib.hid (StP.set h 6 (by omega))
      clear h e
      go_enter Tryd.func11, Tryd.ntmps11
      go_wp2_with (go_at_call 24; refine hG.mono ?_; rintro e w' ⟨rfl, rfl⟩)
      go_ret
      exact ⟨rfl, HS.out⟩
  · rw [if_neg e, if_neg e]
    have e1 : ((S.p : Int) != 1) = true := by rw [bne_iff_ne]; omega
    have HS := Lib.hid (StP.refl h)
    clear h e
    go_enter Tryd.func11, Tryd.ntmps11
    go_wp2_with (go_at_call 24; refine hG.mono ?_; rintro e w' ⟨rfl, rfl⟩)
    go_ret
    exact ⟨rfl, HS.out⟩
theorem done_any (h : Sx w a S) : Calls Tryd.prog 13 #[ptr a] w fun e w' => e = .returned (nV (donE S)) ∧ StP a w w' (donS S) := by
  obtain ⟨c0, c1, c2, c3⟩ := h.cells
  have hG := given_yes w a c0
  have zf := h.1.frozen 1
  unfold donE donS
  by_cases e : S.p = 3
  · rw [if_pos e, if_pos e]
    have e1 : ((S.p : Int) != 3) = false := by rw [e]; rfl
    have HS := Lib.hid (StP.set h 2 (by omega))
    clear h e
    go_enter Tryd.func13, Tryd.ntmps13
    go_wp2_with (go_at_call 24; refine hG.mono ?_; rintro e w' ⟨rfl, rfl⟩)
    go_ret
    exact ⟨rfl, HS.out⟩
  · rw [if_neg e, if_neg e]
    have e1 : ((S.p : Int) != 3) = true := by rw [bne_iff_ne]; omega
    have HS := Lib.hid (StP.refl h)
    clear h e
    go_enter Tryd.func13, Tryd.ntmps13
    go_wp2_with (go_at_call 24; refine hG.mono ?_; rintro e w' ⟨rfl, rfl⟩)
    go_ret
    exact ⟨rfl, HS.out⟩
theorem fail_any (h : Sx w a S) : Calls Tryd.prog 15 #[ptr a] w fun e w' => e = .returned (nV (faiE S)) ∧ StP a w w' (faiS S) := by
  obtain ⟨c0, c1, c2, c3⟩ := h.cells
  have hG := given_yes w a c0
  have zf := h.1.frozen 1
  unfold faiE faiS
  by_cases e : S.p = 3
  · rw [if_pos e, if_pos e]
    have e1 : ((S.p : Int) == 3) = true := by rw [e]; rfl
    have HS := Lib.hid (StP.set h 2 (by omega))
    clear h e
    go_enter Tryd.func15, Tryd.ntmps15
    go_wp2_with (go_at_call 24; refine hG.mono ?_; rintro e w' ⟨rfl, rfl⟩)
    go_ret
    exact ⟨rfl, HS.out⟩
  · rw [if_neg e, if_neg e]
    have e1 : ((S.p : Int) == 3) = false := by rw [beq_eq_false_iff_ne]; omega
    by_cases e4 : S.p = 4
    · rw [if_pos e4, if_pos e4]
      have e2 : ((S.p : Int) == 4) = true := by rw [e4]; rfl
      have HS := Lib.hid (StP.set h 5 (by omega))
      clear h e e4
      go_enter Tryd.func15, Tryd.ntmps15
      go_wp2_with (go_at_call 24; refine hG.mono ?_; rintro e w' ⟨rfl, rfl⟩)
      go_ret
      exact ⟨rfl, HS.out⟩
    · rw [if_neg e4, if_neg e4]
      have e2 : ((S.p : Int) == 4) = false := by rw [beq_eq_false_iff_ne]; omega
      have HS := Lib.hid (StP.refl h)
      clear h e e4
      go_enter Tryd.func15, Tryd.ntmps15
      go_wp2_with (go_at_call 24; refine hG.mono ?_; rintro e w' ⟨rfl, rfl⟩)
      go_ret
      exact ⟨rfl, HS.out⟩
theorem phase_any (h : Sx w a S) : Calls Tryd.prog 18 #[ptr a] w fun e w' => e = .returned (nV (S.p : Int)) ∧ w = w' := by
  obtain ⟨c0, c1, c2, c3⟩ := h.cells
  have hG := given_yes w a c0
  have zf := h.1.frozen 1
  clear h
  go_enter Tryd.func18, Tryd.ntmps18
  go_wp2_with (go_at_call 24; refine hG.mono ?_; rintro e w' ⟨rfl, rfl⟩)
  go_ret
  exact ⟨rfl, rfl⟩
theorem user_any (h : Sx w a S) : Calls Tryd.prog 19 #[ptr a] w fun e w' => e = .returned (.string S.u) ∧ w = w' := by
  obtain ⟨c0, c1, c2, c3⟩ := h.cells
  have hG := given_yes w a c0
  have zf := h.1.frozen 1
  clear h
  go_enter Tryd.func19, Tryd.ntmps19
  go_wp2_with (go_at_call 24; refine hG.mono ?_; rintro e w' ⟨rfl, rfl⟩)
  go_ret
  exact ⟨rfl, rfl⟩
theorem db_any (h : Sx w a S) : Calls Tryd.prog 20 #[ptr a] w fun e w' => e = .returned (.string S.d) ∧ w = w' := by
  obtain ⟨c0, c1, c2, c3⟩ := h.cells
  have hG := given_yes w a c0
  have zf := h.1.frozen 1
  clear h
  go_enter Tryd.func20, Tryd.ntmps20
  go_wp2_with (go_at_call 24; refine hG.mono ?_; rintro e w' ⟨rfl, rfl⟩)
  go_ret
  exact ⟨rfl, rfl⟩
end
theorem made_any (w : World) (p : Nat) (hp : p < 7) (u d : Tx) : Calls Tryd.prog 23 #[nV (p : Int), .string u, .string d] w fun e w' => e = .returned (ptr w.heap.size) ∧ Below w.heap.size w w' ∧ Sx w' w.heap.size ⟨p, u, d⟩ := by
  obtain ⟨W1, hW1⟩ : ∃ W, w.alloc (.cells #[.pointer none, nV (p : Int), .string u, .string d] 49) = W := ⟨_, rfl⟩
  obtain ⟨q, hq⟩ : ∃ b, w.heap.size = b := ⟨_, rfl⟩
  have hb1 : Below w.heap.size w W1 := by rw [← hW1]; exact (Below.refl _ _).alloc (Nat.le_refl _) _
  have k1 : Bk W1 q 49 #[.pointer none, nV (p : Int), .string u, .string d] := by rw [← hW1, ← hq]; exact Bk.new _ _ _
  obtain ⟨W2, hW2⟩ : ∃ W, W1.setCell ⟨q, 0, none⟩ (ptr q) = W := ⟨_, rfl⟩
  have HB2 : Hid (Below q w W2) := Lib.hid (by rw [← hW2]; rw [hq] at hb1; exact hb1.setCell (Nat.le_refl _) _)
  have HK2 : Hid (Sx W2 q ⟨p, u, d⟩) := Lib.hid ⟨by rw [← hW2]; exact k1.set_ 0 _, hp⟩
  have z0 := k1.cell 0
  simp at z0
  have zf := k1.frozen 0
  rw [hq]
  clear k1 hb1
  go_enter Tryd.func23, Tryd.ntmps23
  go_wp2
  go_ret
  exact ⟨rfl, HB2.out, HK2.out⟩
theorem new_any (w : World) : Calls Tryd.prog 7 #[] w fun e w' => e = .returned (ptr w.heap.size) ∧ Below w.heap.size w w' ∧ Sx w' w.heap.size ⟨0, e0, e0⟩ := by
  have HM := Lib.hid (made_any w 0 (by omega) e0 e0)
  obtain ⟨q, hq⟩ : ∃ b, w.heap.size = b := ⟨_, rfl⟩
  rw [hq] at HM ⊢
  go_enter Tryd.func7, Tryd.ntmps7
  go_wp2_with (go_at_call 23; refine HM.out.mono ?_; rintro e w' ⟨rfl, hb, hs⟩; have HB := Lib.hid hb; have HS := Lib.hid hs; clear hb hs)
  go_ret
  exact ⟨rfl, HB.out, HS.out⟩
/-- a session in a new block -/
def CopP (w : World) (S : St) (e : Ending) (w' : World) : Prop := ∃ b, e = .returned (ptr b) ∧ w.heap.size ≤ b ∧ Below w.heap.size w w' ∧ Sx w' b S
theorem copy_any {w : World} {a : Nat} {S : St} (h : Sx w a S) : Calls Tryd.prog 17 #[ptr a] w (CopP w S) := by
  obtain ⟨c0, c1, c2, c3⟩ := h.cells
  have hG := given_yes w a c0
  have zf := h.1.frozen 1
  have HM : Hid (∀ W, Below w.heap.size w W → Calls Tryd.prog 23 #[nV (S.p : Int), .string S.u, .string S.d] W (CopP w S)) := Lib.hid fun W hb => by
    refine (made_any W S.p h.2 S.u S.d).mono ?_
    rintro e w' ⟨rfl, h1, h2⟩
    exact ⟨_, rfl, hb.size, hb.trans (h1.mono hb.size), h2⟩
  have HD : Hid (Below w.heap.size w w.drew) := Lib.hid (Below.refl _ _).drew
  clear h
  go_enter Tryd.func17, Tryd.ntmps17
  go_upto_region 3 with (go_at_call 24; refine hG.mono ?_; rintro e w' ⟨rfl, rfl⟩)
  go_still_tail 12, (by kernel_rfl)
  change wpList _ _ _ _ _ w.drew
  generalize w.drew = w2 at *
  clear c0 c1 c2 c3 zf hG
  go_wp2_with (go_at_call 23; refine (HM.out _ HD.out).mono ?_; rintro e w' ⟨b, rfl, h1, h2, h3⟩; have H1 := Lib.hid h1; have H2 := Lib.hid h2; have H3 := Lib.hid h3; clear h1 h2 h3)
  go_ret
  exact ⟨_, rfl, H1.out, H2.out, H3.out⟩
section
variable {w : World} {v : Value}
theorem accept_nb (h : Nb w v) (b : Bool) : Calls Tryd.prog 11 #[v, .bool b] w fun e w' => e = .returned (nV 12) ∧ w = w' := by
  have hG := given_no h
  clear h
  go_enter Tryd.func11, Tryd.ntmps11
  go_wp2_with (go_at_call 24; refine hG.mono ?_; rintro e w' ⟨rfl, rfl⟩)
  go_ret
  exact ⟨rfl, rfl⟩
theorem done_nb (h : Nb w v)  : Calls Tryd.prog 13 #[v] w fun e w' => e = .returned (nV 12) ∧ w = w' := by
  have hG := given_no h
  clear h
  go_enter Tryd.func13, Tryd.ntmps13
  go_wp2_with (go_at_call 24; refine hG.mono ?_; rintro e w' ⟨rfl, rfl⟩)
  go_ret
  exact ⟨rfl, rfl⟩
theorem fail_nb (h : Nb w v)  : Calls Tryd.prog 15 #[v] w fun e w' => e = .returned (nV 12) ∧ w = w' := by
  have hG := given_no h
  clear h
  go_enter Tryd.func15, Tryd.ntmps15
  go_wp2_with (go_at_call 24; refine hG.mono ?_; rintro e w' ⟨rfl, rfl⟩)
  go_ret
  exact ⟨rfl, rfl⟩
theorem phase_nb (h : Nb w v)  : Calls Tryd.prog 18 #[v] w fun e w' => e = .returned (nV 0) ∧ w = w' := by
  have hG := given_no h
  clear h
  go_enter Tryd.func18, Tryd.ntmps18
  go_wp2_with (go_at_call 24; refine hG.mono ?_; rintro e w' ⟨rfl, rfl⟩)
  go_ret
  exact ⟨rfl, rfl⟩
theorem user_nb (h : Nb w v)  : Calls Tryd.prog 19 #[v] w fun e w' => e = .returned (.string e0) ∧ w = w' := by
  have hG := given_no h
  clear h
  go_enter Tryd.func19, Tryd.ntmps19
  go_wp2_with (go_at_call 24; refine hG.mono ?_; rintro e w' ⟨rfl, rfl⟩)
  go_ret
  exact ⟨rfl, rfl⟩
theorem db_nb (h : Nb w v)  : Calls Tryd.prog 20 #[v] w fun e w' => e = .returned (.string e0) ∧ w = w' := by
  have hG := given_no h
  clear h
  go_enter Tryd.func20, Tryd.ntmps20
  go_wp2_with (go_at_call 24; refine hG.mono ?_; rintro e w' ⟨rfl, rfl⟩)
  go_ret
  exact ⟨rfl, rfl⟩
theorem copy_nb (h : Nb w v)  : Calls Tryd.prog 17 #[v] w fun e w' => e = .returned (.pointer none) ∧ w = w' := by
  have hG := given_no h
  clear h
  go_enter Tryd.func17, Tryd.ntmps17
  go_wp2_with (go_at_call 24; refine hG.mono ?_; rintro e w' ⟨rfl, rfl⟩)
  go_ret
  exact ⟨rfl, rfl⟩
end
end Go.Proofs.YtpnjjllkbnmakaaDoor.SE
