/- What each small function of package front's reader does: pass, need, two, four, text, bytes. Condition: the body is of at most 2^40 bytes. -/
import Derived.Test.YtojgeilihoilnaaM2
set_option linter.unusedSimpArgs false
set_option linter.unusedVariables false
namespace Go.Proofs.Ytojgeilihoilnaa
open Go.ChangeShapes Go.WideShapes Go.ChangeAt Go.RowKit
set_option linter.unusedVariables false

section
variable (R : Nat) (s : ByteArray) (w : World)

theorem pass_ok (p q : Nat) (x : Bool) (h : Blk w R 47 #[.string s, .int .i64 p, .bool x]) (hq : q ≤ s.size) :
    Calls Try.prog 69 #[.pointer (some ⟨R, 0, none⟩), .int .i64 q, .int .i64 0] w (RsP R s (.tuple #[]) (s.data.toList.drop q) x w) := by
  have f1 : w.frozen? ⟨R, 1, none⟩ = false := h.frozen 1
  have c1 : w.cell? ⟨R, 1, none⟩ = some (.int .i64 p) := h.cell 1
  go_enter Try.func69, Try.ntmps69
  go_wp2
  go_end0
  exact ⟨rfl, ⟨q, hq, rfl, h.set_ 1 _⟩, (Keeps.refl _ _).set _ _ _ (.inl (List.mem_singleton.2 rfl))⟩
theorem pass_no (p : Nat) (q er : Int) (x : Bool) (h : Blk w R 47 #[.string s, .int .i64 p, .bool x]) (he : er ≠ 0) (hs : s.size ≤ 1099511627776) :
    Calls Try.prog 69 #[.pointer (some ⟨R, 0, none⟩), .int .i64 q, .int .i64 er] w (RsP R s (.tuple #[]) [] true w) := by
  have f1 : w.frozen? ⟨R, 1, none⟩ = false := h.frozen 1
  have f2 : w.frozen? ⟨R, 2, none⟩ = false := h.frozen 2
  have c0 : w.cell? ⟨R, 0, none⟩ = some (.string s) := h.cell 0
  have c1 : w.cell? ⟨R, 1, none⟩ = some (.int .i64 p) := h.cell 1
  have c2 : w.cell? ⟨R, 2, none⟩ = some (.bool x) := h.cell 2
  have hb : (er != 0) = true := by simpa using he
  clear he
  go_enter Try.func69, Try.ntmps69
  go_wp2
  go_end0
  exact ⟨rfl, ⟨s.size, Nat.le_refl _, by rw [List.drop_of_length_le (by rw [Lib.size_eq]; exact Nat.le_refl _)], (h.set_ 2 _).set_ 1 _⟩, ((Keeps.refl _ _).set _ _ _ (.inl (List.mem_singleton.2 rfl))).set _ _ _ (.inl (List.mem_singleton.2 rfl))⟩

theorem need_any (l : Tx) (x b : Bool) (h : Rs w R s l x) :
    Calls Try.prog 60 #[.pointer (some ⟨R, 0, none⟩), .bool b] w (RsP R s (.tuple #[]) l (x || !b) w) := by
  obtain ⟨p, h1, h2, h3⟩ := h
  have f2 : w.frozen? ⟨R, 2, none⟩ = false := h3.frozen 2
  have c2 : w.cell? ⟨R, 2, none⟩ = some (.bool x) := h3.cell 2
  cases b
  · go_enter Try.func60, Try.ntmps60
    go_wp2
    go_end0
    exact ⟨rfl, ⟨p, h1, h2, by have := h3.set_ 2 (.bool true); simpa using this⟩, (Keeps.refl _ _).set _ _ _ (.inl (List.mem_singleton.2 rfl))⟩
  · go_enter Try.func60, Try.ntmps60
    go_wp2
    go_end0
    exact ⟨rfl, ⟨p, h1, h2, by simpa using h3⟩, Keeps.refl _ _⟩

set_option maxHeartbeats 400000 in
theorem rtext_any (l : Tx) (x : Bool) (h : Rs w R s l x) (hs : s.size ≤ 1099511627776) :
    Calls Try.prog 59 #[.pointer (some ⟨R, 0, none⟩)] w (RsP R s (.string (ba (rdT l x).1)) (rdT l x).2.1 (rdT l x).2.2 w) := by
  obtain ⟨p, h1, rfl, h3⟩ := h
  have c0 : w.cell? ⟨R, 0, none⟩ = some (.string s) := h3.cell 0
  have c1 : w.cell? ⟨R, 1, none⟩ = some (.int .i64 p) := h3.cell 1
  obtain ⟨er, q, e, hif⟩ := gText_list s p h1 x
  have d := fun w => getText_any s p w (by omega)
  rw [e] at d
  generalize rdT (List.drop p s.data.toList) x = r at *
  obtain ⟨t, l', x'⟩ := r
  clear e
  unfold res3 at d
  have h3' : Blk w.drew R _ _ := h3
  by_cases he : er = 0
  · rw [if_pos he] at hif
    subst he
    obtain ⟨hq, e2⟩ := hif
    obtain ⟨rfl, rfl⟩ : s.data.toList.drop q = l' ∧ x = x' := by injection e2 with a b; exact ⟨a.symm, b.symm⟩
    clear e2
    go_enter Try.func59, Try.ntmps59
    go_wp2
    go_region_with (go_at_call 72; refine (d _).mono ?_; rintro e w1 ⟨rfl, hb1⟩)
    all_goals
      have g1 := h3'.below hb1 (by simpa using h3.lt)
      go_wp2_with (go_at_call 69; refine (pass_ok R s _ p q x g1 hq).mono ?_; rintro e w2 ⟨rfl, hr, hk⟩)
      go_ret
      exact ⟨rfl, hr, ((Keeps.drew (Keeps.refl _ _)).bel hb1).and hk⟩
  · rw [if_neg he] at hif
    obtain ⟨rfl, rfl⟩ : l' = [] ∧ x' = true := by injection hif with a b; exact ⟨a, b⟩
    clear hif
    go_enter Try.func59, Try.ntmps59
    go_wp2
    go_region_with (go_at_call 72; refine (d _).mono ?_; rintro e w1 ⟨rfl, hb1⟩)
    all_goals
      have g1 := h3'.below hb1 (by simpa using h3.lt)
      go_wp2_with (go_at_call 69; refine (pass_no R s _ p _ er x g1 he hs).mono ?_; rintro e w2 ⟨rfl, hr, hk⟩)
      go_ret
      exact ⟨rfl, hr, ((Keeps.drew (Keeps.refl _ _)).bel hb1).and hk⟩
set_option maxHeartbeats 400000 in
theorem r4_any (l : Tx) (x : Bool) (h : Rs w R s l x) (hs : s.size ≤ 1099511627776) :
    Calls Try.prog 55 #[.pointer (some ⟨R, 0, none⟩)] w (RsP R s (.int .i64 (rd4 l x).1) (rd4 l x).2.1 (rd4 l x).2.2 w) := by
  obtain ⟨p, h1, rfl, h3⟩ := h
  have c0 : w.cell? ⟨R, 0, none⟩ = some (.string s) := h3.cell 0
  have c1 : w.cell? ⟨R, 1, none⟩ = some (.int .i64 p) := h3.cell 1
  obtain ⟨er, e, hif⟩ := g32_list s p h1 x
  have d := fun w => get32_any s p w (by omega)
  rw [e] at d
  generalize rd4 (List.drop p s.data.toList) x = r at *
  obtain ⟨t, l', x'⟩ := r
  clear e
  unfold int3 at d
  have h3' : Blk w.drew R _ _ := h3
  by_cases he : er = 0
  · rw [if_pos he] at hif d
    subst he
    obtain ⟨hq, e2⟩ := hif
    obtain ⟨rfl, rfl⟩ : s.data.toList.drop (p + 4) = l' ∧ x = x' := by injection e2 with a b; exact ⟨a.symm, b.symm⟩
    clear e2
    go_enter Try.func55, Try.ntmps55
    go_wp2
    go_region_with (go_at_call 68; refine (d _).mono ?_; rintro e w1 ⟨rfl, hb1⟩)
    all_goals
      have g1 := h3'.below hb1 (by simpa using h3.lt)
      go_wp2_with (go_at_call 69; refine (pass_ok R s _ p (p + 4) x g1 hq).mono ?_; rintro e w2 ⟨rfl, hr, hk⟩)
      go_ret
      exact ⟨rfl, hr, ((Keeps.drew (Keeps.refl _ _)).bel hb1).and hk⟩
  · rw [if_neg he] at hif d
    obtain ⟨rfl, rfl⟩ : l' = [] ∧ x' = true := by injection hif with a b; exact ⟨a, b⟩
    clear hif
    go_enter Try.func55, Try.ntmps55
    go_wp2
    go_region_with (go_at_call 68; refine (d _).mono ?_; rintro e w1 ⟨rfl, hb1⟩)
    all_goals
      have g1 := h3'.below hb1 (by simpa using h3.lt)
      go_wp2_with (go_at_call 69; refine (pass_no R s _ p _ er x g1 he hs).mono ?_; rintro e w2 ⟨rfl, hr, hk⟩)
      go_ret
      exact ⟨rfl, hr, ((Keeps.drew (Keeps.refl _ _)).bel hb1).and hk⟩
set_option maxHeartbeats 400000 in
theorem r2_any (l : Tx) (x : Bool) (h : Rs w R s l x) (hs : s.size ≤ 1099511627776) :
    Calls Try.prog 61 #[.pointer (some ⟨R, 0, none⟩)] w (RsP R s (.int .i64 (rd2 l x).1) (rd2 l x).2.1 (rd2 l x).2.2 w) := by
  obtain ⟨p, h1, rfl, h3⟩ := h
  have c0 : w.cell? ⟨R, 0, none⟩ = some (.string s) := h3.cell 0
  have c1 : w.cell? ⟨R, 1, none⟩ = some (.int .i64 p) := h3.cell 1
  obtain ⟨er, e, hif⟩ := g16_list s p h1 x
  have d := fun w => get16_any s p w (by omega)
  rw [e] at d
  generalize rd2 (List.drop p s.data.toList) x = r at *
  obtain ⟨t, l', x'⟩ := r
  clear e
  unfold int3 at d
  have h3' : Blk w.drew R _ _ := h3
  by_cases he : er = 0
  · rw [if_pos he] at hif d
    subst he
    obtain ⟨hq, e2⟩ := hif
    obtain ⟨rfl, rfl⟩ : s.data.toList.drop (p + 2) = l' ∧ x = x' := by injection e2 with a b; exact ⟨a.symm, b.symm⟩
    clear e2
    go_enter Try.func61, Try.ntmps61
    go_wp2
    go_region_with (go_at_call 73; refine (d _).mono ?_; rintro e w1 ⟨rfl, hb1⟩)
    all_goals
      have g1 := h3'.below hb1 (by simpa using h3.lt)
      go_wp2_with (go_at_call 69; refine (pass_ok R s _ p (p + 2) x g1 hq).mono ?_; rintro e w2 ⟨rfl, hr, hk⟩)
      go_ret
      exact ⟨rfl, hr, ((Keeps.drew (Keeps.refl _ _)).bel hb1).and hk⟩
  · rw [if_neg he] at hif d
    obtain ⟨rfl, rfl⟩ : l' = [] ∧ x' = true := by injection hif with a b; exact ⟨a, b⟩
    clear hif
    go_enter Try.func61, Try.ntmps61
    go_wp2
    go_region_with (go_at_call 73; refine (d _).mono ?_; rintro e w1 ⟨rfl, hb1⟩)
    all_goals
      have g1 := h3'.below hb1 (by simpa using h3.lt)
      go_wp2_with (go_at_call 69; refine (pass_no R s _ p _ er x g1 he hs).mono ?_; rintro e w2 ⟨rfl, hr, hk⟩)
      go_ret
      exact ⟨rfl, hr, ((Keeps.drew (Keeps.refl _ _)).bel hb1).and hk⟩
set_option maxHeartbeats 400000 in
theorem rbytes_any (n : Int) (l : Tx) (x : Bool) (h : Rs w R s l x) (hs : s.size ≤ 1099511627776) :
    Calls Try.prog 64 #[.pointer (some ⟨R, 0, none⟩), .int .i64 n] w (RsP R s (.string (ba (rdB n l x).1)) (rdB n l x).2.1 (rdB n l x).2.2 w) := by
  obtain ⟨p, h1, rfl, h3⟩ := h
  have c0 : w.cell? ⟨R, 0, none⟩ = some (.string s) := h3.cell 0
  have c1 : w.cell? ⟨R, 1, none⟩ = some (.int .i64 p) := h3.cell 1
  obtain ⟨er, q, e, hif⟩ := gBytes_list s p n h1 x
  have d := fun w => getBytes_any s p n w (by omega)
  rw [e] at d
  generalize rdB n (List.drop p s.data.toList) x = r at *
  obtain ⟨t, l', x'⟩ := r
  clear e
  unfold res3 at d
  have h3' : Blk w.drew R _ _ := h3
  by_cases he : er = 0
  · rw [if_pos he] at hif d
    subst he
    obtain ⟨hn, hq, e2⟩ := hif
    obtain ⟨m, rfl⟩ : ∃ m : Nat, n = m := ⟨n.toNat, by omega⟩
    obtain ⟨rfl, rfl⟩ : s.data.toList.drop (p + m) = l' ∧ x = x' := by injection e2 with a b; exact ⟨a.symm, b.symm⟩
    have hq : p + m ≤ s.size := by omega
    clear e2
    go_enter Try.func64, Try.ntmps64
    go_wp2
    go_region_with (go_at_call 75; refine (d _).mono ?_; rintro e w1 ⟨rfl, hb1⟩)
    all_goals
      have g1 := h3'.below hb1 (by simpa using h3.lt)
      go_wp2_with (go_at_call 69; refine (pass_ok R s _ p (p + m) x g1 hq).mono ?_; rintro e w2 ⟨rfl, hr, hk⟩)
      go_ret
      exact ⟨rfl, hr, ((Keeps.drew (Keeps.refl _ _)).bel hb1).and hk⟩
  · rw [if_neg he] at hif d
    obtain ⟨rfl, rfl⟩ : l' = [] ∧ x' = true := by injection hif with a b; exact ⟨a, b⟩
    clear hif
    go_enter Try.func64, Try.ntmps64
    go_wp2
    go_region_with (go_at_call 75; refine (d _).mono ?_; rintro e w1 ⟨rfl, hb1⟩)
    all_goals
      have g1 := h3'.below hb1 (by simpa using h3.lt)
      go_wp2_with (go_at_call 69; refine (pass_no R s _ p _ er x g1 he hs).mono ?_; rintro e w2 ⟨rfl, hr, hk⟩)
      go_ret
      exact ⟨rfl, hr, ((Keeps.drew (Keeps.refl _ _)).bel hb1).and hk⟩

end
end Go.Proofs.Ytojgeilihoilnaa
