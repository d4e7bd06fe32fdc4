/- What the small functions of package back's reader do: take (of a number, of a text, of so many bytes), bytes, need, count. Condition: the body is of at most 2^40 bytes. -/
import Derived.Test.YtnjifbgjglniaaaBkc
namespace Go.Proofs.Ytnjifbgjglniaaa.BK
open Go.Proofs.Ytnjifbgjglniaaa
open Go.ChangeShapes Go.WideShapes Go.ChangeAt Go.RowKit
set_option linter.unusedVariables false
set_option maxRecDepth 100000
attribute [local go_sem ↓] Go.wp_at_zero Go.wp_at_succ

theorem Rs.cell2 {w : World} {R : Nat} {s : ByteArray} {l : Tx} {x : Bool} (h : Rs w R s l x) : w.cell? ⟨R, 2, none⟩ = some (.bool x) := by
  obtain ⟨p, h1, h2, h3⟩ := h
  exact h3.cell 2
theorem Rs.bad {w : World} {R : Nat} {s : ByteArray} {l : Tx} {x : Bool} (h : Rs w R s l x) : RsP R s (.tuple #[]) l true w (.returned (.tuple #[])) (w.setCell ⟨R, 2, none⟩ (.bool true)) := by
  obtain ⟨p, h1, h2, h3⟩ := h
  exact ⟨rfl, ⟨p, h1, h2, h3.set_ 2 _⟩, (Keeps.refl _ _).set _ _ _ (.inl (by simp))⟩
section
variable (R : Nat) (s : ByteArray) (w : World)
theorem need_any (l : Tx) (x b : Bool) (h : Rs w R s l x) :
    Calls Try.prog 72 #[.pointer (some ⟨R, 0, none⟩), .bool b] w (RsP R s (.tuple #[]) l (x || !b) w) := by
  obtain ⟨p, h1, h2, h3⟩ := h
  have f2 : w.frozen? ⟨R, 2, none⟩ = false := h3.frozen 2
  have c2 : w.cell? ⟨R, 2, none⟩ = some (.bool x) := h3.cell 2
  cases b
  · go_enter Try.func72, Try.ntmps72
    go_wp2
    go_end0
    exact ⟨rfl, ⟨p, h1, h2, by have := h3.set_ 2 (.bool true); simpa using this⟩, (Keeps.refl _ _).set _ _ _ (.inl (List.mem_singleton.2 rfl))⟩
  · go_enter Try.func72, Try.ntmps72
    go_wp2
    go_end0
    exact ⟨rfl, ⟨p, h1, h2, by simpa using h3⟩, Keeps.refl _ _⟩

set_option maxHeartbeats 800000 in
theorem r4_any (l : Tx) (x : Bool) (h : Rs w R s l x) (hs : s.size ≤ 1099511627776) :
    Calls Try.prog 70 #[.pointer (some ⟨R, 0, none⟩), .func (.func 71) #[] #[]] w (RsP R s (.int .i64 (rd4 l x).1) (rd4 l x).2.1 (rd4 l x).2.2 w) := by
  obtain ⟨p, h1, rfl, h3⟩ := h
  have c0 : w.cell? ⟨R, 0, none⟩ = some (.string s) := h3.cell 0
  have c1 : w.cell? ⟨R, 1, none⟩ = some (.int .i64 p) := h3.cell 1
  obtain ⟨er, e, hif⟩ := g32_list s p h1 x
  have d := fun w => get32_any s p w (by omega)
  rw [e] at d
  generalize rd4 (List.drop p s.data.toList) x = r at *
  obtain ⟨t, l', x'⟩ := r
  clear e
  unfold int3 at d
  have h3' : Blk w.drew R _ _ := h3
  by_cases he : er = 0
  · rw [if_pos he] at hif d
    subst he
    obtain ⟨hq, e2⟩ := hif
    obtain ⟨rfl, rfl⟩ : s.data.toList.drop (p + 4) = l' ∧ x = x' := by injection e2 with a b; exact ⟨a.symm, b.symm⟩
    clear e2
    go_enter Try.func70, Try.ntmps70
    go_wp2
    go_region_with (go_at_call 71; refine (d _).mono ?_; rintro e w1 ⟨rfl, hb1⟩)
    all_goals
      have g1 := h3'.below hb1 (by simpa using h3.lt)
      have f1 : w1.frozen? ⟨R, 1, none⟩ = false := g1.frozen 1
      have cc1 : w1.cell? ⟨R, 1, none⟩ = some (.int .i64 p) := g1.cell 1
      go_wp2
      go_ret
      exact ⟨rfl, ⟨p + 4, hq, rfl, g1.set_ 1 _⟩, ((Keeps.drew (Keeps.refl _ _)).bel hb1).set _ _ _ (.inl (by simp))⟩
  · rw [if_neg he] at hif d
    obtain ⟨rfl, rfl⟩ : l' = [] ∧ x' = true := by injection hif with a b; exact ⟨a, b⟩
    have hb : (er != 0) = true := by simpa using he
    clear hif he
    go_enter Try.func70, Try.ntmps70
    go_wp2
    go_region_with (go_at_call 71; refine (d _).mono ?_; rintro e w1 ⟨rfl, hb1⟩)
    all_goals
      have g1 := h3'.below hb1 (by simpa using h3.lt)
      have f1 : w1.frozen? ⟨R, 1, none⟩ = false := g1.frozen 1
      have f2 : w1.frozen? ⟨R, 2, none⟩ = false := g1.frozen 2
      have cc0 : w1.cell? ⟨R, 0, none⟩ = some (.string s) := g1.cell 0
      have cc1 : w1.cell? ⟨R, 1, none⟩ = some (.int .i64 p) := g1.cell 1
      have cc2 : w1.cell? ⟨R, 2, none⟩ = some (.bool x) := g1.cell 2
      go_wp2
      go_ret
      exact ⟨rfl, ⟨s.size, Nat.le_refl _, by rw [List.drop_of_length_le (by rw [Lib.size_eq]; exact Nat.le_refl _)], (g1.set_ 2 _).set_ 1 _⟩, (((Keeps.drew (Keeps.refl _ _)).bel hb1).set _ _ _ (.inl (by simp))).set _ _ _ (.inl (by simp))⟩

set_option maxHeartbeats 800000 in
theorem r2_any (l : Tx) (x : Bool) (h : Rs w R s l x) (hs : s.size ≤ 1099511627776) :
    Calls Try.prog 70 #[.pointer (some ⟨R, 0, none⟩), .func (.func 92) #[] #[]] w (RsP R s (.int .i64 (rd2 l x).1) (rd2 l x).2.1 (rd2 l x).2.2 w) := by
  obtain ⟨p, h1, rfl, h3⟩ := h
  have c0 : w.cell? ⟨R, 0, none⟩ = some (.string s) := h3.cell 0
  have c1 : w.cell? ⟨R, 1, none⟩ = some (.int .i64 p) := h3.cell 1
  obtain ⟨er, e, hif⟩ := g16_list s p h1 x
  have d := fun w => get16_any s p w (by omega)
  rw [e] at d
  generalize rd2 (List.drop p s.data.toList) x = r at *
  obtain ⟨t, l', x'⟩ := r
  clear e
  unfold int3 at d
  have h3' : Blk w.drew R _ _ := h3
  by_cases he : er = 0
  · rw [if_pos he] at hif d
    subst he
    obtain ⟨hq, e2⟩ := hif
    obtain ⟨rfl, rfl⟩ : s.data.toList.drop (p + 2) = l' ∧ x = x' := by injection e2 with a b; exact ⟨a.symm, b.symm⟩
    clear e2
    go_enter Try.func70, Try.ntmps70
    go_wp2
    go_region_with (go_at_call 92; refine (d _).mono ?_; rintro e w1 ⟨rfl, hb1⟩)
    all_goals
      have g1 := h3'.below hb1 (by simpa using h3.lt)
      have f1 : w1.frozen? ⟨R, 1, none⟩ = false := g1.frozen 1
      have cc1 : w1.cell? ⟨R, 1, none⟩ = some (.int .i64 p) := g1.cell 1
      go_wp2
      go_ret
      exact ⟨rfl, ⟨p + 2, hq, rfl, g1.set_ 1 _⟩, ((Keeps.drew (Keeps.refl _ _)).bel hb1).set _ _ _ (.inl (by simp))⟩
  · rw [if_neg he] at hif d
    obtain ⟨rfl, rfl⟩ : l' = [] ∧ x' = true := by injection hif with a b; exact ⟨a, b⟩
    have hb : (er != 0) = true := by simpa using he
    clear hif he
    go_enter Try.func70, Try.ntmps70
    go_wp2
    go_region_with (go_at_call 92; refine (d _).mono ?_; rintro e w1 ⟨rfl, hb1⟩)
    all_goals
      have g1 := h3'.below hb1 (by simpa using h3.lt)
      have f1 : w1.frozen? ⟨R, 1, none⟩ = false := g1.frozen 1
      have f2 : w1.frozen? ⟨R, 2, none⟩ = false := g1.frozen 2
      have cc0 : w1.cell? ⟨R, 0, none⟩ = some (.string s) := g1.cell 0
      have cc1 : w1.cell? ⟨R, 1, none⟩ = some (.int .i64 p) := g1.cell 1
      have cc2 : w1.cell? ⟨R, 2, none⟩ = some (.bool x) := g1.cell 2
      go_wp2
      go_ret
      exact ⟨rfl, ⟨s.size, Nat.le_refl _, by rw [List.drop_of_length_le (by rw [Lib.size_eq]; exact Nat.le_refl _)], (g1.set_ 2 _).set_ 1 _⟩, (((Keeps.drew (Keeps.refl _ _)).bel hb1).set _ _ _ (.inl (by simp))).set _ _ _ (.inl (by simp))⟩

set_option maxHeartbeats 800000 in
theorem rtext_any (l : Tx) (x : Bool) (h : Rs w R s l x) (hs : s.size ≤ 1099511627776) :
    Calls Try.prog 76 #[.pointer (some ⟨R, 0, none⟩), .func (.func 77) #[] #[]] w (RsP R s (.string (ba (rdT l x).1)) (rdT l x).2.1 (rdT l x).2.2 w) := by
  obtain ⟨p, h1, rfl, h3⟩ := h
  have c0 : w.cell? ⟨R, 0, none⟩ = some (.string s) := h3.cell 0
  have c1 : w.cell? ⟨R, 1, none⟩ = some (.int .i64 p) := h3.cell 1
  obtain ⟨er, q, e, hif⟩ := gText_list s p h1 x
  have d := fun w => getText_any s p w (by omega)
  rw [e] at d
  generalize rdT (List.drop p s.data.toList) x = r at *
  obtain ⟨t, l', x'⟩ := r
  clear e
  unfold res3 at d
  have h3' : Blk w.drew R _ _ := h3
  by_cases he : er = 0
  · rw [if_pos he] at hif
    subst he
    obtain ⟨hq, e2⟩ := hif
    obtain ⟨rfl, rfl⟩ : s.data.toList.drop q = l' ∧ x = x' := by injection e2 with a b; exact ⟨a.symm, b.symm⟩
    clear e2
    go_enter Try.func76, Try.ntmps76
    go_wp2
    go_region_with (go_at_call 77; refine (d _).mono ?_; rintro e w1 ⟨rfl, hb1⟩)
    all_goals
      have g1 := h3'.below hb1 (by simpa using h3.lt)
      have f1 : w1.frozen? ⟨R, 1, none⟩ = false := g1.frozen 1
      have cc1 : w1.cell? ⟨R, 1, none⟩ = some (.int .i64 p) := g1.cell 1
      go_wp2
      go_ret
      exact ⟨rfl, ⟨q, hq, rfl, g1.set_ 1 _⟩, ((Keeps.drew (Keeps.refl _ _)).bel hb1).set _ _ _ (.inl (by simp))⟩
  · rw [if_neg he] at hif
    obtain ⟨rfl, rfl⟩ : l' = [] ∧ x' = true := by injection hif with a b; exact ⟨a, b⟩
    have hb : (er != 0) = true := by simpa using he
    clear hif he
    go_enter Try.func76, Try.ntmps76
    go_wp2
    go_region_with (go_at_call 77; refine (d _).mono ?_; rintro e w1 ⟨rfl, hb1⟩)
    all_goals
      have g1 := h3'.below hb1 (by simpa using h3.lt)
      have f1 : w1.frozen? ⟨R, 1, none⟩ = false := g1.frozen 1
      have f2 : w1.frozen? ⟨R, 2, none⟩ = false := g1.frozen 2
      have cc0 : w1.cell? ⟨R, 0, none⟩ = some (.string s) := g1.cell 0
      have cc1 : w1.cell? ⟨R, 1, none⟩ = some (.int .i64 p) := g1.cell 1
      have cc2 : w1.cell? ⟨R, 2, none⟩ = some (.bool x) := g1.cell 2
      go_wp2
      go_ret
      exact ⟨rfl, ⟨s.size, Nat.le_refl _, by rw [List.drop_of_length_le (by rw [Lib.size_eq]; exact Nat.le_refl _)], (g1.set_ 2 _).set_ 1 _⟩, (((Keeps.drew (Keeps.refl _ _)).bel hb1).set _ _ _ (.inl (by simp))).set _ _ _ (.inl (by simp))⟩

theorem bytes1_any (p : Nat) (n : Int) (g : Nat) (hg : w.cell? ⟨g, 0, none⟩ = some (.int .i64 n)) (hs : s.size ≤ 1099511627776) :
    Calls Try.prog 87 #[.string s, .int .i64 p, .pointer (some ⟨g, 0, none⟩)] w fun e w' => e = .returned (res3 (gBytes s p n)) ∧ Below w.heap.size w w' := by
  have d := fun w => getBytes_any s p n w (by omega)
  unfold res3 at d ⊢
  go_enter Try.func87, Try.ntmps87
  go_wp2_with (go_at_call 88; refine (d _).mono ?_; rintro e w1 ⟨rfl, hb1⟩)
  go_ret3
  exact ⟨rfl, hb1⟩

set_option maxHeartbeats 800000 in
theorem tbytes_any (n : Int) (g : Nat) (l : Tx) (x : Bool) (h : Rs w R s l x) (hs : s.size ≤ 1099511627776) (hg : w.cell? ⟨g, 0, none⟩ = some (.int .i64 n)) :
    Calls Try.prog 76 #[.pointer (some ⟨R, 0, none⟩), .func (.func 87) #[] #[.pointer (some ⟨g, 0, none⟩)]] w (RsP R s (.string (ba (rdB n l x).1)) (rdB n l x).2.1 (rdB n l x).2.2 w) := by
  obtain ⟨p, h1, rfl, h3⟩ := h
  have c0 : w.cell? ⟨R, 0, none⟩ = some (.string s) := h3.cell 0
  have c1 : w.cell? ⟨R, 1, none⟩ = some (.int .i64 p) := h3.cell 1
  obtain ⟨er, q, e, hif⟩ := gBytes_list s p n h1 x
  have d := bytes1_any s w.drew p n g hg hs
  rw [e] at d
  generalize rdB n (List.drop p s.data.toList) x = r at *
  obtain ⟨t, l', x'⟩ := r
  clear e
  unfold res3 at d
  have h3' : Blk w.drew R _ _ := h3
  by_cases he : er = 0
  · rw [if_pos he] at hif d
    subst he
    obtain ⟨hn, hq, e2⟩ := hif
    obtain ⟨m, rfl⟩ : ∃ m : Nat, n = m := ⟨n.toNat, by omega⟩
    have hq : p + m ≤ s.size := by omega
    obtain ⟨rfl, rfl⟩ : s.data.toList.drop (p + m) = l' ∧ x = x' := by injection e2 with a b; exact ⟨a.symm, b.symm⟩
    clear e2
    go_enter Try.func76, Try.ntmps76
    go_wp2
    go_region_with (go_at_call 87; refine d.mono ?_; rintro e w1 ⟨rfl, hb1⟩)
    all_goals
      have g1 := h3'.below hb1 (by simpa using h3.lt)
      have f1 : w1.frozen? ⟨R, 1, none⟩ = false := g1.frozen 1
      have cc1 : w1.cell? ⟨R, 1, none⟩ = some (.int .i64 p) := g1.cell 1
      go_wp2
      go_ret
      exact ⟨rfl, ⟨p + m, hq, rfl, g1.set_ 1 _⟩, ((Keeps.drew (Keeps.refl _ _)).bel hb1).set _ _ _ (.inl (by simp))⟩
  · rw [if_neg he] at hif d
    obtain ⟨rfl, rfl⟩ : l' = [] ∧ x' = true := by injection hif with a b; exact ⟨a, b⟩
    have hb : (er != 0) = true := by simpa using he
    clear hif he
    go_enter Try.func76, Try.ntmps76
    go_wp2
    go_region_with (go_at_call 87; refine d.mono ?_; rintro e w1 ⟨rfl, hb1⟩)
    all_goals
      have g1 := h3'.below hb1 (by simpa using h3.lt)
      have f1 : w1.frozen? ⟨R, 1, none⟩ = false := g1.frozen 1
      have f2 : w1.frozen? ⟨R, 2, none⟩ = false := g1.frozen 2
      have cc0 : w1.cell? ⟨R, 0, none⟩ = some (.string s) := g1.cell 0
      have cc1 : w1.cell? ⟨R, 1, none⟩ = some (.int .i64 p) := g1.cell 1
      have cc2 : w1.cell? ⟨R, 2, none⟩ = some (.bool x) := g1.cell 2
      go_wp2
      go_ret
      exact ⟨rfl, ⟨s.size, Nat.le_refl _, by rw [List.drop_of_length_le (by rw [Lib.size_eq]; exact Nat.le_refl _)], (g1.set_ 2 _).set_ 1 _⟩, (((Keeps.drew (Keeps.refl _ _)).bel hb1).set _ _ _ (.inl (by simp))).set _ _ _ (.inl (by simp))⟩

theorem rbytes_any (n : Int) (l : Tx) (x : Bool) (h : Rs w R s l x) (hs : s.size ≤ 1099511627776) :
    Calls Try.prog 75 #[.pointer (some ⟨R, 0, none⟩), .int .i64 n] w (RsP R s (.string (ba (rdB n l x).1)) (rdB n l x).2.1 (rdB n l x).2.2 w) := by
  have k0 : Keeps [] w (w.alloc (.cells #[.int .i64 n] 3)) := (Keeps.refl _ _).alloc _
  have d := tbytes_any R s (w.alloc (.cells #[.int .i64 n] 3)) n w.heap.size l x (h.keeps k0 (by simp)) hs (by simp [go_sem])
  go_enter Try.func75, Try.ntmps75
  go_wp2_with (go_at_call 76; refine d.mono ?_; rintro e w1 ⟨rfl, hr, hk⟩)
  go_ret
  exact ⟨rfl, hr, (k0.mono (by simp)).and hk⟩
theorem rcount_any (l : Tx) (x : Bool) (h : Rs w R s l x) (hs : s.size ≤ 1099511627776) :
    Calls Try.prog 80 #[.pointer (some ⟨R, 0, none⟩)] w (RsP R s (.int .i64 ((rdC l x).1 : Nat)) (rdC l x).2.1 (rdC l x).2.2 w) := by
  have d := r2_any R s w l x h hs
  unfold rdC
  obtain ⟨n, l1, x1, e1⟩ := trip (rd2 l x)
  rw [e1] at d ⊢
  simp only
  clear e1
  have key : ∀ b : Bool, b = decide (0 ≤ n ∧ n ≤ 100) → Calls Try.prog 80 #[.pointer (some ⟨R, 0, none⟩)] w (RsP R s (.int .i64 (((if (x1 || !b) = true then 0 else n.toNat) : Nat) : Int)) l1 (x1 || !b) w) := by
    intro b hb
    by_cases h0 : 0 ≤ n
    · by_cases h1 : n ≤ 100
      · have e : b = true := by rw [hb]; exact decide_eq_true ⟨h0, h1⟩
        subst e
        clear hb
        have a0 : decide (0 ≤ n) = true := decide_eq_true h0
        have a1 : decide (n ≤ 100) = true := decide_eq_true h1
        have hn : ((n.toNat : Nat) : Int) = n := Int.toNat_of_nonneg h0
        cases x1
        all_goals
          go_enter Try.func80, Try.ntmps80
          go_wp2_with fail
          refine d.mono ?_; rintro e w1 ⟨rfl, hr1, hk1⟩
          go_wp2_with fail
          refine (need_any R s _ _ _ true hr1).mono ?_; rintro e w2 ⟨rfl, hr2, hk2⟩
          have c2 := hr2.cell2
          go_wp2
          go_ret
          exact ⟨by first | rfl | simp [hn], hr2, hk1.and hk2⟩
      · have e : b = false := by rw [hb]; exact decide_eq_false (fun h => h1 h.2)
        subst e
        clear hb
        have a0 : decide (0 ≤ n) = true := decide_eq_true h0
        have a1 : decide (n ≤ 100) = false := decide_eq_false h1
        have ex : (x1 || !false) = true := by cases x1 <;> rfl
        have nd := fun w h => need_any R s w l1 x1 false h
        rw [ex] at nd ⊢
        clear ex
        go_enter Try.func80, Try.ntmps80
        go_wp2_with fail
        refine d.mono ?_; rintro e w1 ⟨rfl, hr1, hk1⟩
        go_wp2_with fail
        refine (nd _ hr1).mono ?_; rintro e w2 ⟨rfl, hr2, hk2⟩
        have c2 := hr2.cell2
        go_wp2
        go_ret
        exact ⟨rfl, hr2, hk1.and hk2⟩
    · have e : b = false := by rw [hb]; exact decide_eq_false (fun h => h0 h.1)
      subst e
      clear hb
      have a0 : decide (0 ≤ n) = false := decide_eq_false h0
      have ex : (x1 || !false) = true := by cases x1 <;> rfl
      have nd := fun w h => need_any R s w l1 x1 false h
      rw [ex] at nd ⊢
      clear ex
      go_enter Try.func80, Try.ntmps80
      go_wp2_with fail
      refine d.mono ?_; rintro e w1 ⟨rfl, hr1, hk1⟩
      go_wp2_with fail
      refine (nd _ hr1).mono ?_; rintro e w2 ⟨rfl, hr2, hk2⟩
      have c2 := hr2.cell2
      go_wp2
      go_ret
      exact ⟨rfl, hr2, hk1.and hk2⟩
  exact key _ rfl
end
end Go.Proofs.Ytnjifbgjglniaaa.BK
