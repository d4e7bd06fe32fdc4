/- What the functions of package back's reader do that read a whole body: login, secret, status, done, setting, nothing. Condition: the body is of at most 2^40 bytes. -/
import Derived.Test.YtnjifbgjglniaaaBke
namespace Go.Proofs.Ytnjifbgjglniaaa.BK
open Go.Proofs.Ytnjifbgjglniaaa
open Go.ChangeShapes Go.WideShapes Go.ChangeAt Go.RowKit
set_option linter.unusedVariables false
set_option maxRecDepth 100000
attribute [local go_sem ↓] Go.wp_at_zero Go.wp_at_succ

section
variable (R A : Nat) (s : ByteArray) (w0 : World) (a : Tell) (l : Tx) (x : Bool) (kv vv nv : Value) (w : World)

theorem rnothing_any (h : AI R A s w0 a l x kv vv nv w) :
    Calls Try.prog 53 #[.pointer (some ⟨R, 0, none⟩), .pointer (some ⟨A, 0, none⟩)] w (AiP R A s w0 (readD .nothing a l x)) := by
  go_enter Try.func53, Try.ntmps53
  go_wp2
  go_end0
  exact ⟨rfl, _, _, _, h⟩
theorem rdone_any (h : AI R A s w0 a l x kv vv nv w) (hs : s.size ≤ 1099511627776) :
    Calls Try.prog 43 #[.pointer (some ⟨R, 0, none⟩), .pointer (some ⟨A, 0, none⟩)] w (AiP R A s w0 (readD .done a l x)) := by
  go_enter Try.func43, Try.ntmps43
  go_wp2_with fail
  refine (rtext_any R s w l x h.rd hs).mono ?_; rintro e w1 ⟨rfl, hr1, hk1⟩
  have h1 := h.read hr1 hk1
  have c3 : w1.cell? ⟨A, 2, none⟩ = some (.string (ba a.text)) := h1.cell 2
  have f3 := h1.frozen 2
  go_wp2
  go_end0
  exact ⟨rfl, _, _, _, h1.fld 2 _ { a with text := (rdT l x).1 } rfl rfl⟩
theorem rsecret_any (h : AI R A s w0 a l x kv vv nv w) (hs : s.size ≤ 1099511627776) :
    Calls Try.prog 39 #[.pointer (some ⟨R, 0, none⟩), .pointer (some ⟨A, 0, none⟩)] w (AiP R A s w0 (readD .secret a l x)) := by
  unfold readD
  obtain ⟨n, l1, x1, e1⟩ := trip (rd4 l x)
  have d1 := fun w h => r4_any R s w l x h hs
  rw [e1] at d1
  simp only [e1] at d1 ⊢
  obtain ⟨m, l2, x2, e2⟩ := trip (rd4 l1 x1)
  have d2 := fun w h => r4_any R s w l1 x1 h hs
  rw [e2] at d2
  simp only [e2] at d2 ⊢
  clear e1 e2
  go_enter Try.func39, Try.ntmps39
  go_wp2_with fail
  refine (d1 _ h.rd).mono ?_; rintro e w1 ⟨rfl, hr1, hk1⟩
  have h1 := h.read hr1 hk1
  have c3 : w1.cell? ⟨A, 6, none⟩ = some (.int .i64 a.n) := h1.cell 6
  have f3 := h1.frozen 6
  have h2 := h1.fld 6 (.int .i64 n) { a with n := n } rfl rfl
  clear hr1 hk1 h
  go_wp2_with fail
  refine (d2 _ h2.rd).mono ?_; rintro e w2 ⟨rfl, hr2, hk2⟩
  have h3 := h2.read hr2 hk2
  have c4 : w2.cell? ⟨A, 7, none⟩ = some (.int .i64 a.m) := h3.cell 7
  have f4 := h3.frozen 7
  clear hr2 hk2 h1 h2 c3 f3
  go_wp2
  go_end0
  exact ⟨rfl, _, _, _, h3.fld 7 _ { a with n := n, m := m } rfl rfl⟩
theorem rlogin_any (h : AI R A s w0 a l x kv vv nv w) (hs : s.size ≤ 1099511627776) :
    Calls Try.prog 37 #[.pointer (some ⟨R, 0, none⟩), .pointer (some ⟨A, 0, none⟩)] w (AiP R A s w0 (readD .login a l x)) := by
  unfold readD
  obtain ⟨n, l1, x1, e1⟩ := trip (rd4 l x)
  have d1 := fun w h => r4_any R s w l x h hs
  rw [e1] at d1
  simp only [e1] at d1 ⊢
  clear e1
  have hzz : ∃ b, b = decide (n = 0 ∨ n = 3) ∧ ((n == 0) = true ∧ b = true ∨ (n == 0) = false ∧ (n == 3) = b) := by
    refine ⟨_, rfl, ?_⟩
    by_cases h0 : n = 0
    · exact .inl ⟨by simpa using h0, decide_eq_true (.inl h0)⟩
    · refine .inr ⟨by simpa using h0, ?_⟩
      rw [Bool.eq_iff_iff]; simp [h0]
  obtain ⟨b, hb, hc⟩ := hzz
  rw [← hb]
  clear hb
  rcases hc with ⟨g0, rfl⟩ | ⟨g0, g1⟩
  all_goals
    go_enter Try.func37, Try.ntmps37
    go_wp2_with fail
    refine (d1 _ h.rd).mono ?_; rintro e w1 ⟨rfl, hr1, hk1⟩
    have h1 := h.read hr1 hk1
    have c3 : w1.cell? ⟨A, 6, none⟩ = some (.int .i64 a.n) := h1.cell 6
    have f3 := h1.frozen 6
    have h2 := h1.fld 6 (.int .i64 n) { a with n := n } rfl rfl
    clear hr1 hk1 h
    go_wp2_with fail
    refine (need_any R s _ _ _ _ h2.rd).mono ?_; rintro e w2 ⟨rfl, hr2, hk2⟩
    have h3 := h2.read hr2 hk2
    go_wp2
    go_end0
    exact ⟨rfl, _, _, _, h3⟩
theorem rsetting_any (h : AI R A s w0 a l x kv vv nv w) (hs : s.size ≤ 1099511627776) :
    Calls Try.prog 45 #[.pointer (some ⟨R, 0, none⟩), .pointer (some ⟨A, 0, none⟩)] w (AiP R A s w0 (readD .setting a l x)) := by
  unfold readD
  obtain ⟨t, l1, x1, e1⟩ := trip (rdT l x)
  have d1 := fun w h => rtext_any R s w l x h hs
  rw [e1] at d1
  simp only [e1] at d1 ⊢
  obtain ⟨u, l2, x2, e2⟩ := trip (rdT l1 x1)
  have d2 := fun w h => rtext_any R s w l1 x1 h hs
  rw [e2] at d2
  simp only [e2] at d2 ⊢
  clear e1 e2
  go_enter Try.func45, Try.ntmps45
  go_wp2_with fail
  refine (d1 _ h.rd).mono ?_; rintro e w1 ⟨rfl, hr1, hk1⟩
  have h1 := h.read hr1 hk1
  have c3 : w1.cell? ⟨A, 2, none⟩ = some (.string (ba a.text)) := h1.cell 2
  have f3 := h1.frozen 2
  have h2 := h1.fld 2 (.string (ba t)) { a with text := t } rfl rfl
  clear hr1 hk1 h
  go_wp2_with fail
  refine (d2 _ h2.rd).mono ?_; rintro e w2 ⟨rfl, hr2, hk2⟩
  have h3 := h2.read hr2 hk2
  have h4 := h3.alloc (.cells #[.string (ba u)] 9)
  have c4 : (w2.alloc (.cells #[.string (ba u)] 9)).cell? ⟨A, 4, none⟩ = some vv := h4.cell 4
  have f4 := h4.frozen 4
  have hlA : A < w2.heap.size := h3.blk.lt
  clear hr2 hk2 h1 h2 c3 f3
  go_wp2
  go_end0
  have hfin := h3.lay1 u
  rw [World.setCell_alloc_past _ _ _ _ hlA] at hfin
  exact ⟨rfl, _, _, _, hfin⟩
theorem rstatus_any (h : AI R A s w0 a l x kv vv nv w) (hs : s.size ≤ 1099511627776) :
    Calls Try.prog 41 #[.pointer (some ⟨R, 0, none⟩), .pointer (some ⟨A, 0, none⟩)] w (AiP R A s w0 (readD .status a l x)) := by
  unfold readD
  obtain ⟨b, l1, x1, e1⟩ := trip (rdB 1 l x)
  have d1 := fun w h => rbytes_any R s w 1 l x h hs
  rw [e1] at d1
  simp only [e1] at d1 ⊢
  clear e1
  by_cases hb : b = [73] ∨ b = [84] ∨ b = [69]
  · rw [if_pos hb]
    rcases hb with rfl | rfl | rfl
    all_goals
      first
        | (rw [show ba [73] = ⟨#[73]⟩ from rfl] at d1)
        | (rw [show ba [84] = ⟨#[84]⟩ from rfl] at d1)
        | (rw [show ba [69] = ⟨#[69]⟩ from rfl] at d1)
      go_enter Try.func41, Try.ntmps41
      go_wp2_with fail
      refine (d1 _ h.rd).mono ?_; rintro e w1 ⟨rfl, hr1, hk1⟩
      have h1 := h.read hr1 hk1
      have c3 : w1.cell? ⟨A, 1, none⟩ = some (u8 a.status) := h1.cell 1
      have f3 := h1.frozen 1
      unfold u8 at c3
      clear hr1 hk1 h
      go_wp2
      go_end0
      first
        | exact ⟨rfl, _, _, _, h1.fld 1 _ { a with status := 73 } rfl rfl⟩
        | exact ⟨rfl, _, _, _, h1.fld 1 _ { a with status := 84 } rfl rfl⟩
        | exact ⟨rfl, _, _, _, h1.fld 1 _ { a with status := 69 } rfl rfl⟩
  · rw [if_neg hb]
    have n1 : ((ba b).toList == [73]) = false := by rw [beq_eq_false_iff_ne, Lib.toList_data, ba_list]; exact fun e => hb (.inl e)
    have n2 : ((ba b).toList == [84]) = false := by rw [beq_eq_false_iff_ne, Lib.toList_data, ba_list]; exact fun e => hb (.inr (.inl e))
    have n3 : ((ba b).toList == [69]) = false := by rw [beq_eq_false_iff_ne, Lib.toList_data, ba_list]; exact fun e => hb (.inr (.inr e))
    clear hb
    go_enter Try.func41, Try.ntmps41
    go_wp2_with fail
    refine (d1 _ h.rd).mono ?_; rintro e w1 ⟨rfl, hr1, hk1⟩
    have h1 := h.read hr1 hk1
    have c2 := h1.rd.cell2
    have f2 : w1.frozen? ⟨R, 2, none⟩ = false := by obtain ⟨_, _, _, h3⟩ := h1.rd; exact h3.frozen 2
    obtain ⟨_, g1, g2⟩ := h1.rd.bad
    have h2 := h1.read g1 g2
    clear hr1 hk1 h g1 g2 h1
    go_wp2
    go_end0
    exact ⟨rfl, _, _, _, h2⟩
end
end Go.Proofs.Ytnjifbgjglniaaa.BK
