/- A board in a law: what each call leaves; two lists of numbers compared. Conditions: as each. -/
import Derived.Test.YtldpamlmnganmaaFlp
namespace Go.Proofs.Ytldpamlmnganmaa.FL
open Go.ChangeShapes Go.WideShapes Go.ChangeAt Go.RowKit Go.Maps Go.ChangeMaps
open Go.Proofs.Ytldpamlmnganmaa.SL
set_option maxRecDepth 100000
set_option linter.unusedVariables false
set_option linter.unusedSimpArgs false

/-- all cells but those of flights are as they were -/
def Kf (w w' : World) : Prop := ∀ (b : Nat) (cs : Array Value) (t : TypeId) (fr : Nat × Nat), t ≠ 80 → w.heap[b]? = some (.cells cs t fr) → w'.heap[b]? = w.heap[b]?
theorem Kf.refl (w : World) : Kf w w := fun _ _ _ _ _ _ => rfl
theorem Kf.trans {a b c : World} (h : Kf a b) (k : Kf b c) : Kf a c := fun i cs t fr ht hb => (k i cs t fr ht ((h i cs t fr ht hb).trans hb)).trans (h i cs t fr ht hb)
theorem Kf.below {w w' : World} (h : Below w.heap.size w w') : Kf w w' := fun b cs t fr _ hb => h.block b (Array.getElem?_eq_some_iff.1 hb).1
theorem Kf.bk {w w' : World} {g : Nat} {t : TypeId} {cs : Array Value} (h : Kf w w') (hb : Bk w g t cs) (ht : t ≠ 80 := by decide) : Bk w' g t cs := (h g cs t (0, 0) ht hb).trans hb
theorem Kf.ki {w w' : World} (h : Kf w w') : Ki w w' := fun b cs fr hb => h b cs _ fr (by decide) hb
/-- a board of the law's own -/
def LB (B : Nat) (w : World) (a N : Nat) (S : List Fl) : Prop := ∃ C, CB w a N C S ∧ ∀ b, b = a ∨ C.own b → B ≤ b
structure LS (B a N : Nat) (S : List Fl) (w w' : World) : Prop where
  lb : LB B w' a N S
  bel : Below B w w'
  kf : Kf w w'
section
variable {B a N : Nat} {S : List Fl} {w w' : World}
theorem LB.below (h : LB B w a N S) (hb : Below w.heap.size w w') : LB B w' a N S := by
  obtain ⟨C, h1, h2⟩ := h
  exact ⟨C, h1.below hb, h2⟩
theorem LB.mono (h : LB B w a N S) {M : Nat} (hm : N ≤ M) : LB B w a M S := by
  obtain ⟨C, h1, h2⟩ := h
  exact ⟨C, h1.mono hm, h2⟩
theorem LB.le (h : LB B w a N S) : B ≤ w.heap.size := by
  obtain ⟨C, h1, h2⟩ := h
  exact Nat.le_of_lt (Nat.lt_of_le_of_lt (h2 a (.inl rfl)) h1.bk.lt)
theorem LB.wf (h : LB B w a N S) : WF S := by
  obtain ⟨C, h1, h2⟩ := h
  exact h1.wf
theorem CB.kf {C : Bs} (h : CB w a N C S) (hc : Chg C.own w w') : Kf w w' := fun b cs t fr ht hb => hc.block b (Array.getElem?_eq_some_iff.1 hb).1 fun ho => ht (h.typed ho hb)
theorem CB.ls {C : Bs} {M : Nat} {S' : List Fl} (h : CB w a N C S) (h2 : ∀ b, b = a ∨ C.own b → B ≤ b) (hs : StP w a M C S' w') : LS B a M S' w w' := by
  obtain ⟨C', h3, h4, h5⟩ := hs
  have hB : B ≤ w.heap.size := Nat.le_of_lt (Nat.lt_of_le_of_lt (h2 a (.inl rfl)) h.bk.lt)
  refine ⟨⟨C', h3, fun b hb => ?_⟩, h4.below hB fun b hb ho => ?_, h.kf h4⟩
  · rcases hb with hb | hb
    · exact h2 b (.inl hb)
    · rcases h5 b hb with hb | hb
      · exact h2 b (.inr hb)
      · omega
  · have := h2 b (.inr ho)
    omega
theorem LS.pre {w1 : World} (h : LS B a N S w1 w') (hb : Below w.heap.size w w1) (hB : B ≤ w.heap.size) : LS B a N S w w' := ⟨h.lb, (hb.mono hB).trans h.bel, (Kf.below hb).trans h.kf⟩
theorem lb_new (w : World) : Calls Try.prog 8 #[] w fun e w' => ∃ a, e = .returned (ptr a) ∧ LB w.heap.size w' a 0 [] ∧ Below w.heap.size w w' := by
  refine (new_any w).mono ?_
  rintro e w' ⟨a, C, rfl, h1, h2, h3⟩
  exact ⟨a, rfl, ⟨C, h1, h2⟩, h3⟩
theorem lb_ask (h : LB B w a N S) (hN : N ≤ 1000000) (k : Ky) (hk : FitK k) (c : Int) (hc : I9 c) :
    Calls Try.prog 10 #[ptr a, kyV k, .int .i64 c] w fun e w' => e = .returned (.tuple #[.bool (askS S k c).2.1, .int .i64 (askS S k c).2.2]) ∧ LS B a (N + 1) (askS S k c).1 w w' := by
  obtain ⟨C, h1, h2⟩ := h
  refine (ask_any h1 hN k hk c hc).mono ?_
  rintro e w' ⟨rfl, h3⟩
  exact ⟨rfl, h1.ls h2 h3⟩
theorem lb_land (h : LB B w a N S) (hN : N ≤ 1000000) (k : Ky) (hk : FitK k) :
    Calls Try.prog 13 #[ptr a, kyV k] w fun e w' => ∃ v, e = .returned (.tuple #[.int .i64 (landS S k).2.1, v, .bool (landS S k).2.2.2]) ∧ IS w' v (landS S k).2.2.1 ∧ LS B a N (landS S k).1 w w' := by
  obtain ⟨C, h1, h2⟩ := h
  refine (land_any h1 hN k hk).mono ?_
  rintro e w' ⟨v, rfl, h3, h4⟩
  exact ⟨v, rfl, h3.is, h1.ls h2 h4⟩
theorem lb_leave (h : LB B w a N S) (hN : N ≤ 1000000) (c : Int) (hc : I9 c) :
    Calls Try.prog 16 #[ptr a, .int .i64 c] w fun e w' => ∃ v, e = .returned (.tuple #[v, .bool (leaveS S c).2.2]) ∧ IS w' v (leaveS S c).2.1 ∧ LS B a N (leaveS S c).1 w w' := by
  obtain ⟨C, h1, h2⟩ := h
  refine (leave_any h1 hN c hc).mono ?_
  rintro e w' ⟨v, rfl, h3, h4⟩
  exact ⟨v, rfl, h3.is, h1.ls h2 h4⟩
theorem lb_lead (h : LB B w a N S) (k : Ky) (hk : FitK k) :
    Calls Try.prog 19 #[ptr a, kyV k] w (RdP (.tuple #[.int .i64 (leadS S k).1, .bool (leadS S k).2]) w) := by
  obtain ⟨C, h1, h2⟩ := h
  exact lead_any h1 k hk
theorem lb_waits (h : LB B w a N S) (c : Int) (hc : I9 c) :
    Calls Try.prog 21 #[ptr a, .int .i64 c] w (RdP (.tuple #[kyV (waitS S c).1, .bool (waitS S c).2]) w) := by
  obtain ⟨C, h1, h2⟩ := h
  exact waits_any h1 c hc
theorem lb_open (h : LB B w a N S) :
    Calls Try.prog 23 #[ptr a] w fun e w' => e = .returned (.int .i64 (S.length : Int)) ∧ w = w' := by
  obtain ⟨C, h1, h2⟩ := h
  exact nopen_any h1
end
set_option maxHeartbeats 4000000 in
theorem ints_any (w : World) (v u : Value) (d e : List Int) (hv : IS w v d) (hu : IS w u e) (hd : d.length ≤ 1000000) :
    Calls Try.prog 15 #[v, u] w (RdP (.bool (decide (d = e))) w) := by
  have HV := Lib.hid hv
  have HU := Lib.hid hu
  have HD := Lib.hid hd
  obtain ⟨n, hn⟩ : ∃ n, d.length = n := ⟨_, rfl⟩
  obtain ⟨m, hm⟩ : ∃ n, e.length = n := ⟨_, rfl⟩
  obtain ⟨va, vc, rfl⟩ := hv.form
  obtain ⟨ua, uc, rfl⟩ := hu.form
  rw [hn] at HV hd ⊢
  rw [hm] at HU ⊢
  have HN := Lib.hid hn
  have HM := Lib.hid hm
  by_cases hl : n = m
  · subst hl
    have HD2 := Lib.hid hd
    clear hv hu hd hn hm HD
    go_enter Try.func15, Try.ntmps15
    go_wp2
    go_loopg [5] n (fun gk u5 wx => ∃ j : Nat, u5 = .int .i64 (j : Int) ∧ j + gk = n ∧ d.take j = e.take j ∧ Below w.heap.size w wx)
    case atStart => exact ⟨0, rfl, by omega, by simp, Below.refl _ _⟩
    case round =>
      obtain ⟨j, rfl, hj, heq, hb⟩ := hrel
      have HB := Lib.hid hb
      cases gk with
      | zero =>
        have l1 : ¬ ((j : Int) < (n : Int)) := by omega
        have hde : d = e := by
          rw [List.take_of_length_le (by rw [HN.out]; omega), List.take_of_length_le (by rw [HM.out]; omega)] at heq
          exact heq
        have HFIN : Hid (RdP (.bool (decide (d = e))) w (.returned (.bool true)) wr) := Lib.hid ⟨by rw [decide_eq_true hde], hb⟩
        clear heq hde hj hb
        go_wp2
        go_ret
        exact HFIN.out
      | succ gk1 =>
        have hdl : j < d.length := by rw [HN.out]; omega
        have hel : j < e.length := by rw [HM.out]; omega
        obtain ⟨b, off, cp, h1, _, hx⟩ := (HV.out.below hb).at_ (by omega)
        rw [HN.out] at h1
        injection h1 with e1 _ e2
        subst e1 e2
        obtain ⟨b', off', cp', h1', _, hx'⟩ := (HU.out.below hb).at_ (by omega)
        rw [HM.out] at h1'
        injection h1' with e1 _ e2
        subst e1 e2
        obtain ⟨x, hx9⟩ : ∃ c, d[j] = c := ⟨_, rfl⟩
        obtain ⟨y, hy9⟩ : ∃ c, e[j] = c := ⟨_, rfl⟩
        have hdj : d[j]? = some x := by rw [List.getElem?_eq_getElem hdl, hx9]
        have hej : e[j]? = some y := by rw [List.getElem?_eq_getElem hel, hy9]
        have x0 := hx j x hdj
        have y0 := hx' j y hej
        have l0 : (0 : Int) ≤ (j : Int) := by omega
        have l1 : (j : Int) < (n : Int) := by omega
        obtain ⟨j1, hj1⟩ : ∃ j1, j + 1 = j1 := ⟨_, rfl⟩
        have wk : IntKind.i64.wrap ((j : Int) + 1) = (j1 : Int) := by rw [show (j : Int) + 1 = (j1 : Int) by omega]; exact IntWalk.i64_in _ (by have := HD2.out; omega)
        have HJ : Hid (j1 + gk1 = n) := Lib.hid (by omega)
        by_cases hxy : x = y
        · have HEQ : Hid (d.take j1 = e.take j1) := Lib.hid (by rw [← hj1, List.take_add_one, List.take_add_one, heq, hdj, hej, hxy])
          subst hxy
          clear heq hj hb hdl hel hx hx' hx9 hy9 hdj hej hj1
          go_wp2_with fail
          go_quiet (fail)
          go_wp2
          have HB9 := Lib.hid (HB.out.trans ((below_drewN wr.heap.size wr nq).mono HB.out.size))
          go_roundg gk1
          case measure => exact Nat.lt_succ_self _
          case rel => exact ⟨j1, rfl, HJ.out, HEQ.out, HB9.out⟩
        · have hne : d ≠ e := fun h => hxy (by rw [h, hej] at hdj; injection hdj with hdj; exact hdj.symm)
          have HNE : Hid (∀ w', Below wr.heap.size wr w' → RdP (.bool (decide (d = e))) w (.returned (.bool false)) w') := Lib.hid (fun w' hb9 => ⟨by rw [decide_eq_false hne], hb.trans (hb9.mono hb.size)⟩)
          clear heq hj hb hdl hel hx hx' hx9 hy9 hdj hej hj1 hne
          go_wp2_with fail
          go_quiet (fail)
          go_wp2
          go_ret
          exact HNE.out _ (below_drewN _ _ _)
  · have hne : d ≠ e := fun h => hl (by rw [← hn, ← hm, h])
    rw [decide_eq_false hne]
    have hl2 : ¬ ((n : Int) = (m : Int)) := by omega
    clear hv hu hd hn hm hne hl HD
    go_enter Try.func15, Try.ntmps15
    go_wp2
    go_ret
    exact ⟨rfl, Below.refl _ _⟩
end Go.Proofs.Ytldpamlmnganmaa.FL
