/- When package back's same calls two tells the same: just if they are. Condition: the lists are of at most 2^40 elements. -/
import Derived.Test.YtnjifbgjglniaaaBkc
namespace Go.Proofs.Ytnjifbgjglniaaa
open Go.ChangeShapes Go.WideShapes Go.ChangeAt Go.RowKit
set_option linter.unusedVariables false
set_option maxRecDepth 100000

theorem take_eq {α : Type} {xs ys : List α} {k : Nat} (h1 : k < xs.length) (h2 : k < ys.length) (ht : xs.take k = ys.take k) (he : xs[k] = ys[k]) : xs.take (k + 1) = ys.take (k + 1) := by
  rw [List.take_succ_eq_append_getElem h1, List.take_succ_eq_append_getElem h2, ht, he]
theorem drewN_two (w : World) (n m : Nat) : (w.drewN n).drewN m = w.drewN (n + m) := by unfold World.drewN; simp [Nat.add_assoc]
theorem ne_of_get {α : Type} {xs ys : List α} {k : Nat} (h1 : k < xs.length) (h2 : k < ys.length) (he : ¬ xs[k] = ys[k]) : xs ≠ ys := by
  intro e; subst e; exact he rfl

set_option maxHeartbeats 400000 in
theorem eqS_any {P P' : Nat → Prop} (w : World) (v1 v2 : Value) (xs ys : List Tx) (h1 : LR P w v1 (strs xs)) (h2 : LR P' w v2 (strs ys)) (hl1 : xs.length ≤ 1099511627776) (hl2 : ys.length ≤ 1099511627776) :
    Calls Try.prog 65 #[v1, v2] w fun e w' => e = .returned (.bool (decide (xs = ys))) ∧ ∃ n, w' = w.drewN n := by
  obtain ⟨A1, c1, e1, hc1, hm1⟩ := h1.form
  obtain ⟨A2, c2, e2, hc2, hm2⟩ := h2.form
  rw [strs_len] at e1 e2 hc1 hc2
  subst e1 e2
  by_cases hlen : xs.length = ys.length
  · have H1 := Lib.hid h1
    have H2 := Lib.hid h2
    have HL := Lib.hid hlen
    have hbb : ((xs.length : Int) != (ys.length : Int)) = false := by simp; omega
    clear h1 h2 hlen
    go_enter Try.func65, Try.ntmps65
    go_wp2
    go_loopw [13] (fun i wr => ∃ k n : Nat, k ≤ xs.length ∧ i = .int .i64 k ∧ wr = w.drewN n ∧ xs.take k = ys.take k) (fun i _ => xs.length - (intOf i).toNat)
    case atStart => exact ⟨0, 0, Nat.zero_le _, rfl, rfl, rfl⟩
    case round =>
      obtain ⟨k, n, hk, rfl, rfl, ht⟩ := hrel
      have HT := Lib.hid ht
      clear ht
      by_cases hlt : k < xs.length
      · have hlt2 : k < ys.length := by rw [← HL.out]; exact hlt
        obtain ⟨p1, o1, rfl, hp1, hg1⟩ := H1.out.addr (ne_strs hlt)
        obtain ⟨p2, o2, rfl, hp2, hg2⟩ := H2.out.addr (ne_strs hlt2)
        have x1 := hg1 k _ (strs_get xs k hlt)
        have x2 := hg2 k _ (strs_get ys k hlt2)
        clear hg1 hg2
        have i0 : (0 : Int) ≤ (k : Int) := by omega
        have i1 : (k : Int) < (xs.length : Int) := by omega
        have i2 : (k : Int) < (ys.length : Int) := by omega
        by_cases he : xs[k] = ys[k]
        · have HR := Lib.hid (take_eq hlt hlt2 HT.out he)
          rw [← he] at x2
          clear he
          generalize xs[k] = t at *
          go_wp2
          go_quiet (fail)
          go_wp2
          go_roundw
          case rel => exact ⟨k + 1, _, by omega, by go_num, rfl, HR.out⟩
          case measure => simp [intOf]; omega
        · have HR := Lib.hid (ne_of_get hlt hlt2 he)
          generalize hx : xs[k] = t at *
          generalize hy : ys[k] = u at *
          clear hx hy
          have hn : ((ba t).toList == (ba u).toList) = false := by rw [beq_eq_false_iff_ne, Lib.toList_data, Lib.toList_data, ba_list, ba_list]; exact he
          clear he
          go_wp2
          go_quiet (fail)
          go_wp2
          go_ret
          exact ⟨by rw [decide_eq_false HR.out]; rfl, n + nq, by rw [drewN_two]⟩
      · have e : xs = ys := by
          have h := HT.out
          have hl := HL.out
          rwa [List.take_of_length_le (by omega), List.take_of_length_le (by omega)] at h
        have HE := Lib.hid e
        clear e
        go_wp2
        go_ret
        exact ⟨by rw [decide_eq_true HE.out]; rfl, n, rfl⟩
  · have hbb : ((xs.length : Int) != (ys.length : Int)) = true := by simp; omega
    have e : xs ≠ ys := fun e => hlen (by rw [e])
    have HE := Lib.hid e
    clear e h1 h2
    go_enter Try.func65, Try.ntmps65
    go_wp2
    go_ret
    exact ⟨by rw [decide_eq_false HE.out]; rfl, 0, rfl⟩

set_option maxHeartbeats 400000 in
theorem eqB_any {P P' : Nat → Prop} (w : World) (v1 v2 : Value) (xs ys : List Bool) (h1 : LR P w v1 (bools xs)) (h2 : LR P' w v2 (bools ys)) (hl1 : xs.length ≤ 1099511627776) (hl2 : ys.length ≤ 1099511627776) :
    Calls Try.prog 66 #[v1, v2] w fun e w' => e = .returned (.bool (decide (xs = ys))) ∧ ∃ n, w' = w.drewN n := by
  obtain ⟨A1, c1, e1, hc1, hm1⟩ := h1.form
  obtain ⟨A2, c2, e2, hc2, hm2⟩ := h2.form
  rw [bools_len] at e1 e2 hc1 hc2
  subst e1 e2
  by_cases hlen : xs.length = ys.length
  · have H1 := Lib.hid h1
    have H2 := Lib.hid h2
    have HL := Lib.hid hlen
    have hbb : ((xs.length : Int) != (ys.length : Int)) = false := by simp; omega
    clear h1 h2 hlen
    go_enter Try.func66, Try.ntmps66
    go_wp2
    go_loopw [13] (fun i wr => ∃ k n : Nat, k ≤ xs.length ∧ i = .int .i64 k ∧ wr = w.drewN n ∧ xs.take k = ys.take k) (fun i _ => xs.length - (intOf i).toNat)
    case atStart => exact ⟨0, 0, Nat.zero_le _, rfl, rfl, rfl⟩
    case round =>
      obtain ⟨k, n, hk, rfl, rfl, ht⟩ := hrel
      have HT := Lib.hid ht
      clear ht
      by_cases hlt : k < xs.length
      · have hlt2 : k < ys.length := by rw [← HL.out]; exact hlt
        obtain ⟨p1, o1, rfl, hp1, hg1⟩ := H1.out.addr (ne_bools hlt)
        obtain ⟨p2, o2, rfl, hp2, hg2⟩ := H2.out.addr (ne_bools hlt2)
        have x1 := hg1 k _ (bools_get xs k hlt)
        have x2 := hg2 k _ (bools_get ys k hlt2)
        clear hg1 hg2
        have i0 : (0 : Int) ≤ (k : Int) := by omega
        have i1 : (k : Int) < (xs.length : Int) := by omega
        have i2 : (k : Int) < (ys.length : Int) := by omega
        by_cases he : xs[k] = ys[k]
        · have HR := Lib.hid (take_eq hlt hlt2 HT.out he)
          rw [← he] at x2
          clear he
          generalize xs[k] = t at *
          go_wp2
          go_quiet (fail)
          go_wp2
          go_roundw
          case rel => exact ⟨k + 1, _, by omega, by go_num, rfl, HR.out⟩
          case measure => simp [intOf]; omega
        · have HR := Lib.hid (ne_of_get hlt hlt2 he)
          generalize hx : xs[k] = t at *
          generalize hy : ys[k] = u at *
          clear hx hy
          cases t <;> cases u
          case false.false => exact absurd rfl he
          case true.true => exact absurd rfl he
          all_goals
            clear he
            go_wp2
            go_quiet (fail)
            go_wp2
            go_ret
            exact ⟨by rw [decide_eq_false HR.out]; rfl, n + nq, by rw [drewN_two]⟩
      · have e : xs = ys := by
          have h := HT.out
          have hl := HL.out
          rwa [List.take_of_length_le (by omega), List.take_of_length_le (by omega)] at h
        have HE := Lib.hid e
        clear e
        go_wp2
        go_ret
        exact ⟨by rw [decide_eq_true HE.out]; rfl, n, rfl⟩
  · have hbb : ((xs.length : Int) != (ys.length : Int)) = true := by simp; omega
    have e : xs ≠ ys := fun e => hlen (by rw [e])
    have HE := Lib.hid e
    clear e h1 h2
    go_enter Try.func66, Try.ntmps66
    go_wp2
    go_ret
    exact ⟨by rw [decide_eq_false HE.out]; rfl, 0, rfl⟩

set_option maxHeartbeats 400000 in
theorem texts_any {P P' : Nat → Prop} (w : World) (v1 v2 : Value) (xs ys : List Tx) (h1 : LR P w v1 (strs xs)) (h2 : LR P' w v2 (strs ys)) (hl1 : xs.length ≤ 1099511627776) (hl2 : ys.length ≤ 1099511627776) :
    Calls Try.prog 24 #[v1, v2] w fun e w' => e = .returned (.bool (decide (xs = ys))) ∧ ∃ n, w' = w.drewN n := by
  obtain ⟨A1, c1, e1, hc1, hm1⟩ := h1.form
  obtain ⟨A2, c2, e2, hc2, hm2⟩ := h2.form
  rw [strs_len] at e1 e2 hc1 hc2
  subst e1 e2
  by_cases hlen : xs.length = ys.length
  · have H1 := Lib.hid h1
    have H2 := Lib.hid h2
    have HL := Lib.hid hlen
    have hbb : ((xs.length : Int) != (ys.length : Int)) = false := by simp; omega
    clear h1 h2 hlen
    go_enter Try.func24, Try.ntmps24
    go_wp2
    go_loopw [5] (fun i wr => ∃ k n : Nat, k ≤ xs.length ∧ i = .int .i64 k ∧ wr = w.drewN n ∧ xs.take k = ys.take k) (fun i _ => xs.length - (intOf i).toNat)
    case atStart => exact ⟨0, 0, Nat.zero_le _, rfl, rfl, rfl⟩
    case round =>
      obtain ⟨k, n, hk, rfl, rfl, ht⟩ := hrel
      have HT := Lib.hid ht
      clear ht
      by_cases hlt : k < xs.length
      · have hlt2 : k < ys.length := by rw [← HL.out]; exact hlt
        obtain ⟨p1, o1, rfl, hp1, hg1⟩ := H1.out.addr (ne_strs hlt)
        obtain ⟨p2, o2, rfl, hp2, hg2⟩ := H2.out.addr (ne_strs hlt2)
        have x1 := hg1 k _ (strs_get xs k hlt)
        have x2 := hg2 k _ (strs_get ys k hlt2)
        clear hg1 hg2
        have i0 : (0 : Int) ≤ (k : Int) := by omega
        have i1 : (k : Int) < (xs.length : Int) := by omega
        have i2 : (k : Int) < (ys.length : Int) := by omega
        by_cases he : xs[k] = ys[k]
        · have HR := Lib.hid (take_eq hlt hlt2 HT.out he)
          rw [← he] at x2
          clear he
          generalize xs[k] = t at *
          go_wp2
          go_quiet (fail)
          go_wp2
          go_roundw
          case rel => exact ⟨k + 1, _, by omega, by go_num, rfl, HR.out⟩
          case measure => simp [intOf]; omega
        · have HR := Lib.hid (ne_of_get hlt hlt2 he)
          generalize hx : xs[k] = t at *
          generalize hy : ys[k] = u at *
          clear hx hy
          have hn : ((ba t).toList == (ba u).toList) = false := by rw [beq_eq_false_iff_ne, Lib.toList_data, Lib.toList_data, ba_list, ba_list]; exact he
          clear he
          go_wp2
          go_quiet (fail)
          go_wp2
          go_ret
          exact ⟨by rw [decide_eq_false HR.out]; rfl, n + nq, by rw [drewN_two]⟩
      · have e : xs = ys := by
          have h := HT.out
          have hl := HL.out
          rwa [List.take_of_length_le (by omega), List.take_of_length_le (by omega)] at h
        have HE := Lib.hid e
        clear e
        go_wp2
        go_ret
        exact ⟨by rw [decide_eq_true HE.out]; rfl, n, rfl⟩
  · have hbb : ((xs.length : Int) != (ys.length : Int)) = true := by simp; omega
    have e : xs ≠ ys := fun e => hlen (by rw [e])
    have HE := Lib.hid e
    clear e h1 h2
    go_enter Try.func24, Try.ntmps24
    go_wp2
    go_ret
    exact ⟨by rw [decide_eq_false HE.out]; rfl, 0, rfl⟩
end Go.Proofs.Ytnjifbgjglniaaa
namespace Go.Proofs.Ytnjifbgjglniaaa.BK
open Go.Proofs.Ytnjifbgjglniaaa
open Go.ChangeShapes Go.WideShapes Go.ChangeAt Go.RowKit
set_option linter.unusedVariables false
set_option linter.unusedSimpArgs false
set_option maxRecDepth 100000
attribute [local go_sem ↓] Go.wp_at_zero Go.wp_at_succ

/-- no list is too long -/
structure Lens (a : Tell) : Prop where
  keys : a.keys.length ≤ 1099511627776
  vals : a.vals.length ≤ 1099511627776
  null : a.null.length ≤ 1099511627776
theorem tell_ne {a b : Tell} (h : a ≠ b) : True := trivial
/-- two boxes -/
abbrev twoT (w : World) (a b : Tell) (kv vv nv kv2 vv2 nv2 : Value) : World := (w.alloc (.cells (tellV a kv vv nv) 28)).alloc (.cells (tellV b kv2 vv2 nv2) 28)
set_option maxHeartbeats 2000000 in
theorem same_any (w : World) (a b : Tell) (kv vv nv kv2 vv2 nv2 : Value) (ha : AR (fun i => i < w.heap.size) w (.agg (tellV a kv vv nv)) a) (hb : AR (fun i => i < w.heap.size) w (.agg (tellV b kv2 vv2 nv2)) b) (la : Lens a) (lb : Lens b) :
    Calls Try.prog 26 #[.agg (tellV a kv vv nv), .agg (tellV b kv2 vv2 nv2)] w fun e w' => e = .returned (.bool (decide (a = b))) ∧ Below w.heap.size w w' := by
  obtain ⟨kv', vv', nv', e, o1, o2, o3⟩ := ha.ex
  obtain ⟨rfl, rfl, rfl⟩ : kv = kv' ∧ vv = vv' ∧ nv = nv' := by simpa [tellV] using e
  obtain ⟨kv3, vv3, nv3, e2, p1, p2, p3⟩ := hb.ex
  obtain ⟨rfl, rfl, rfl⟩ : kv2 = kv3 ∧ vv2 = vv3 ∧ nv2 = nv3 := by simpa [tellV] using e2
  clear e e2 ha hb
  have hB0 : Below w.heap.size w (twoT w a b kv vv nv kv2 vv2 nv2) := ((Below.refl _ _).alloc (Nat.le_refl _) _).alloc (by simp) _
  have st : ∀ {v xs} (W : World), Below w.heap.size w W → LR (fun i => i < w.heap.size) w v xs → LR (fun i => i < w.heap.size) W v xs := fun W hB h => h.step (fun i hi => hB.block i hi) (fun i hi => hi)
  have hB1 := fun n => below_drewN hB0 n
  have hB2 := fun n m => below_drewN (hB1 n) m
  have hB3 := fun n m k => below_drewN (hB2 n m) k
  have d_keys := eqS_any _ kv kv2 _ _ (st _ hB0 o1) (st _ hB0 p1) la.keys lb.keys
  have d_vals := fun n => eqS_any _ vv vv2 _ _ (st _ (hB1 n) o2) (st _ (hB1 n) p2) la.vals lb.vals
  have d_null := fun n => eqB_any _ nv nv2 _ _ (st _ (hB1 n) o3) (st _ (hB1 n) p3) la.null lb.null
  obtain ⟨A1, c1, rfl, _, _⟩ := o1.form
  obtain ⟨A2, c2, rfl, _, _⟩ := o2.form
  obtain ⟨A3, c3, rfl, _, _⟩ := o3.form
  obtain ⟨A4, c4, rfl, _, _⟩ := p1.form
  obtain ⟨A5, c5, rfl, _, _⟩ := p2.form
  obtain ⟨A6, c6, rfl, _, _⟩ := p3.form
  have HB0 := Lib.hid hB0
  have HB1 := Lib.hid hB1
  have HB2 := Lib.hid hB2
  have HB3 := Lib.hid hB3
  clear hB0 hB1 hB2 hB3 st o1 o2 o3 p1 p2 p3 la lb
  by_cases h_kind : a.kind = b.kind
  · have e_kind : ((a.kind.toNat : Int) == (b.kind.toNat : Int)) = true := (u8_beq _ _).trans (decide_eq_true h_kind)
    by_cases h_status : a.status = b.status
    · have e_status : ((a.status.toNat : Int) == (b.status.toNat : Int)) = true := (u8_beq _ _).trans (decide_eq_true h_status)
      by_cases h_text : a.text = b.text
      · have e_text : ((ba a.text).toList == (ba b.text).toList) = true := (ba_beq _ _).trans (decide_eq_true h_text)
        by_cases h_keys : a.keys = b.keys
        · have e_keys : decide (a.keys = b.keys) = true := decide_eq_true h_keys
          rw [e_keys] at d_keys
          clear e_keys
          by_cases h_vals : a.vals = b.vals
          · have e_vals : decide (a.vals = b.vals) = true := decide_eq_true h_vals
            rw [e_vals] at d_vals
            clear e_vals
            by_cases h_null : a.null = b.null
            · have e_null : decide (a.null = b.null) = true := decide_eq_true h_null
              rw [e_null] at d_null
              clear e_null
              by_cases h_n : a.n = b.n
              · have e_n : (a.n == b.n) = true := (int_beq _ _).trans (decide_eq_true h_n)
                by_cases h_m : a.m = b.m
                · have e_m : (a.m == b.m) = true := (int_beq _ _).trans (decide_eq_true h_m)
                  have HR : Hid (decide (a = b) = true) := Lib.hid (decide_eq_true (by cases a; cases b; simp only at h_kind h_status h_text h_keys h_vals h_null h_n h_m; subst h_kind h_status h_text h_keys h_vals h_null h_n h_m; rfl))
                  clear h_kind h_status h_text h_keys h_vals h_null h_n h_m
                  unfold twoT tellV u8 at d_keys d_vals d_null HB0 HB1 HB2 HB3
                  unfold tellV u8
                  go_enter Try.func26, Try.ntmps26
                  go_wp2_with (first
                    | (go_at_call 65; (with_reducible refine d_keys.mono ?_); rintro e w1 ⟨rfl, n1, rfl⟩)
                    | (go_at_call 65; (with_reducible refine (d_vals _).mono ?_); rintro e w2 ⟨rfl, n2, rfl⟩)
                    | (go_at_call 66; (with_reducible refine (d_null _).mono ?_); rintro e w3 ⟨rfl, n3, rfl⟩))
                  go_ret
                  rw [HR.out]
                  exact ⟨rfl, by first | exact HB0.out | exact HB1.out _ | exact HB2.out _ _ | exact HB3.out _ _ _⟩
                · have e_m : (a.m == b.m) = false := (int_beq _ _).trans (decide_eq_false h_m)
                  have HR : Hid (decide (a = b) = false) := Lib.hid (decide_eq_false (fun h => h_m (by rw [h])))
                  clear h_kind h_status h_text h_keys h_vals h_null h_n h_m
                  unfold twoT tellV u8 at d_keys d_vals d_null HB0 HB1 HB2 HB3
                  unfold tellV u8
                  go_enter Try.func26, Try.ntmps26
                  go_wp2_with (first
                    | (go_at_call 65; (with_reducible refine d_keys.mono ?_); rintro e w1 ⟨rfl, n1, rfl⟩)
                    | (go_at_call 65; (with_reducible refine (d_vals _).mono ?_); rintro e w2 ⟨rfl, n2, rfl⟩)
                    | (go_at_call 66; (with_reducible refine (d_null _).mono ?_); rintro e w3 ⟨rfl, n3, rfl⟩))
                  go_ret
                  rw [HR.out]
                  exact ⟨rfl, by first | exact HB0.out | exact HB1.out _ | exact HB2.out _ _ | exact HB3.out _ _ _⟩
              · have e_n : (a.n == b.n) = false := (int_beq _ _).trans (decide_eq_false h_n)
                have HR : Hid (decide (a = b) = false) := Lib.hid (decide_eq_false (fun h => h_n (by rw [h])))
                clear h_kind h_status h_text h_keys h_vals h_null h_n
                unfold twoT tellV u8 at d_keys d_vals d_null HB0 HB1 HB2 HB3
                unfold tellV u8
                go_enter Try.func26, Try.ntmps26
                go_wp2_with (first
                  | (go_at_call 65; (with_reducible refine d_keys.mono ?_); rintro e w1 ⟨rfl, n1, rfl⟩)
                  | (go_at_call 65; (with_reducible refine (d_vals _).mono ?_); rintro e w2 ⟨rfl, n2, rfl⟩)
                  | (go_at_call 66; (with_reducible refine (d_null _).mono ?_); rintro e w3 ⟨rfl, n3, rfl⟩))
                go_ret
                rw [HR.out]
                exact ⟨rfl, by first | exact HB0.out | exact HB1.out _ | exact HB2.out _ _ | exact HB3.out _ _ _⟩
            · have e_null : decide (a.null = b.null) = false := decide_eq_false h_null
              rw [e_null] at d_null
              clear e_null
              have HR : Hid (decide (a = b) = false) := Lib.hid (decide_eq_false (fun h => h_null (by rw [h])))
              clear h_kind h_status h_text h_keys h_vals h_null
              unfold twoT tellV u8 at d_keys d_vals d_null HB0 HB1 HB2 HB3
              unfold tellV u8
              go_enter Try.func26, Try.ntmps26
              go_wp2_with (first
                | (go_at_call 65; (with_reducible refine d_keys.mono ?_); rintro e w1 ⟨rfl, n1, rfl⟩)
                | (go_at_call 65; (with_reducible refine (d_vals _).mono ?_); rintro e w2 ⟨rfl, n2, rfl⟩)
                | (go_at_call 66; (with_reducible refine (d_null _).mono ?_); rintro e w3 ⟨rfl, n3, rfl⟩))
              go_ret
              rw [HR.out]
              exact ⟨rfl, by first | exact HB0.out | exact HB1.out _ | exact HB2.out _ _ | exact HB3.out _ _ _⟩
          · have e_vals : decide (a.vals = b.vals) = false := decide_eq_false h_vals
            rw [e_vals] at d_vals
            clear e_vals
            have HR : Hid (decide (a = b) = false) := Lib.hid (decide_eq_false (fun h => h_vals (by rw [h])))
            clear h_kind h_status h_text h_keys h_vals
            unfold twoT tellV u8 at d_keys d_vals d_null HB0 HB1 HB2 HB3
            unfold tellV u8
            go_enter Try.func26, Try.ntmps26
            go_wp2_with (first
              | (go_at_call 65; (with_reducible refine d_keys.mono ?_); rintro e w1 ⟨rfl, n1, rfl⟩)
              | (go_at_call 65; (with_reducible refine (d_vals _).mono ?_); rintro e w2 ⟨rfl, n2, rfl⟩)
              | (go_at_call 66; (with_reducible refine (d_null _).mono ?_); rintro e w3 ⟨rfl, n3, rfl⟩))
            go_ret
            rw [HR.out]
            exact ⟨rfl, by first | exact HB0.out | exact HB1.out _ | exact HB2.out _ _ | exact HB3.out _ _ _⟩
        · have e_keys : decide (a.keys = b.keys) = false := decide_eq_false h_keys
          rw [e_keys] at d_keys
          clear e_keys
          have HR : Hid (decide (a = b) = false) := Lib.hid (decide_eq_false (fun h => h_keys (by rw [h])))
          clear h_kind h_status h_text h_keys
          unfold twoT tellV u8 at d_keys d_vals d_null HB0 HB1 HB2 HB3
          unfold tellV u8
          go_enter Try.func26, Try.ntmps26
          go_wp2_with (first
            | (go_at_call 65; (with_reducible refine d_keys.mono ?_); rintro e w1 ⟨rfl, n1, rfl⟩)
            | (go_at_call 65; (with_reducible refine (d_vals _).mono ?_); rintro e w2 ⟨rfl, n2, rfl⟩)
            | (go_at_call 66; (with_reducible refine (d_null _).mono ?_); rintro e w3 ⟨rfl, n3, rfl⟩))
          go_ret
          rw [HR.out]
          exact ⟨rfl, by first | exact HB0.out | exact HB1.out _ | exact HB2.out _ _ | exact HB3.out _ _ _⟩
      · have e_text : ((ba a.text).toList == (ba b.text).toList) = false := (ba_beq _ _).trans (decide_eq_false h_text)
        have HR : Hid (decide (a = b) = false) := Lib.hid (decide_eq_false (fun h => h_text (by rw [h])))
        clear h_kind h_status h_text
        unfold twoT tellV u8 at d_keys d_vals d_null HB0 HB1 HB2 HB3
        unfold tellV u8
        go_enter Try.func26, Try.ntmps26
        go_wp2_with (first
          | (go_at_call 65; (with_reducible refine d_keys.mono ?_); rintro e w1 ⟨rfl, n1, rfl⟩)
          | (go_at_call 65; (with_reducible refine (d_vals _).mono ?_); rintro e w2 ⟨rfl, n2, rfl⟩)
          | (go_at_call 66; (with_reducible refine (d_null _).mono ?_); rintro e w3 ⟨rfl, n3, rfl⟩))
        go_ret
        rw [HR.out]
        exact ⟨rfl, by first | exact HB0.out | exact HB1.out _ | exact HB2.out _ _ | exact HB3.out _ _ _⟩
    · have e_status : ((a.status.toNat : Int) == (b.status.toNat : Int)) = false := (u8_beq _ _).trans (decide_eq_false h_status)
      have HR : Hid (decide (a = b) = false) := Lib.hid (decide_eq_false (fun h => h_status (by rw [h])))
      clear h_kind h_status
      unfold twoT tellV u8 at d_keys d_vals d_null HB0 HB1 HB2 HB3
      unfold tellV u8
      go_enter Try.func26, Try.ntmps26
      go_wp2_with (first
        | (go_at_call 65; (with_reducible refine d_keys.mono ?_); rintro e w1 ⟨rfl, n1, rfl⟩)
        | (go_at_call 65; (with_reducible refine (d_vals _).mono ?_); rintro e w2 ⟨rfl, n2, rfl⟩)
        | (go_at_call 66; (with_reducible refine (d_null _).mono ?_); rintro e w3 ⟨rfl, n3, rfl⟩))
      go_ret
      rw [HR.out]
      exact ⟨rfl, by first | exact HB0.out | exact HB1.out _ | exact HB2.out _ _ | exact HB3.out _ _ _⟩
  · have e_kind : ((a.kind.toNat : Int) == (b.kind.toNat : Int)) = false := (u8_beq _ _).trans (decide_eq_false h_kind)
    have HR : Hid (decide (a = b) = false) := Lib.hid (decide_eq_false (fun h => h_kind (by rw [h])))
    clear h_kind
    unfold twoT tellV u8 at d_keys d_vals d_null HB0 HB1 HB2 HB3
    unfold tellV u8
    go_enter Try.func26, Try.ntmps26
    go_wp2_with (first
      | (go_at_call 65; (with_reducible refine d_keys.mono ?_); rintro e w1 ⟨rfl, n1, rfl⟩)
      | (go_at_call 65; (with_reducible refine (d_vals _).mono ?_); rintro e w2 ⟨rfl, n2, rfl⟩)
      | (go_at_call 66; (with_reducible refine (d_null _).mono ?_); rintro e w3 ⟨rfl, n3, rfl⟩))
    go_ret
    rw [HR.out]
    exact ⟨rfl, by first | exact HB0.out | exact HB1.out _ | exact HB2.out _ _ | exact HB3.out _ _ _⟩
end Go.Proofs.Ytnjifbgjglniaaa.BK
