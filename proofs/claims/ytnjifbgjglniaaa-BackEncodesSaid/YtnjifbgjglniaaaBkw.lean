/- What the document's own Light and Same answer: what Light lets by is of at most so many and so long texts (Few); Same is equality. Condition: each text is of at most 2^48 bytes. -/
import Derived.Test.YtnjifbgjglniaaaBki
import Derived.Test.YtnjifbgjglniaaaBkq
namespace Go.Proofs.Ytnjifbgjglniaaa.BK
open Go.Proofs.Ytnjifbgjglniaaa
open Go.ChangeShapes Go.WideShapes Go.ChangeAt Go.RowKit
set_option linter.unusedVariables false
set_option linter.unusedSimpArgs false
set_option maxRecDepth 100000
attribute [local go_sem ↓] Go.wp_at_zero Go.wp_at_succ

theorem sumT_has (l : List Tx) (t : Tx) (h : t ∈ l) : t.length ≤ sumT l := by
  induction l with
  | nil => cases h
  | cons u l ih =>
    rw [sumT_cons]
    rcases List.mem_cons.1 h with rfl | h
    · omega
    · have := ih h; omega
theorem sumT_big (l : List Tx) (h : ∀ t ∈ l, t.length ≤ 281474976710656) : sumT l ≤ l.length * 281474976710656 := by
  induction l with
  | nil => simp [sumT]
  | cons t l ih =>
    have h1 := h t (by simp)
    have h2 := ih (fun t ht => h t (by simp [ht]))
    rw [sumT_cons, List.length_cons]; omega
theorem sumT_take (l : List Tx) (k : Nat) (h : ∀ t ∈ l, t.length ≤ 281474976710656) (hl : l.length ≤ 200) : sumT (l.take k) ≤ 56294995342131200 := by
  have h1 := sumT_big (l.take k) (fun t ht => h t (List.mem_of_mem_take ht))
  have h2 : (l.take k).length ≤ 200 := by rw [List.length_take]; omega
  have h3 : (l.take k).length * 281474976710656 ≤ 200 * 281474976710656 := Nat.mul_le_mul_right _ h2
  exact Nat.le_trans h1 h3
/-- its texts in lists are of at most 2^48 bytes -/
structure Sz (a : Tell) : Prop where
  keys : ∀ t ∈ a.keys, t.length ≤ 281474976710656
  vals : ∀ t ∈ a.vals, t.length ≤ 281474976710656
def LightP (a : Tell) (w : World) (e : Ending) (w' : World) : Prop := ∃ b, e = .returned (.bool b) ∧ (b = true → Few a) ∧ Below w.heap.size w w'
set_option maxHeartbeats 1000000 in
theorem light_0 (w : World) (a : Tell) (kv vv nv : Value) (hk : LR (fun i => i < w.heap.size) w kv (strs a.keys)) (hv : LR (fun i => i < w.heap.size) w vv (strs a.vals)) (hn : LR (fun i => i < w.heap.size) w nv (bools a.null)) (d0 : decide ((200 : Int) < (a.keys.length : Int)) = true) :
    Calls Try.prog 12 #[.agg (tellV a kv vv nv)] w fun e w' => LightP a w e w' := by
  obtain ⟨A4, c4, e4, hc4, hd4⟩ := hk.form
  rw [strs_len] at e4 hc4
  subst e4
  obtain ⟨A5, c5, e5, hc5, hd5⟩ := hv.form
  rw [strs_len] at e5 hc5
  subst e5
  obtain ⟨A7, c7, e7, hc7, hd7⟩ := hn.form
  rw [bools_len] at e7 hc7
  subst e7
  clear hk hv hn
  unfold tellV u8
  go_enter Try.func12, Try.ntmps12
  go_wp2
  go_ret
  exact ⟨false, rfl, by simp, (Below.refl _ _).alloc (Nat.le_refl _) _⟩
set_option maxHeartbeats 1000000 in
theorem light_1 (w : World) (a : Tell) (kv vv nv : Value) (hk : LR (fun i => i < w.heap.size) w kv (strs a.keys)) (hv : LR (fun i => i < w.heap.size) w vv (strs a.vals)) (hn : LR (fun i => i < w.heap.size) w nv (bools a.null)) (d0 : decide ((200 : Int) < (a.keys.length : Int)) = false) (d1 : decide ((200 : Int) < (a.vals.length : Int)) = true) :
    Calls Try.prog 12 #[.agg (tellV a kv vv nv)] w fun e w' => LightP a w e w' := by
  obtain ⟨A4, c4, e4, hc4, hd4⟩ := hk.form
  rw [strs_len] at e4 hc4
  subst e4
  obtain ⟨A5, c5, e5, hc5, hd5⟩ := hv.form
  rw [strs_len] at e5 hc5
  subst e5
  obtain ⟨A7, c7, e7, hc7, hd7⟩ := hn.form
  rw [bools_len] at e7 hc7
  subst e7
  clear hk hv hn
  unfold tellV u8
  go_enter Try.func12, Try.ntmps12
  go_wp2
  go_ret
  exact ⟨false, rfl, by simp, (Below.refl _ _).alloc (Nat.le_refl _) _⟩
set_option maxHeartbeats 1000000 in
theorem light_2 (w : World) (a : Tell) (kv vv nv : Value) (hk : LR (fun i => i < w.heap.size) w kv (strs a.keys)) (hv : LR (fun i => i < w.heap.size) w vv (strs a.vals)) (hn : LR (fun i => i < w.heap.size) w nv (bools a.null)) (d0 : decide ((200 : Int) < (a.keys.length : Int)) = false) (d1 : decide ((200 : Int) < (a.vals.length : Int)) = false) (d2 : decide ((200 : Int) < (a.null.length : Int)) = true) :
    Calls Try.prog 12 #[.agg (tellV a kv vv nv)] w fun e w' => LightP a w e w' := by
  obtain ⟨A4, c4, e4, hc4, hd4⟩ := hk.form
  rw [strs_len] at e4 hc4
  subst e4
  obtain ⟨A5, c5, e5, hc5, hd5⟩ := hv.form
  rw [strs_len] at e5 hc5
  subst e5
  obtain ⟨A7, c7, e7, hc7, hd7⟩ := hn.form
  rw [bools_len] at e7 hc7
  subst e7
  clear hk hv hn
  unfold tellV u8
  go_enter Try.func12, Try.ntmps12
  go_wp2
  go_ret
  exact ⟨false, rfl, by simp, (Below.refl _ _).alloc (Nat.le_refl _) _⟩
set_option maxHeartbeats 1000000 in
theorem light_3 (w : World) (a : Tell) (kv vv nv : Value) (hk : LR (fun i => i < w.heap.size) w kv (strs a.keys)) (hv : LR (fun i => i < w.heap.size) w vv (strs a.vals)) (hn : LR (fun i => i < w.heap.size) w nv (bools a.null)) (d0 : decide ((200 : Int) < (a.keys.length : Int)) = false) (d1 : decide ((200 : Int) < (a.vals.length : Int)) = false) (d2 : decide ((200 : Int) < (a.null.length : Int)) = false) (d3 : decide ((5000 : Int) < ((ba a.text).size : Int)) = true) :
    Calls Try.prog 12 #[.agg (tellV a kv vv nv)] w fun e w' => LightP a w e w' := by
  obtain ⟨A4, c4, e4, hc4, hd4⟩ := hk.form
  rw [strs_len] at e4 hc4
  subst e4
  obtain ⟨A5, c5, e5, hc5, hd5⟩ := hv.form
  rw [strs_len] at e5 hc5
  subst e5
  obtain ⟨A7, c7, e7, hc7, hd7⟩ := hn.form
  rw [bools_len] at e7 hc7
  subst e7
  clear hk hv hn
  unfold tellV u8
  go_enter Try.func12, Try.ntmps12
  go_wp2
  go_ret
  exact ⟨false, rfl, by simp, (Below.refl _ _).alloc (Nat.le_refl _) _⟩
set_option maxHeartbeats 2000000 in
theorem light_yes (w : World) (a : Tell) (kv vv nv : Value) (hk : LR (fun i => i < w.heap.size) w kv (strs a.keys)) (hv : LR (fun i => i < w.heap.size) w vv (strs a.vals)) (hn : LR (fun i => i < w.heap.size) w nv (bools a.null)) (d0 : decide ((200 : Int) < (a.keys.length : Int)) = false) (d1 : decide ((200 : Int) < (a.vals.length : Int)) = false) (d2 : decide ((200 : Int) < (a.null.length : Int)) = false) (d3 : decide ((5000 : Int) < ((ba a.text).size : Int)) = false) (hs : Sz a) :
    Calls Try.prog 12 #[.agg (tellV a kv vv nv)] w fun e w' => LightP a w e w' := by
  obtain ⟨A4, c4, e4, hc4, hd4⟩ := hk.form
  rw [strs_len] at e4 hc4
  subst e4
  obtain ⟨A5, c5, e5, hc5, hd5⟩ := hv.form
  rw [strs_len] at e5 hc5
  subst e5
  obtain ⟨A7, c7, e7, hc7, hd7⟩ := hn.form
  rw [bools_len] at e7 hc7
  subst e7
  have b0 : a.keys.length ≤ 200 := by have := of_decide_eq_false d0; omega
  have b1 : a.vals.length ≤ 200 := by have := of_decide_eq_false d1; omega
  have b2 : a.null.length ≤ 200 := by have := of_decide_eq_false d2; omega
  have b3 : (ba a.text).size ≤ 5000 := by have := of_decide_eq_false d3; omega
  have HK := Lib.hid hk
  have HV := Lib.hid hv
  have HZ := Lib.hid hs
  clear hk hv hn hs
  unfold tellV u8
  go_enter Try.func12, Try.ntmps12
  go_wp2
  go_loop [3, 4] (fun l i => ∃ k : Nat, k ≤ a.keys.length ∧ i = .int .i64 k ∧ l = .int .i64 ((0 + sumT (a.keys.take k) : Nat) : Int)) (fun _ i => a.keys.length - (intOf i).toNat)
  case atStart => exact ⟨0, Nat.zero_le _, rfl, by simp [sumT]⟩
  case round =>
    obtain ⟨k, hk, rfl, rfl⟩ := hrel
    have hst : sumT (a.keys.take k) ≤ 56294995342131200 := sumT_take _ _ HZ.out.keys b0
    by_cases hlt : k < a.keys.length
    · obtain ⟨p, o, rfl, hp, hg⟩ := HK.out.addr (ne_strs hlt)
      have x := hg k _ (strs_get a.keys k hlt)
      have hne1 : p ≠ w.heap.size := by omega
      have HS := Lib.hid (sumT_step a.keys k hlt)
      have tz := HZ.out.keys a.keys[k] (List.getElem_mem _)
      have hsz : (ba a.keys[k]).size ≤ 281474976710656 := by rw [ba_size]; exact tz
      have HY : Hid (((ba a.keys[k]).size : Nat) = a.keys[k].length) := Lib.hid (ba_size _)
      clear hg tz
      go_wp2
      go_round
      case rel =>
        refine ⟨k + 1, by omega, by go_num, ?_⟩
        rw [HS.out, HY.out]
        congr 1
        omega
      case measure => simp [intOf]; omega
    · have e : k = a.keys.length := by omega
      subst e
      rw [List.take_length] at hst ⊢
      have s_keys : sumT a.keys ≤ 56294995342131200 := hst
      clear hst hlt hk
      go_wp2
      go_loop [3, 5] (fun l i => ∃ k : Nat, k ≤ a.vals.length ∧ i = .int .i64 k ∧ l = .int .i64 ((sumT a.keys + sumT (a.vals.take k) : Nat) : Int)) (fun _ i => a.vals.length - (intOf i).toNat)
      case atStart => exact ⟨0, Nat.zero_le _, rfl, by simp [sumT]⟩
      case round =>
        obtain ⟨k, hk, rfl, rfl⟩ := hrel
        have hst : sumT (a.vals.take k) ≤ 56294995342131200 := sumT_take _ _ HZ.out.vals b1
        by_cases hlt : k < a.vals.length
        · obtain ⟨p, o, rfl, hp, hg⟩ := HV.out.addr (ne_strs hlt)
          have x := hg k _ (strs_get a.vals k hlt)
          have hne1 : p ≠ w.heap.size := by omega
          have HS := Lib.hid (sumT_step a.vals k hlt)
          have tz := HZ.out.vals a.vals[k] (List.getElem_mem _)
          have hsz : (ba a.vals[k]).size ≤ 281474976710656 := by rw [ba_size]; exact tz
          have HY : Hid (((ba a.vals[k]).size : Nat) = a.vals[k].length) := Lib.hid (ba_size _)
          clear hg tz
          go_wp2
          go_round
          case rel =>
            refine ⟨k + 1, by omega, by go_num, ?_⟩
            rw [HS.out, HY.out]
            congr 1
            omega
          case measure => simp [intOf]; omega
        · have e : k = a.vals.length := by omega
          subst e
          rw [List.take_length] at hst ⊢
          have s_vals : sumT a.vals ≤ 56294995342131200 := hst
          clear hst hlt hk
          go_wp2
          go_ret
          refine ⟨_, rfl, fun hb => ?_, (Below.refl _ _).alloc (Nat.le_refl _) _⟩
          have hb2 := of_decide_eq_true hb
          rw [ba_size] at b3
          exact ⟨by omega, by omega, by omega, by omega, fun t ht => by have := sumT_has _ t ht; omega, fun t ht => by have := sumT_has _ t ht; omega⟩
theorem light_any (w : World) (a : Tell) (v : Value) (h1 : AR (fun b => b < w.heap.size) w v a) (hs : Sz a) :
    Calls Try.prog 12 #[v] w fun e w' => ∃ b, e = .returned (.bool b) ∧ (b = true → Few a) ∧ Below w.heap.size w w' := by
  obtain ⟨kv, vv, nv, rfl, k1, k2, k3⟩ := h1.ex
  cases d0 : decide ((200 : Int) < (a.keys.length : Int))
  case true => exact light_0 w a kv vv nv k1 k2 k3 d0
  cases d1 : decide ((200 : Int) < (a.vals.length : Int))
  case true => exact light_1 w a kv vv nv k1 k2 k3 d0 d1
  cases d2 : decide ((200 : Int) < (a.null.length : Int))
  case true => exact light_2 w a kv vv nv k1 k2 k3 d0 d1 d2
  cases d3 : decide ((5000 : Int) < ((ba a.text).size : Int))
  case true => exact light_3 w a kv vv nv k1 k2 k3 d0 d1 d2 d3
  exact light_yes w a kv vv nv k1 k2 k3 d0 d1 d2 d3 hs

set_option maxHeartbeats 4000000 in
theorem rsame_nulls (w : World) (a b : Tell) (kv vv nv kv2 vv2 nv2 : Value) (ha : AR (fun i => i < w.heap.size) w (.agg (tellV a kv vv nv)) a) (hb : AR (fun i => i < w.heap.size) w (.agg (tellV b kv2 vv2 nv2)) b) (la : Lens a) (lb : Lens b) (hN : a.null = b.null) :
    Calls Try.prog 11 #[.agg (tellV a kv vv nv), .agg (tellV b kv2 vv2 nv2)] w fun e w' => e = .returned (.bool (decide (a = b))) ∧ Below w.heap.size w w' := by
  obtain ⟨kv', vv', nv', e, o1, o2, o3⟩ := ha.ex
  obtain ⟨rfl, rfl, rfl⟩ : kv = kv' ∧ vv = vv' ∧ nv = nv' := by simpa [tellV] using e
  obtain ⟨kv3, vv3, nv3, e2, p1, p2, p3⟩ := hb.ex
  obtain ⟨rfl, rfl, rfl⟩ : kv2 = kv3 ∧ vv2 = vv3 ∧ nv2 = nv3 := by simpa [tellV] using e2
  clear e e2 ha hb
  have hB0 : Below w.heap.size w (twoT w a b kv vv nv kv2 vv2 nv2) := ((Below.refl _ _).alloc (Nat.le_refl _) _).alloc (by simp) _
  have st : ∀ {v xs} (W : World), Below w.heap.size w W → LR (fun i => i < w.heap.size) w v xs → LR (fun i => i < w.heap.size) W v xs := fun W hB h => h.step (fun i hi => hB.block i hi) (fun i hi => hi)
  have hB1 := fun n => below_drewN hB0 n
  have hB2 := fun n m => below_drewN (hB1 n) m
  have d_keys := fun n => texts_any _ kv kv2 _ _ (st _ (hB1 n) o1) (st _ (hB1 n) p1) la.keys lb.keys
  have d_vals := fun n => texts_any _ vv vv2 _ _ (st _ (hB1 n) o2) (st _ (hB1 n) p2) la.vals lb.vals
  rw [← hN] at p3
  have hL1 := la.null
  obtain ⟨A1, c1, rfl, _, _⟩ := o1.form
  obtain ⟨A2, c2, rfl, _, _⟩ := o2.form
  obtain ⟨A3, c3, e3, hz1, _⟩ := o3.form
  rw [bools_len] at e3 hz1
  subst e3
  obtain ⟨A4, c4, rfl, _, _⟩ := p1.form
  obtain ⟨A5, c5, rfl, _, _⟩ := p2.form
  obtain ⟨A6, c6, e6, hz2, _⟩ := p3.form
  rw [bools_len] at e6 hz2
  subst e6
  have HN1 := Lib.hid o3
  have HN2 := Lib.hid p3
  have HB0 := Lib.hid hB0
  have HB1 := Lib.hid hB1
  have HB2 := Lib.hid hB2
  have HNN := Lib.hid hN
  clear hB0 hB1 hB2 st o1 o2 o3 p1 p2 p3 la lb hN
  by_cases h_kind : a.kind = b.kind
  · have e_kind : ((a.kind.toNat : Int) == (b.kind.toNat : Int)) = true := (u8_beq _ _).trans (decide_eq_true h_kind)
    by_cases h_status : a.status = b.status
    · have e_status : ((a.status.toNat : Int) == (b.status.toNat : Int)) = true := (u8_beq _ _).trans (decide_eq_true h_status)
      by_cases h_text : a.text = b.text
      · have e_text : ((ba a.text).toList == (ba b.text).toList) = true := (ba_beq _ _).trans (decide_eq_true h_text)
        by_cases h_keys : a.keys = b.keys
        · have e_keys : decide (a.keys = b.keys) = true := decide_eq_true h_keys
          rw [e_keys] at d_keys
          clear e_keys
          by_cases h_vals : a.vals = b.vals
          · have e_vals : decide (a.vals = b.vals) = true := decide_eq_true h_vals
            rw [e_vals] at d_vals
            clear e_vals
            by_cases h_n : a.n = b.n
            · have e_n : (a.n == b.n) = true := (int_beq _ _).trans (decide_eq_true h_n)
              by_cases h_m : a.m = b.m
              · have e_m : (a.m == b.m) = true := (int_beq _ _).trans (decide_eq_true h_m)
                have HR : Hid (decide (a = b) = true) := Lib.hid (decide_eq_true (by have h_null := HNN.out; cases a; cases b; simp only at h_null h_kind h_status h_text h_keys h_vals h_n h_m; subst h_null h_kind h_status h_text h_keys h_vals h_n h_m; rfl))
                clear h_kind h_status h_text h_keys h_vals h_n h_m
                unfold twoT tellV u8 at d_keys d_vals HB0 HB1
                unfold tellV u8
                go_enter Try.func11, Try.ntmps11
                go_wp2
                go_loopw [5] (fun i wr => ∃ k n : Nat, k ≤ a.null.length ∧ i = .int .i64 k ∧ wr = (((w.alloc (.cells #[.int .u8 (a.kind.toNat : Int), .int .u8 (a.status.toNat : Int), .string (ba a.text), .slice A1 (strs a.keys).length c1, .slice A2 (strs a.vals).length c2, .slice A3 a.null.length c3, .int .i64 a.n, .int .i64 a.m] 28)).alloc (.cells #[.int .u8 (b.kind.toNat : Int), .int .u8 (b.status.toNat : Int), .string (ba b.text), .slice A4 (strs b.keys).length c4, .slice A5 (strs b.vals).length c5, .slice A6 a.null.length c6, .int .i64 b.n, .int .i64 b.m] 28))).drewN n) (fun i _ => a.null.length - (intOf i).toNat)
                case atStart => exact ⟨0, 0, Nat.zero_le _, rfl, rfl⟩
                case round =>
                  obtain ⟨k, n, hk, rfl, rfl⟩ := hrel
                  by_cases hlt : k < a.null.length
                  · have hne3 : bools a.null ≠ [] := ne_bools hlt
                    obtain ⟨p1, o1, rfl, hp1, hg1⟩ := HN1.out.addr hne3
                    obtain ⟨p2, o2, rfl, hp2, hg2⟩ := HN2.out.addr hne3
                    have x1 := hg1 k _ (bools_get a.null k hlt)
                    have x2 := hg2 k _ (bools_get a.null k hlt)
                    have q1 : p1 ≠ w.heap.size := by omega
                    have q2 : p2 ≠ w.heap.size := by omega
                    have q3 : p1 ≠ w.heap.size + 1 := by omega
                    have q4 : p2 ≠ w.heap.size + 1 := by omega
                    have i0 : (0 : Int) ≤ (k : Int) := by omega
                    have i1 : (k : Int) < (a.null.length : Int) := by omega
                    clear hg1 hg2 hne3
                    generalize a.null[k] = t at *
                    go_wp2
                    go_quiet (fail)
                    go_wp2
                    go_roundw
                    case rel => exact ⟨k + 1, _, by omega, by go_num, rfl⟩
                    case measure => simp [intOf]; omega
                  · have e : k = a.null.length := by omega
                    subst e
                    go_wp2_with (first
                      | (go_at_call 24; (with_reducible refine (d_keys _).mono ?_); rintro e w1 ⟨rfl, n1, rfl⟩)
                      | (go_at_call 24; (with_reducible refine (d_vals _).mono ?_); rintro e w2 ⟨rfl, n2, rfl⟩))
                    go_ret
                    rw [HR.out]
                    refine ⟨rfl, ?_⟩
                    first | exact HB1.out _ | exact HB2.out _ _ | exact below_drewN (HB2.out _ _) _
              · have e_m : (a.m == b.m) = false := (int_beq _ _).trans (decide_eq_false h_m)
                have HR : Hid (decide (a = b) = false) := Lib.hid (decide_eq_false (fun h => h_m (by rw [h])))
                clear h_kind h_status h_text h_keys h_vals h_n h_m
                unfold twoT tellV u8 at d_keys d_vals HB0 HB1
                unfold tellV u8
                go_enter Try.func11, Try.ntmps11
                go_wp2
                go_loopw [5] (fun i wr => ∃ k n : Nat, k ≤ a.null.length ∧ i = .int .i64 k ∧ wr = (((w.alloc (.cells #[.int .u8 (a.kind.toNat : Int), .int .u8 (a.status.toNat : Int), .string (ba a.text), .slice A1 (strs a.keys).length c1, .slice A2 (strs a.vals).length c2, .slice A3 a.null.length c3, .int .i64 a.n, .int .i64 a.m] 28)).alloc (.cells #[.int .u8 (b.kind.toNat : Int), .int .u8 (b.status.toNat : Int), .string (ba b.text), .slice A4 (strs b.keys).length c4, .slice A5 (strs b.vals).length c5, .slice A6 a.null.length c6, .int .i64 b.n, .int .i64 b.m] 28))).drewN n) (fun i _ => a.null.length - (intOf i).toNat)
                case atStart => exact ⟨0, 0, Nat.zero_le _, rfl, rfl⟩
                case round =>
                  obtain ⟨k, n, hk, rfl, rfl⟩ := hrel
                  by_cases hlt : k < a.null.length
                  · have hne3 : bools a.null ≠ [] := ne_bools hlt
                    obtain ⟨p1, o1, rfl, hp1, hg1⟩ := HN1.out.addr hne3
                    obtain ⟨p2, o2, rfl, hp2, hg2⟩ := HN2.out.addr hne3
                    have x1 := hg1 k _ (bools_get a.null k hlt)
                    have x2 := hg2 k _ (bools_get a.null k hlt)
                    have q1 : p1 ≠ w.heap.size := by omega
                    have q2 : p2 ≠ w.heap.size := by omega
                    have q3 : p1 ≠ w.heap.size + 1 := by omega
                    have q4 : p2 ≠ w.heap.size + 1 := by omega
                    have i0 : (0 : Int) ≤ (k : Int) := by omega
                    have i1 : (k : Int) < (a.null.length : Int) := by omega
                    clear hg1 hg2 hne3
                    generalize a.null[k] = t at *
                    go_wp2
                    go_quiet (fail)
                    go_wp2
                    go_roundw
                    case rel => exact ⟨k + 1, _, by omega, by go_num, rfl⟩
                    case measure => simp [intOf]; omega
                  · have e : k = a.null.length := by omega
                    subst e
                    go_wp2_with (first
                      | (go_at_call 24; (with_reducible refine (d_keys _).mono ?_); rintro e w1 ⟨rfl, n1, rfl⟩)
                      | (go_at_call 24; (with_reducible refine (d_vals _).mono ?_); rintro e w2 ⟨rfl, n2, rfl⟩))
                    go_ret
                    rw [HR.out]
                    refine ⟨rfl, ?_⟩
                    first | exact HB1.out _ | exact HB2.out _ _ | exact below_drewN (HB2.out _ _) _
            · have e_n : (a.n == b.n) = false := (int_beq _ _).trans (decide_eq_false h_n)
              have HR : Hid (decide (a = b) = false) := Lib.hid (decide_eq_false (fun h => h_n (by rw [h])))
              clear h_kind h_status h_text h_keys h_vals h_n
              unfold twoT tellV u8 at d_keys d_vals HB0 HB1
              unfold tellV u8
              go_enter Try.func11, Try.ntmps11
              go_wp2
              go_loopw [5] (fun i wr => ∃ k n : Nat, k ≤ a.null.length ∧ i = .int .i64 k ∧ wr = (((w.alloc (.cells #[.int .u8 (a.kind.toNat : Int), .int .u8 (a.status.toNat : Int), .string (ba a.text), .slice A1 (strs a.keys).length c1, .slice A2 (strs a.vals).length c2, .slice A3 a.null.length c3, .int .i64 a.n, .int .i64 a.m] 28)).alloc (.cells #[.int .u8 (b.kind.toNat : Int), .int .u8 (b.status.toNat : Int), .string (ba b.text), .slice A4 (strs b.keys).length c4, .slice A5 (strs b.vals).length c5, .slice A6 a.null.length c6, .int .i64 b.n, .int .i64 b.m] 28))).drewN n) (fun i _ => a.null.length - (intOf i).toNat)
              case atStart => exact ⟨0, 0, Nat.zero_le _, rfl, rfl⟩
              case round =>
                obtain ⟨k, n, hk, rfl, rfl⟩ := hrel
                by_cases hlt : k < a.null.length
                · have hne3 : bools a.null ≠ [] := ne_bools hlt
                  obtain ⟨p1, o1, rfl, hp1, hg1⟩ := HN1.out.addr hne3
                  obtain ⟨p2, o2, rfl, hp2, hg2⟩ := HN2.out.addr hne3
                  have x1 := hg1 k _ (bools_get a.null k hlt)
                  have x2 := hg2 k _ (bools_get a.null k hlt)
                  have q1 : p1 ≠ w.heap.size := by omega
                  have q2 : p2 ≠ w.heap.size := by omega
                  have q3 : p1 ≠ w.heap.size + 1 := by omega
                  have q4 : p2 ≠ w.heap.size + 1 := by omega
                  have i0 : (0 : Int) ≤ (k : Int) := by omega
                  have i1 : (k : Int) < (a.null.length : Int) := by omega
                  clear hg1 hg2 hne3
                  generalize a.null[k] = t at *
                  go_wp2
                  go_quiet (fail)
                  go_wp2
                  go_roundw
                  case rel => exact ⟨k + 1, _, by omega, by go_num, rfl⟩
                  case measure => simp [intOf]; omega
                · have e : k = a.null.length := by omega
                  subst e
                  go_wp2_with (first
                    | (go_at_call 24; (with_reducible refine (d_keys _).mono ?_); rintro e w1 ⟨rfl, n1, rfl⟩)
                    | (go_at_call 24; (with_reducible refine (d_vals _).mono ?_); rintro e w2 ⟨rfl, n2, rfl⟩))
                  go_ret
                  rw [HR.out]
                  refine ⟨rfl, ?_⟩
                  first | exact HB1.out _ | exact HB2.out _ _ | exact below_drewN (HB2.out _ _) _
          · have e_vals : decide (a.vals = b.vals) = false := decide_eq_false h_vals
            rw [e_vals] at d_vals
            clear e_vals
            have HR : Hid (decide (a = b) = false) := Lib.hid (decide_eq_false (fun h => h_vals (by rw [h])))
            clear h_kind h_status h_text h_keys h_vals
            unfold twoT tellV u8 at d_keys d_vals HB0 HB1
            unfold tellV u8
            go_enter Try.func11, Try.ntmps11
            go_wp2
            go_loopw [5] (fun i wr => ∃ k n : Nat, k ≤ a.null.length ∧ i = .int .i64 k ∧ wr = (((w.alloc (.cells #[.int .u8 (a.kind.toNat : Int), .int .u8 (a.status.toNat : Int), .string (ba a.text), .slice A1 (strs a.keys).length c1, .slice A2 (strs a.vals).length c2, .slice A3 a.null.length c3, .int .i64 a.n, .int .i64 a.m] 28)).alloc (.cells #[.int .u8 (b.kind.toNat : Int), .int .u8 (b.status.toNat : Int), .string (ba b.text), .slice A4 (strs b.keys).length c4, .slice A5 (strs b.vals).length c5, .slice A6 a.null.length c6, .int .i64 b.n, .int .i64 b.m] 28))).drewN n) (fun i _ => a.null.length - (intOf i).toNat)
            case atStart => exact ⟨0, 0, Nat.zero_le _, rfl, rfl⟩
            case round =>
              obtain ⟨k, n, hk, rfl, rfl⟩ := hrel
              by_cases hlt : k < a.null.length
              · have hne3 : bools a.null ≠ [] := ne_bools hlt
                obtain ⟨p1, o1, rfl, hp1, hg1⟩ := HN1.out.addr hne3
                obtain ⟨p2, o2, rfl, hp2, hg2⟩ := HN2.out.addr hne3
                have x1 := hg1 k _ (bools_get a.null k hlt)
                have x2 := hg2 k _ (bools_get a.null k hlt)
                have q1 : p1 ≠ w.heap.size := by omega
                have q2 : p2 ≠ w.heap.size := by omega
                have q3 : p1 ≠ w.heap.size + 1 := by omega
                have q4 : p2 ≠ w.heap.size + 1 := by omega
                have i0 : (0 : Int) ≤ (k : Int) := by omega
                have i1 : (k : Int) < (a.null.length : Int) := by omega
                clear hg1 hg2 hne3
                generalize a.null[k] = t at *
                go_wp2
                go_quiet (fail)
                go_wp2
                go_roundw
                case rel => exact ⟨k + 1, _, by omega, by go_num, rfl⟩
                case measure => simp [intOf]; omega
              · have e : k = a.null.length := by omega
                subst e
                go_wp2_with (first
                  | (go_at_call 24; (with_reducible refine (d_keys _).mono ?_); rintro e w1 ⟨rfl, n1, rfl⟩)
                  | (go_at_call 24; (with_reducible refine (d_vals _).mono ?_); rintro e w2 ⟨rfl, n2, rfl⟩))
                go_ret
                rw [HR.out]
                refine ⟨rfl, ?_⟩
                first | exact HB1.out _ | exact HB2.out _ _ | exact below_drewN (HB2.out _ _) _
        · have e_keys : decide (a.keys = b.keys) = false := decide_eq_false h_keys
          rw [e_keys] at d_keys
          clear e_keys
          have HR : Hid (decide (a = b) = false) := Lib.hid (decide_eq_false (fun h => h_keys (by rw [h])))
          clear h_kind h_status h_text h_keys
          unfold twoT tellV u8 at d_keys d_vals HB0 HB1
          unfold tellV u8
          go_enter Try.func11, Try.ntmps11
          go_wp2
          go_loopw [5] (fun i wr => ∃ k n : Nat, k ≤ a.null.length ∧ i = .int .i64 k ∧ wr = (((w.alloc (.cells #[.int .u8 (a.kind.toNat : Int), .int .u8 (a.status.toNat : Int), .string (ba a.text), .slice A1 (strs a.keys).length c1, .slice A2 (strs a.vals).length c2, .slice A3 a.null.length c3, .int .i64 a.n, .int .i64 a.m] 28)).alloc (.cells #[.int .u8 (b.kind.toNat : Int), .int .u8 (b.status.toNat : Int), .string (ba b.text), .slice A4 (strs b.keys).length c4, .slice A5 (strs b.vals).length c5, .slice A6 a.null.length c6, .int .i64 b.n, .int .i64 b.m] 28))).drewN n) (fun i _ => a.null.length - (intOf i).toNat)
          case atStart => exact ⟨0, 0, Nat.zero_le _, rfl, rfl⟩
          case round =>
            obtain ⟨k, n, hk, rfl, rfl⟩ := hrel
            by_cases hlt : k < a.null.length
            · have hne3 : bools a.null ≠ [] := ne_bools hlt
              obtain ⟨p1, o1, rfl, hp1, hg1⟩ := HN1.out.addr hne3
              obtain ⟨p2, o2, rfl, hp2, hg2⟩ := HN2.out.addr hne3
              have x1 := hg1 k _ (bools_get a.null k hlt)
              have x2 := hg2 k _ (bools_get a.null k hlt)
              have q1 : p1 ≠ w.heap.size := by omega
              have q2 : p2 ≠ w.heap.size := by omega
              have q3 : p1 ≠ w.heap.size + 1 := by omega
              have q4 : p2 ≠ w.heap.size + 1 := by omega
              have i0 : (0 : Int) ≤ (k : Int) := by omega
              have i1 : (k : Int) < (a.null.length : Int) := by omega
              clear hg1 hg2 hne3
              generalize a.null[k] = t at *
              go_wp2
              go_quiet (fail)
              go_wp2
              go_roundw
              case rel => exact ⟨k + 1, _, by omega, by go_num, rfl⟩
              case measure => simp [intOf]; omega
            · have e : k = a.null.length := by omega
              subst e
              go_wp2_with (first
                | (go_at_call 24; (with_reducible refine (d_keys _).mono ?_); rintro e w1 ⟨rfl, n1, rfl⟩)
                | (go_at_call 24; (with_reducible refine (d_vals _).mono ?_); rintro e w2 ⟨rfl, n2, rfl⟩))
              go_ret
              rw [HR.out]
              refine ⟨rfl, ?_⟩
              first | exact HB1.out _ | exact HB2.out _ _ | exact below_drewN (HB2.out _ _) _
      · have e_text : ((ba a.text).toList == (ba b.text).toList) = false := (ba_beq _ _).trans (decide_eq_false h_text)
        have HR : Hid (decide (a = b) = false) := Lib.hid (decide_eq_false (fun h => h_text (by rw [h])))
        clear h_kind h_status h_text
        unfold twoT tellV u8 at d_keys d_vals HB0 HB1
        unfold tellV u8
        go_enter Try.func11, Try.ntmps11
        go_wp2
        go_loopw [5] (fun i wr => ∃ k n : Nat, k ≤ a.null.length ∧ i = .int .i64 k ∧ wr = (((w.alloc (.cells #[.int .u8 (a.kind.toNat : Int), .int .u8 (a.status.toNat : Int), .string (ba a.text), .slice A1 (strs a.keys).length c1, .slice A2 (strs a.vals).length c2, .slice A3 a.null.length c3, .int .i64 a.n, .int .i64 a.m] 28)).alloc (.cells #[.int .u8 (b.kind.toNat : Int), .int .u8 (b.status.toNat : Int), .string (ba b.text), .slice A4 (strs b.keys).length c4, .slice A5 (strs b.vals).length c5, .slice A6 a.null.length c6, .int .i64 b.n, .int .i64 b.m] 28))).drewN n) (fun i _ => a.null.length - (intOf i).toNat)
        case atStart => exact ⟨0, 0, Nat.zero_le _, rfl, rfl⟩
        case round =>
          obtain ⟨k, n, hk, rfl, rfl⟩ := hrel
          by_cases hlt : k < a.null.length
          · have hne3 : bools a.null ≠ [] := ne_bools hlt
            obtain ⟨p1, o1, rfl, hp1, hg1⟩ := HN1.out.addr hne3
            obtain ⟨p2, o2, rfl, hp2, hg2⟩ := HN2.out.addr hne3
            have x1 := hg1 k _ (bools_get a.null k hlt)
            have x2 := hg2 k _ (bools_get a.null k hlt)
            have q1 : p1 ≠ w.heap.size := by omega
            have q2 : p2 ≠ w.heap.size := by omega
            have q3 : p1 ≠ w.heap.size + 1 := by omega
            have q4 : p2 ≠ w.heap.size + 1 := by omega
            have i0 : (0 : Int) ≤ (k : Int) := by omega
            have i1 : (k : Int) < (a.null.length : Int) := by omega
            clear hg1 hg2 hne3
            generalize a.null[k] = t at *
            go_wp2
            go_quiet (fail)
            go_wp2
            go_roundw
            case rel => exact ⟨k + 1, _, by omega, by go_num, rfl⟩
            case measure => simp [intOf]; omega
          · have e : k = a.null.length := by omega
            subst e
            go_wp2_with (first
              | (go_at_call 24; (with_reducible refine (d_keys _).mono ?_); rintro e w1 ⟨rfl, n1, rfl⟩)
              | (go_at_call 24; (with_reducible refine (d_vals _).mono ?_); rintro e w2 ⟨rfl, n2, rfl⟩))
            go_ret
            rw [HR.out]
            refine ⟨rfl, ?_⟩
            first | exact HB1.out _ | exact HB2.out _ _ | exact below_drewN (HB2.out _ _) _
    · have e_status : ((a.status.toNat : Int) == (b.status.toNat : Int)) = false := (u8_beq _ _).trans (decide_eq_false h_status)
      have HR : Hid (decide (a = b) = false) := Lib.hid (decide_eq_false (fun h => h_status (by rw [h])))
      clear h_kind h_status
      unfold twoT tellV u8 at d_keys d_vals HB0 HB1
      unfold tellV u8
      go_enter Try.func11, Try.ntmps11
      go_wp2
      go_loopw [5] (fun i wr => ∃ k n : Nat, k ≤ a.null.length ∧ i = .int .i64 k ∧ wr = (((w.alloc (.cells #[.int .u8 (a.kind.toNat : Int), .int .u8 (a.status.toNat : Int), .string (ba a.text), .slice A1 (strs a.keys).length c1, .slice A2 (strs a.vals).length c2, .slice A3 a.null.length c3, .int .i64 a.n, .int .i64 a.m] 28)).alloc (.cells #[.int .u8 (b.kind.toNat : Int), .int .u8 (b.status.toNat : Int), .string (ba b.text), .slice A4 (strs b.keys).length c4, .slice A5 (strs b.vals).length c5, .slice A6 a.null.length c6, .int .i64 b.n, .int .i64 b.m] 28))).drewN n) (fun i _ => a.null.length - (intOf i).toNat)
      case atStart => exact ⟨0, 0, Nat.zero_le _, rfl, rfl⟩
      case round =>
        obtain ⟨k, n, hk, rfl, rfl⟩ := hrel
        by_cases hlt : k < a.null.length
        · have hne3 : bools a.null ≠ [] := ne_bools hlt
          obtain ⟨p1, o1, rfl, hp1, hg1⟩ := HN1.out.addr hne3
          obtain ⟨p2, o2, rfl, hp2, hg2⟩ := HN2.out.addr hne3
          have x1 := hg1 k _ (bools_get a.null k hlt)
          have x2 := hg2 k _ (bools_get a.null k hlt)
          have q1 : p1 ≠ w.heap.size := by omega
          have q2 : p2 ≠ w.heap.size := by omega
          have q3 : p1 ≠ w.heap.size + 1 := by omega
          have q4 : p2 ≠ w.heap.size + 1 := by omega
          have i0 : (0 : Int) ≤ (k : Int) := by omega
          have i1 : (k : Int) < (a.null.length : Int) := by omega
          clear hg1 hg2 hne3
          generalize a.null[k] = t at *
          go_wp2
          go_quiet (fail)
          go_wp2
          go_roundw
          case rel => exact ⟨k + 1, _, by omega, by go_num, rfl⟩
          case measure => simp [intOf]; omega
        · have e : k = a.null.length := by omega
          subst e
          go_wp2_with (first
            | (go_at_call 24; (with_reducible refine (d_keys _).mono ?_); rintro e w1 ⟨rfl, n1, rfl⟩)
            | (go_at_call 24; (with_reducible refine (d_vals _).mono ?_); rintro e w2 ⟨rfl, n2, rfl⟩))
          go_ret
          rw [HR.out]
          refine ⟨rfl, ?_⟩
          first | exact HB1.out _ | exact HB2.out _ _ | exact below_drewN (HB2.out _ _) _
  · have e_kind : ((a.kind.toNat : Int) == (b.kind.toNat : Int)) = false := (u8_beq _ _).trans (decide_eq_false h_kind)
    have HR : Hid (decide (a = b) = false) := Lib.hid (decide_eq_false (fun h => h_kind (by rw [h])))
    clear h_kind
    unfold twoT tellV u8 at d_keys d_vals HB0 HB1
    unfold tellV u8
    go_enter Try.func11, Try.ntmps11
    go_wp2
    go_loopw [5] (fun i wr => ∃ k n : Nat, k ≤ a.null.length ∧ i = .int .i64 k ∧ wr = (((w.alloc (.cells #[.int .u8 (a.kind.toNat : Int), .int .u8 (a.status.toNat : Int), .string (ba a.text), .slice A1 (strs a.keys).length c1, .slice A2 (strs a.vals).length c2, .slice A3 a.null.length c3, .int .i64 a.n, .int .i64 a.m] 28)).alloc (.cells #[.int .u8 (b.kind.toNat : Int), .int .u8 (b.status.toNat : Int), .string (ba b.text), .slice A4 (strs b.keys).length c4, .slice A5 (strs b.vals).length c5, .slice A6 a.null.length c6, .int .i64 b.n, .int .i64 b.m] 28))).drewN n) (fun i _ => a.null.length - (intOf i).toNat)
    case atStart => exact ⟨0, 0, Nat.zero_le _, rfl, rfl⟩
    case round =>
      obtain ⟨k, n, hk, rfl, rfl⟩ := hrel
      by_cases hlt : k < a.null.length
      · have hne3 : bools a.null ≠ [] := ne_bools hlt
        obtain ⟨p1, o1, rfl, hp1, hg1⟩ := HN1.out.addr hne3
        obtain ⟨p2, o2, rfl, hp2, hg2⟩ := HN2.out.addr hne3
        have x1 := hg1 k _ (bools_get a.null k hlt)
        have x2 := hg2 k _ (bools_get a.null k hlt)
        have q1 : p1 ≠ w.heap.size := by omega
        have q2 : p2 ≠ w.heap.size := by omega
        have q3 : p1 ≠ w.heap.size + 1 := by omega
        have q4 : p2 ≠ w.heap.size + 1 := by omega
        have i0 : (0 : Int) ≤ (k : Int) := by omega
        have i1 : (k : Int) < (a.null.length : Int) := by omega
        clear hg1 hg2 hne3
        generalize a.null[k] = t at *
        go_wp2
        go_quiet (fail)
        go_wp2
        go_roundw
        case rel => exact ⟨k + 1, _, by omega, by go_num, rfl⟩
        case measure => simp [intOf]; omega
      · have e : k = a.null.length := by omega
        subst e
        go_wp2_with (first
          | (go_at_call 24; (with_reducible refine (d_keys _).mono ?_); rintro e w1 ⟨rfl, n1, rfl⟩)
          | (go_at_call 24; (with_reducible refine (d_vals _).mono ?_); rintro e w2 ⟨rfl, n2, rfl⟩))
        go_ret
        rw [HR.out]
        refine ⟨rfl, ?_⟩
        first | exact HB1.out _ | exact HB2.out _ _ | exact below_drewN (HB2.out _ _) _
end Go.Proofs.Ytnjifbgjglniaaa.BK
