/- When the document's own Same calls two tells alike: just if they are. Condition: the lists are of at most 2^40 elements. -/
import Derived.Test.YtnjifbgjglniaaaBkw
namespace Go.Proofs.Ytnjifbgjglniaaa.BK
open Go.Proofs.Ytnjifbgjglniaaa
open Go.ChangeShapes Go.WideShapes Go.ChangeAt Go.RowKit
set_option linter.unusedVariables false
set_option linter.unusedSimpArgs false
set_option maxRecDepth 100000
attribute [local go_sem ↓] Go.wp_at_zero Go.wp_at_succ

set_option maxHeartbeats 1000000 in
theorem rsame_len (w : World) (a b : Tell) (kv vv nv kv2 vv2 nv2 : Value) (ha : AR (fun i => i < w.heap.size) w (.agg (tellV a kv vv nv)) a) (hb : AR (fun i => i < w.heap.size) w (.agg (tellV b kv2 vv2 nv2)) b) (hN : a.null.length ≠ b.null.length) :
    Calls Try.prog 11 #[.agg (tellV a kv vv nv), .agg (tellV b kv2 vv2 nv2)] w fun e w' => e = .returned (.bool (decide (a = b))) ∧ Below w.heap.size w w' := by
  have HR : Hid (decide (a = b) = false) := Lib.hid (decide_eq_false (fun h => hN (by rw [h])))
  obtain ⟨kv', vv', nv', e, o1, o2, o3⟩ := ha.ex
  obtain ⟨rfl, rfl, rfl⟩ : kv = kv' ∧ vv = vv' ∧ nv = nv' := by simpa [tellV] using e
  obtain ⟨kv3, vv3, nv3, e2, p1, p2, p3⟩ := hb.ex
  obtain ⟨rfl, rfl, rfl⟩ : kv2 = kv3 ∧ vv2 = vv3 ∧ nv2 = nv3 := by simpa [tellV] using e2
  clear e e2 ha hb
  obtain ⟨A1, c1, rfl, _, _⟩ := o1.form
  obtain ⟨A2, c2, rfl, _, _⟩ := o2.form
  obtain ⟨A3, c3, e3, hz1, _⟩ := o3.form
  rw [bools_len] at e3 hz1
  subst e3
  obtain ⟨A4, c4, rfl, _, _⟩ := p1.form
  obtain ⟨A5, c5, rfl, _, _⟩ := p2.form
  obtain ⟨A6, c6, e6, hz2, _⟩ := p3.form
  rw [bools_len] at e6 hz2
  subst e6
  have hbb : ((a.null.length : Int) != (b.null.length : Int)) = true := by simp; omega
  clear o1 o2 o3 p1 p2 p3 hN
  unfold tellV u8
  go_enter Try.func11, Try.ntmps11
  go_wp2
  go_ret
  rw [HR.out]
  exact ⟨rfl, ((Below.refl _ _).alloc (Nat.le_refl _) _).alloc (by simp) _⟩
set_option maxHeartbeats 1000000 in
theorem rsame_diff (w : World) (a b : Tell) (kv vv nv kv2 vv2 nv2 : Value) (ha : AR (fun i => i < w.heap.size) w (.agg (tellV a kv vv nv)) a) (hb : AR (fun i => i < w.heap.size) w (.agg (tellV b kv2 vv2 nv2)) b) (la : Lens a) (hN : a.null.length = b.null.length) (hD : a.null ≠ b.null) :
    Calls Try.prog 11 #[.agg (tellV a kv vv nv), .agg (tellV b kv2 vv2 nv2)] w fun e w' => e = .returned (.bool (decide (a = b))) ∧ Below w.heap.size w w' := by
  have HR : Hid (decide (a = b) = false) := Lib.hid (decide_eq_false (fun h => hD (by rw [h])))
  obtain ⟨kv', vv', nv', e, o1, o2, o3⟩ := ha.ex
  obtain ⟨rfl, rfl, rfl⟩ : kv = kv' ∧ vv = vv' ∧ nv = nv' := by simpa [tellV] using e
  obtain ⟨kv3, vv3, nv3, e2, p1, p2, p3⟩ := hb.ex
  obtain ⟨rfl, rfl, rfl⟩ : kv2 = kv3 ∧ vv2 = vv3 ∧ nv2 = nv3 := by simpa [tellV] using e2
  clear e e2 ha hb
  obtain ⟨A1, c1, rfl, _, _⟩ := o1.form
  obtain ⟨A2, c2, rfl, _, _⟩ := o2.form
  obtain ⟨A3, c3, e3, hz1, _⟩ := o3.form
  rw [bools_len] at e3 hz1
  subst e3
  obtain ⟨A4, c4, rfl, _, _⟩ := p1.form
  obtain ⟨A5, c5, rfl, _, _⟩ := p2.form
  obtain ⟨A6, c6, e6, hz2, _⟩ := p3.form
  rw [bools_len] at e6 hz2
  subst e6
  have hbb : ((a.null.length : Int) != (b.null.length : Int)) = false := by simp; omega
  have hL1 := la.null
  have HN1 := Lib.hid o3
  have HN2 := Lib.hid p3
  have HLN := Lib.hid hN
  have HD := Lib.hid hD
  have HB1 : Hid (∀ n, Below w.heap.size w ((((w.alloc (.cells #[.int .u8 (a.kind.toNat : Int), .int .u8 (a.status.toNat : Int), .string (ba a.text), .slice A1 (strs a.keys).length c1, .slice A2 (strs a.vals).length c2, .slice A3 a.null.length c3, .int .i64 a.n, .int .i64 a.m] 28)).alloc (.cells #[.int .u8 (b.kind.toNat : Int), .int .u8 (b.status.toNat : Int), .string (ba b.text), .slice A4 (strs b.keys).length c4, .slice A5 (strs b.vals).length c5, .slice A6 b.null.length c6, .int .i64 b.n, .int .i64 b.m] 28))).drewN n)) := Lib.hid (fun n => below_drewN (((Below.refl _ _).alloc (Nat.le_refl _) _).alloc (by simp) _) n)
  clear o1 o2 o3 p1 p2 p3 la hN hD
  unfold tellV u8
  go_enter Try.func11, Try.ntmps11
  go_wp2
  go_loopw [5] (fun i wr => ∃ k n : Nat, k ≤ a.null.length ∧ i = .int .i64 k ∧ wr = (((w.alloc (.cells #[.int .u8 (a.kind.toNat : Int), .int .u8 (a.status.toNat : Int), .string (ba a.text), .slice A1 (strs a.keys).length c1, .slice A2 (strs a.vals).length c2, .slice A3 a.null.length c3, .int .i64 a.n, .int .i64 a.m] 28)).alloc (.cells #[.int .u8 (b.kind.toNat : Int), .int .u8 (b.status.toNat : Int), .string (ba b.text), .slice A4 (strs b.keys).length c4, .slice A5 (strs b.vals).length c5, .slice A6 b.null.length c6, .int .i64 b.n, .int .i64 b.m] 28))).drewN n ∧ a.null.take k = b.null.take k) (fun i _ => a.null.length - (intOf i).toNat)
  case atStart => exact ⟨0, 0, Nat.zero_le _, rfl, rfl, rfl⟩
  case round =>
    obtain ⟨k, n, hk, rfl, rfl, ht⟩ := hrel
    have HT := Lib.hid ht
    clear ht
    by_cases hlt : k < a.null.length
    · have hlt2 : k < b.null.length := by rw [← HLN.out]; exact hlt
      obtain ⟨p1, o1, rfl, hp1, hg1⟩ := HN1.out.addr (ne_bools hlt)
      obtain ⟨p2, o2, rfl, hp2, hg2⟩ := HN2.out.addr (ne_bools hlt2)
      have x1 := hg1 k _ (bools_get a.null k hlt)
      have x2 := hg2 k _ (bools_get b.null k hlt2)
      have q1 : p1 ≠ w.heap.size := by omega
      have q2 : p2 ≠ w.heap.size := by omega
      have q3 : p1 ≠ w.heap.size + 1 := by omega
      have q4 : p2 ≠ w.heap.size + 1 := by omega
      have i0 : (0 : Int) ≤ (k : Int) := by omega
      have i1 : (k : Int) < (a.null.length : Int) := by omega
      have i2 : (k : Int) < (b.null.length : Int) := by omega
      clear hg1 hg2
      by_cases he : a.null[k] = b.null[k]
      · have HX := Lib.hid (take_eq hlt hlt2 HT.out he)
        rw [← he] at x2
        clear he
        generalize a.null[k] = t at *
        go_wp2
        go_quiet (fail)
        go_wp2
        go_roundw
        case rel => exact ⟨k + 1, _, by omega, by go_num, rfl, HX.out⟩
        case measure => simp [intOf]; omega
      · generalize hx : a.null[k] = t at *
        generalize hy : b.null[k] = u at *
        clear hx hy
        cases t <;> cases u
        case false.false => exact absurd rfl he
        case true.true => exact absurd rfl he
        all_goals
          clear he
          go_wp2
          go_quiet (fail)
          go_wp2
          go_ret
          rw [HR.out]
          exact ⟨rfl, by first | exact HB1.out _ | exact below_drewN (HB1.out _) _⟩
    · exfalso
      have h := HT.out
      have h2 := HLN.out
      rw [List.take_of_length_le (by omega), List.take_of_length_le (by omega)] at h
      exact HD.out h
theorem rsame_any (w : World) (a b : Tell) (v v2 : Value) (ha : AR (fun i => i < w.heap.size) w v a) (hb : AR (fun i => i < w.heap.size) w v2 b) (la : Lens a) (lb : Lens b) :
    Calls Try.prog 11 #[v, v2] w fun e w' => e = .returned (.bool (decide (a = b))) ∧ Below w.heap.size w w' := by
  obtain ⟨kv, vv, nv, rfl, h1, h2, h3⟩ := ha.ex
  obtain ⟨kv2, vv2, nv2, rfl, g1, g2, g3⟩ := hb.ex
  by_cases hN : a.null.length = b.null.length
  · by_cases hE : a.null = b.null
    · exact rsame_nulls w a b kv vv nv kv2 vv2 nv2 ⟨_, _, _, rfl, h1, h2, h3⟩ ⟨_, _, _, rfl, g1, g2, g3⟩ la lb hE
    · exact rsame_diff w a b kv vv nv kv2 vv2 nv2 ⟨_, _, _, rfl, h1, h2, h3⟩ ⟨_, _, _, rfl, g1, g2, g3⟩ la hN hE
  · exact rsame_len w a b kv vv nv kv2 vv2 nv2 ⟨_, _, _, rfl, h1, h2, h3⟩ ⟨_, _, _, rfl, g1, g2, g3⟩ hN
end Go.Proofs.Ytnjifbgjglniaaa.BK
