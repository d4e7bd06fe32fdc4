/- What package back's short answers: whether lists and texts are short enough for a message. Condition: what is told is of at most so many and so long texts (Few). -/
import Derived.Test.YtnjifbgjglniaaaBki
namespace Go.Proofs.Ytnjifbgjglniaaa.BK
open Go.Proofs.Ytnjifbgjglniaaa
open Go.ChangeShapes Go.WideShapes Go.ChangeAt Go.RowKit
set_option linter.unusedVariables false
set_option linter.unusedSimpArgs false
set_option maxRecDepth 100000
attribute [local go_sem ↓] Go.wp_at_zero Go.wp_at_succ

def pre2 (x y : Nat) : Nat → Nat | 0 => 0 | 1 => x | _ => x + y

set_option maxHeartbeats 1600000 in
theorem short_any (a : Tell) (kv vv nv : Value) (w : World) (f : Few a) (hk : LR (fun i => i < w.heap.size) w kv (strs a.keys)) (hv : LR (fun i => i < w.heap.size) w vv (strs a.vals)) :
    Calls Try.prog 25 #[.agg (tellV a kv vv nv)] w fun e w' => e = .returned (.bool (shortB a)) ∧ Below w.heap.size w w' := by
  obtain ⟨A4, c4, e4, hc1, hc2⟩ := hk.form
  obtain ⟨A5, c5, e5, hc3, hc4⟩ := hv.form
  rw [strs_len] at e4 e5 hc1 hc3
  subst e4 e5
  by_cases hb : a.keys.length ≤ 100 ∧ a.vals.length ≤ 100
  · obtain ⟨b1, b2⟩ := hb
    have d1 : decide ((100 : Int) < (a.keys.length : Int)) = false := by simp; omega
    have d2 : decide ((100 : Int) < (a.vals.length : Int)) = false := by simp; omega
    have s1 := sumT_few a.keys f.keysT
    have s2 := sumT_few a.vals f.valsT
    have z1 : (ba a.text).size ≤ 10000 := by rw [ba_size]; exact f.text
    have HK := Lib.hid hk
    have HV := Lib.hid hv
    have HF := Lib.hid f
    clear hk hv f
    unfold tellV u8
    go_enter Try.func25, Try.ntmps25
    go_wp2
    generalize hL0 : (4096 : Int) - ((ba a.text).size : Int) = L0
    have hL1 : L0 ≤ 4096 := by omega
    have hL2 : -30000 ≤ L0 := by omega
    have HL := Lib.hid hL0
    clear hL0
    go_loop [3, 28] (fun l i => ∃ j : Nat, j ≤ 2 ∧ i = .int .i64 j ∧ l = .int .i64 (L0 - (pre2 (sumT a.keys) (sumT a.vals) j : Nat))) (fun _ i => 2 - (intOf i).toNat)
    case atStart => exact ⟨0, by omega, rfl, by simp [pre2]⟩
    case round =>
      obtain ⟨j, hj, rfl, rfl⟩ := hrel
      have hjj : j = 0 ∨ j = 1 ∨ j = 2 := by omega
      rcases hjj with rfl | rfl | rfl
      all_goals simp only [pre2]
      · go_wp2
        go_loop [3, 34] (fun l i => ∃ k : Nat, k ≤ a.keys.length ∧ i = .int .i64 k ∧ l = .int .i64 (L0 - ((0 : Nat) : Int) - (sumT (a.keys.take k) : Nat))) (fun _ i => a.keys.length - (intOf i).toNat)
        case atStart => exact ⟨0, Nat.zero_le _, rfl, by simp [sumT]⟩
        case round =>
          obtain ⟨k, hk, rfl, rfl⟩ := hrel
          have hst : sumT (a.keys.take k) ≤ 2000000 := by
            have h1 := sumT_few (a.keys.take k) (fun t ht => HF.out.keysT t (List.mem_of_mem_take ht))
            have h2 : (a.keys.take k).length ≤ 200 := by rw [List.length_take]; omega
            omega
          by_cases hlt : k < a.keys.length
          · obtain ⟨p, o, rfl, hp, hg⟩ := HK.out.addr (ne_strs hlt)
            have x := hg k _ (strs_get a.keys k hlt)
            have hne1 : p ≠ w.heap.size := by omega
            have hne2 : p ≠ w.heap.size + 1 := by omega
            have HS := Lib.hid (sumT_step a.keys k hlt)
            have tz := HF.out.keysT a.keys[k] (List.getElem_mem _)
            have hsz : (ba a.keys[k]).size ≤ 10000 := by rw [ba_size]; exact tz
            have HZ : Hid (((ba a.keys[k]).size : Nat) = a.keys[k].length) := Lib.hid (ba_size _)
            clear hg tz
            go_wp2
            go_round
            case rel =>
              refine ⟨k + 1, by omega, by go_num, ?_⟩
              rw [HS.out, HZ.out]
              congr 1
              omega
            case measure => simp [intOf]; omega
          · have e : k = a.keys.length := by omega
            subst e
            rw [List.take_length] at hst ⊢
            go_wp2
            go_round
            case rel => exact ⟨1, by omega, rfl, by simp only [pre2]; congr 1; omega⟩
            case measure => simp [intOf]
      · go_wp2
        go_loop [3, 34] (fun l i => ∃ k : Nat, k ≤ a.vals.length ∧ i = .int .i64 k ∧ l = .int .i64 (L0 - ((sumT a.keys : Nat) : Int) - (sumT (a.vals.take k) : Nat))) (fun _ i => a.vals.length - (intOf i).toNat)
        case atStart => exact ⟨0, Nat.zero_le _, rfl, by simp [sumT]⟩
        case round =>
          obtain ⟨k, hk, rfl, rfl⟩ := hrel
          have hst : sumT (a.vals.take k) ≤ 2000000 := by
            have h1 := sumT_few (a.vals.take k) (fun t ht => HF.out.valsT t (List.mem_of_mem_take ht))
            have h2 : (a.vals.take k).length ≤ 200 := by rw [List.length_take]; omega
            omega
          by_cases hlt : k < a.vals.length
          · obtain ⟨p, o, rfl, hp, hg⟩ := HV.out.addr (ne_strs hlt)
            have x := hg k _ (strs_get a.vals k hlt)
            have hne1 : p ≠ w.heap.size := by omega
            have hne2 : p ≠ w.heap.size + 1 := by omega
            have HS := Lib.hid (sumT_step a.vals k hlt)
            have tz := HF.out.valsT a.vals[k] (List.getElem_mem _)
            have hsz : (ba a.vals[k]).size ≤ 10000 := by rw [ba_size]; exact tz
            have HZ : Hid (((ba a.vals[k]).size : Nat) = a.vals[k].length) := Lib.hid (ba_size _)
            clear hg tz
            go_wp2
            go_round
            case rel =>
              refine ⟨k + 1, by omega, by go_num, ?_⟩
              rw [HS.out, HZ.out]
              congr 1
              omega
            case measure => simp [intOf]; omega
          · have e : k = a.vals.length := by omega
            subst e
            rw [List.take_length] at hst ⊢
            go_wp2
            go_round
            case rel => exact ⟨2, by omega, rfl, by simp only [pre2]; congr 1; omega⟩
            case measure => simp [intOf]
      · go_wp2
        go_ret
        have e : shortB a = decide ((sumT a.keys : Int) + (sumT a.vals : Int) ≤ L0) := by
          have h := HL.out
          rw [ba_size] at h
          unfold shortB
          rw [Bool.eq_iff_iff]
          simp only [decide_eq_true_eq]
          constructor
          · intro hh; omega
          · intro hh; exact ⟨b1, b2, by omega⟩
        rw [e]
        exact ⟨rfl, ((Below.refl _ _).alloc (Nat.le_refl _) _).alloc (by simp) _⟩
  · have e : shortB a = false := by unfold shortB; exact decide_eq_false (fun h => hb ⟨h.1, h.2.1⟩)
    rw [e]
    clear hk hv e
    have dd : ∀ n : Nat, decide ((100 : Int) < (n : Int)) = !decide (n ≤ 100) := fun n => by rw [Bool.eq_iff_iff]; simp; omega
    have d1 := dd a.keys.length
    have d2 := dd a.vals.length
    have l1 := f.keys
    have l2 := f.vals
    clear dd f
    unfold tellV u8
    by_cases b1 : a.keys.length ≤ 100
    · rw [decide_eq_true b1] at d1
      have b2 : ¬ a.vals.length ≤ 100 := fun h => hb ⟨b1, h⟩
      rw [decide_eq_false b2] at d2
      clear hb b1 b2 l1 l2
      go_enter Try.func25, Try.ntmps25
      go_wp2
      go_ret
      exact ⟨rfl, (Below.refl _ _).alloc (Nat.le_refl _) _⟩
    · rw [decide_eq_false b1] at d1
      clear hb b1 d2 l1 l2
      go_enter Try.func25, Try.ntmps25
      go_wp2
      go_ret
      exact ⟨rfl, (Below.refl _ _).alloc (Nat.le_refl _) _⟩
end Go.Proofs.Ytnjifbgjglniaaa.BK
