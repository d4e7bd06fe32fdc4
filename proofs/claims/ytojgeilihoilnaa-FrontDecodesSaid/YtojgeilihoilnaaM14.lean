/- What the document's own Light answers: what it lets by is of at most so many and so long texts (Few). Condition: each text is of at most 2^48 bytes.
   When the document's own Same calls two asks alike: just if they are. Condition: the lists are of at most 2^40 elements. -/
import Derived.Test.YtojgeilihoilnaaM13
set_option linter.unusedSimpArgs false
set_option linter.unusedVariables false
namespace Go.Proofs.Ytojgeilihoilnaa
open Go.ChangeShapes Go.WideShapes Go.ChangeAt Go.RowKit
set_option linter.unusedVariables false

theorem sumT_has (l : List Tx) (t : Tx) (h : t ∈ l) : t.length ≤ sumT l := by
  induction l with
  | nil => cases h
  | cons u l ih =>
    simp only [sumT, List.map_cons, List.sum_cons] at ih ⊢
    rcases List.mem_cons.1 h with rfl | h
    · omega
    · have := ih h; omega
theorem sumT_big (l : List Tx) (h : ∀ t ∈ l, t.length ≤ 281474976710656) : sumT l ≤ l.length * 281474976710656 := by
  induction l with
  | nil => simp [sumT]
  | cons t l ih =>
    have h1 := h t (by simp)
    have h2 := ih (fun t ht => h t (by simp [ht]))
    simp only [sumT, List.map_cons, List.sum_cons, List.length_cons] at h2 ⊢
    omega
theorem sumT_take (l : List Tx) (k : Nat) (h : ∀ t ∈ l, t.length ≤ 281474976710656) (hl : l.length ≤ 200) : sumT (l.take k) ≤ 56294995342131200 := by
  have h1 := sumT_big (l.take k) (fun t ht => h t (List.mem_of_mem_take ht))
  have h2 : (l.take k).length ≤ 200 := by rw [List.length_take]; omega
  have h3 : (l.take k).length * 281474976710656 ≤ 200 * 281474976710656 := Nat.mul_le_mul_right _ h2
  exact Nat.le_trans h1 h3
/-- its texts in lists are of at most 2^48 bytes -/
structure Sz (a : Ask) : Prop where
  keys : ∀ t ∈ a.keys, t.length ≤ 281474976710656
  vals : ∀ t ∈ a.vals, t.length ≤ 281474976710656
  args : ∀ t ∈ a.args, t.length ≤ 281474976710656
def LightP (a : Ask) (w : World) (e : Ending) (w' : World) : Prop := ∃ b, e = .returned (.bool b) ∧ (b = true → Few a) ∧ Below w.heap.size w w'
set_option maxHeartbeats 1000000 in
set_option maxRecDepth 100000 in
theorem light_0 (w : World) (a : Ask) (kv vv av nv fv : Value) (hk : LR (fun i => i < w.heap.size) w kv (strs a.keys)) (hv : LR (fun i => i < w.heap.size) w vv (strs a.vals)) (ha : LR (fun i => i < w.heap.size) w av (strs a.args)) (hn : LR (fun i => i < w.heap.size) w nv (bools a.null)) (hf : LR (fun i => i < w.heap.size) w fv (ints a.formats)) (d0 : decide ((200 : Int) < (a.keys.length : Int)) = true) :
    Calls Try.prog 12 #[.agg (askV a kv vv av nv fv)] w fun e w' => LightP a w e w' := by
  obtain ⟨A4, c4, e4, hc4, hd4⟩ := hk.form
  rw [strs_len] at e4 hc4
  subst e4
  obtain ⟨A5, c5, e5, hc5, hd5⟩ := hv.form
  rw [strs_len] at e5 hc5
  subst e5
  obtain ⟨A6, c6, e6, hc6, hd6⟩ := ha.form
  rw [strs_len] at e6 hc6
  subst e6
  obtain ⟨A7, c7, e7, hc7, hd7⟩ := hn.form
  rw [bools_len] at e7 hc7
  subst e7
  obtain ⟨A8, c8, e8, hc8, hd8⟩ := hf.form
  rw [ints_len] at e8 hc8
  subst e8
  clear hk hv ha hn hf
  unfold askV u8
  go_enter Try.func12, Try.ntmps12
  go_wp2
  go_ret
  exact ⟨false, rfl, by simp, (Below.refl _ _).alloc (Nat.le_refl _) _⟩
set_option maxHeartbeats 1000000 in
set_option maxRecDepth 100000 in
theorem light_1 (w : World) (a : Ask) (kv vv av nv fv : Value) (hk : LR (fun i => i < w.heap.size) w kv (strs a.keys)) (hv : LR (fun i => i < w.heap.size) w vv (strs a.vals)) (ha : LR (fun i => i < w.heap.size) w av (strs a.args)) (hn : LR (fun i => i < w.heap.size) w nv (bools a.null)) (hf : LR (fun i => i < w.heap.size) w fv (ints a.formats)) (d0 : decide ((200 : Int) < (a.keys.length : Int)) = false) (d1 : decide ((200 : Int) < (a.vals.length : Int)) = true) :
    Calls Try.prog 12 #[.agg (askV a kv vv av nv fv)] w fun e w' => LightP a w e w' := by
  obtain ⟨A4, c4, e4, hc4, hd4⟩ := hk.form
  rw [strs_len] at e4 hc4
  subst e4
  obtain ⟨A5, c5, e5, hc5, hd5⟩ := hv.form
  rw [strs_len] at e5 hc5
  subst e5
  obtain ⟨A6, c6, e6, hc6, hd6⟩ := ha.form
  rw [strs_len] at e6 hc6
  subst e6
  obtain ⟨A7, c7, e7, hc7, hd7⟩ := hn.form
  rw [bools_len] at e7 hc7
  subst e7
  obtain ⟨A8, c8, e8, hc8, hd8⟩ := hf.form
  rw [ints_len] at e8 hc8
  subst e8
  clear hk hv ha hn hf
  unfold askV u8
  go_enter Try.func12, Try.ntmps12
  go_wp2
  go_ret
  exact ⟨false, rfl, by simp, (Below.refl _ _).alloc (Nat.le_refl _) _⟩
set_option maxHeartbeats 1000000 in
set_option maxRecDepth 100000 in
theorem light_2 (w : World) (a : Ask) (kv vv av nv fv : Value) (hk : LR (fun i => i < w.heap.size) w kv (strs a.keys)) (hv : LR (fun i => i < w.heap.size) w vv (strs a.vals)) (ha : LR (fun i => i < w.heap.size) w av (strs a.args)) (hn : LR (fun i => i < w.heap.size) w nv (bools a.null)) (hf : LR (fun i => i < w.heap.size) w fv (ints a.formats)) (d0 : decide ((200 : Int) < (a.keys.length : Int)) = false) (d1 : decide ((200 : Int) < (a.vals.length : Int)) = false) (d2 : decide ((200 : Int) < (a.args.length : Int)) = true) :
    Calls Try.prog 12 #[.agg (askV a kv vv av nv fv)] w fun e w' => LightP a w e w' := by
  obtain ⟨A4, c4, e4, hc4, hd4⟩ := hk.form
  rw [strs_len] at e4 hc4
  subst e4
  obtain ⟨A5, c5, e5, hc5, hd5⟩ := hv.form
  rw [strs_len] at e5 hc5
  subst e5
  obtain ⟨A6, c6, e6, hc6, hd6⟩ := ha.form
  rw [strs_len] at e6 hc6
  subst e6
  obtain ⟨A7, c7, e7, hc7, hd7⟩ := hn.form
  rw [bools_len] at e7 hc7
  subst e7
  obtain ⟨A8, c8, e8, hc8, hd8⟩ := hf.form
  rw [ints_len] at e8 hc8
  subst e8
  clear hk hv ha hn hf
  unfold askV u8
  go_enter Try.func12, Try.ntmps12
  go_wp2
  go_ret
  exact ⟨false, rfl, by simp, (Below.refl _ _).alloc (Nat.le_refl _) _⟩
set_option maxHeartbeats 1000000 in
set_option maxRecDepth 100000 in
theorem light_3 (w : World) (a : Ask) (kv vv av nv fv : Value) (hk : LR (fun i => i < w.heap.size) w kv (strs a.keys)) (hv : LR (fun i => i < w.heap.size) w vv (strs a.vals)) (ha : LR (fun i => i < w.heap.size) w av (strs a.args)) (hn : LR (fun i => i < w.heap.size) w nv (bools a.null)) (hf : LR (fun i => i < w.heap.size) w fv (ints a.formats)) (d0 : decide ((200 : Int) < (a.keys.length : Int)) = false) (d1 : decide ((200 : Int) < (a.vals.length : Int)) = false) (d2 : decide ((200 : Int) < (a.args.length : Int)) = false) (d3 : decide ((200 : Int) < (a.null.length : Int)) = true) :
    Calls Try.prog 12 #[.agg (askV a kv vv av nv fv)] w fun e w' => LightP a w e w' := by
  obtain ⟨A4, c4, e4, hc4, hd4⟩ := hk.form
  rw [strs_len] at e4 hc4
  subst e4
  obtain ⟨A5, c5, e5, hc5, hd5⟩ := hv.form
  rw [strs_len] at e5 hc5
  subst e5
  obtain ⟨A6, c6, e6, hc6, hd6⟩ := ha.form
  rw [strs_len] at e6 hc6
  subst e6
  obtain ⟨A7, c7, e7, hc7, hd7⟩ := hn.form
  rw [bools_len] at e7 hc7
  subst e7
  obtain ⟨A8, c8, e8, hc8, hd8⟩ := hf.form
  rw [ints_len] at e8 hc8
  subst e8
  clear hk hv ha hn hf
  unfold askV u8
  go_enter Try.func12, Try.ntmps12
  go_wp2
  go_ret
  exact ⟨false, rfl, by simp, (Below.refl _ _).alloc (Nat.le_refl _) _⟩
set_option maxHeartbeats 1000000 in
set_option maxRecDepth 100000 in
theorem light_4 (w : World) (a : Ask) (kv vv av nv fv : Value) (hk : LR (fun i => i < w.heap.size) w kv (strs a.keys)) (hv : LR (fun i => i < w.heap.size) w vv (strs a.vals)) (ha : LR (fun i => i < w.heap.size) w av (strs a.args)) (hn : LR (fun i => i < w.heap.size) w nv (bools a.null)) (hf : LR (fun i => i < w.heap.size) w fv (ints a.formats)) (d0 : decide ((200 : Int) < (a.keys.length : Int)) = false) (d1 : decide ((200 : Int) < (a.vals.length : Int)) = false) (d2 : decide ((200 : Int) < (a.args.length : Int)) = false) (d3 : decide ((200 : Int) < (a.null.length : Int)) = false) (d4 : decide ((200 : Int) < (a.formats.length : Int)) = true) :
    Calls Try.prog 12 #[.agg (askV a kv vv av nv fv)] w fun e w' => LightP a w e w' := by
  obtain ⟨A4, c4, e4, hc4, hd4⟩ := hk.form
  rw [strs_len] at e4 hc4
  subst e4
  obtain ⟨A5, c5, e5, hc5, hd5⟩ := hv.form
  rw [strs_len] at e5 hc5
  subst e5
  obtain ⟨A6, c6, e6, hc6, hd6⟩ := ha.form
  rw [strs_len] at e6 hc6
  subst e6
  obtain ⟨A7, c7, e7, hc7, hd7⟩ := hn.form
  rw [bools_len] at e7 hc7
  subst e7
  obtain ⟨A8, c8, e8, hc8, hd8⟩ := hf.form
  rw [ints_len] at e8 hc8
  subst e8
  clear hk hv ha hn hf
  unfold askV u8
  go_enter Try.func12, Try.ntmps12
  go_wp2
  go_ret
  exact ⟨false, rfl, by simp, (Below.refl _ _).alloc (Nat.le_refl _) _⟩
set_option maxHeartbeats 1000000 in
set_option maxRecDepth 100000 in
theorem light_5 (w : World) (a : Ask) (kv vv av nv fv : Value) (hk : LR (fun i => i < w.heap.size) w kv (strs a.keys)) (hv : LR (fun i => i < w.heap.size) w vv (strs a.vals)) (ha : LR (fun i => i < w.heap.size) w av (strs a.args)) (hn : LR (fun i => i < w.heap.size) w nv (bools a.null)) (hf : LR (fun i => i < w.heap.size) w fv (ints a.formats)) (d0 : decide ((200 : Int) < (a.keys.length : Int)) = false) (d1 : decide ((200 : Int) < (a.vals.length : Int)) = false) (d2 : decide ((200 : Int) < (a.args.length : Int)) = false) (d3 : decide ((200 : Int) < (a.null.length : Int)) = false) (d4 : decide ((200 : Int) < (a.formats.length : Int)) = false) (d5 : decide ((5000 : Int) < ((ba a.name).size : Int)) = true) :
    Calls Try.prog 12 #[.agg (askV a kv vv av nv fv)] w fun e w' => LightP a w e w' := by
  obtain ⟨A4, c4, e4, hc4, hd4⟩ := hk.form
  rw [strs_len] at e4 hc4
  subst e4
  obtain ⟨A5, c5, e5, hc5, hd5⟩ := hv.form
  rw [strs_len] at e5 hc5
  subst e5
  obtain ⟨A6, c6, e6, hc6, hd6⟩ := ha.form
  rw [strs_len] at e6 hc6
  subst e6
  obtain ⟨A7, c7, e7, hc7, hd7⟩ := hn.form
  rw [bools_len] at e7 hc7
  subst e7
  obtain ⟨A8, c8, e8, hc8, hd8⟩ := hf.form
  rw [ints_len] at e8 hc8
  subst e8
  clear hk hv ha hn hf
  unfold askV u8
  go_enter Try.func12, Try.ntmps12
  go_wp2
  go_ret
  exact ⟨false, rfl, by simp, (Below.refl _ _).alloc (Nat.le_refl _) _⟩
set_option maxHeartbeats 1000000 in
set_option maxRecDepth 100000 in
theorem light_6 (w : World) (a : Ask) (kv vv av nv fv : Value) (hk : LR (fun i => i < w.heap.size) w kv (strs a.keys)) (hv : LR (fun i => i < w.heap.size) w vv (strs a.vals)) (ha : LR (fun i => i < w.heap.size) w av (strs a.args)) (hn : LR (fun i => i < w.heap.size) w nv (bools a.null)) (hf : LR (fun i => i < w.heap.size) w fv (ints a.formats)) (d0 : decide ((200 : Int) < (a.keys.length : Int)) = false) (d1 : decide ((200 : Int) < (a.vals.length : Int)) = false) (d2 : decide ((200 : Int) < (a.args.length : Int)) = false) (d3 : decide ((200 : Int) < (a.null.length : Int)) = false) (d4 : decide ((200 : Int) < (a.formats.length : Int)) = false) (d5 : decide ((5000 : Int) < ((ba a.name).size : Int)) = false) (d6 : decide ((5000 : Int) < ((ba a.portal).size : Int)) = true) :
    Calls Try.prog 12 #[.agg (askV a kv vv av nv fv)] w fun e w' => LightP a w e w' := by
  obtain ⟨A4, c4, e4, hc4, hd4⟩ := hk.form
  rw [strs_len] at e4 hc4
  subst e4
  obtain ⟨A5, c5, e5, hc5, hd5⟩ := hv.form
  rw [strs_len] at e5 hc5
  subst e5
  obtain ⟨A6, c6, e6, hc6, hd6⟩ := ha.form
  rw [strs_len] at e6 hc6
  subst e6
  obtain ⟨A7, c7, e7, hc7, hd7⟩ := hn.form
  rw [bools_len] at e7 hc7
  subst e7
  obtain ⟨A8, c8, e8, hc8, hd8⟩ := hf.form
  rw [ints_len] at e8 hc8
  subst e8
  clear hk hv ha hn hf
  unfold askV u8
  go_enter Try.func12, Try.ntmps12
  go_wp2
  go_ret
  exact ⟨false, rfl, by simp, (Below.refl _ _).alloc (Nat.le_refl _) _⟩
set_option maxHeartbeats 1000000 in
set_option maxRecDepth 100000 in
theorem light_7 (w : World) (a : Ask) (kv vv av nv fv : Value) (hk : LR (fun i => i < w.heap.size) w kv (strs a.keys)) (hv : LR (fun i => i < w.heap.size) w vv (strs a.vals)) (ha : LR (fun i => i < w.heap.size) w av (strs a.args)) (hn : LR (fun i => i < w.heap.size) w nv (bools a.null)) (hf : LR (fun i => i < w.heap.size) w fv (ints a.formats)) (d0 : decide ((200 : Int) < (a.keys.length : Int)) = false) (d1 : decide ((200 : Int) < (a.vals.length : Int)) = false) (d2 : decide ((200 : Int) < (a.args.length : Int)) = false) (d3 : decide ((200 : Int) < (a.null.length : Int)) = false) (d4 : decide ((200 : Int) < (a.formats.length : Int)) = false) (d5 : decide ((5000 : Int) < ((ba a.name).size : Int)) = false) (d6 : decide ((5000 : Int) < ((ba a.portal).size : Int)) = false) (d7 : decide ((5000 : Int) < ((ba a.sql).size : Int)) = true) :
    Calls Try.prog 12 #[.agg (askV a kv vv av nv fv)] w fun e w' => LightP a w e w' := by
  obtain ⟨A4, c4, e4, hc4, hd4⟩ := hk.form
  rw [strs_len] at e4 hc4
  subst e4
  obtain ⟨A5, c5, e5, hc5, hd5⟩ := hv.form
  rw [strs_len] at e5 hc5
  subst e5
  obtain ⟨A6, c6, e6, hc6, hd6⟩ := ha.form
  rw [strs_len] at e6 hc6
  subst e6
  obtain ⟨A7, c7, e7, hc7, hd7⟩ := hn.form
  rw [bools_len] at e7 hc7
  subst e7
  obtain ⟨A8, c8, e8, hc8, hd8⟩ := hf.form
  rw [ints_len] at e8 hc8
  subst e8
  clear hk hv ha hn hf
  unfold askV u8
  go_enter Try.func12, Try.ntmps12
  go_wp2
  go_ret
  exact ⟨false, rfl, by simp, (Below.refl _ _).alloc (Nat.le_refl _) _⟩
set_option maxHeartbeats 4000000 in
set_option maxRecDepth 100000 in
theorem light_yes (w : World) (a : Ask) (kv vv av nv fv : Value) (hk : LR (fun i => i < w.heap.size) w kv (strs a.keys)) (hv : LR (fun i => i < w.heap.size) w vv (strs a.vals)) (ha : LR (fun i => i < w.heap.size) w av (strs a.args)) (hn : LR (fun i => i < w.heap.size) w nv (bools a.null)) (hf : LR (fun i => i < w.heap.size) w fv (ints a.formats)) (d0 : decide ((200 : Int) < (a.keys.length : Int)) = false) (d1 : decide ((200 : Int) < (a.vals.length : Int)) = false) (d2 : decide ((200 : Int) < (a.args.length : Int)) = false) (d3 : decide ((200 : Int) < (a.null.length : Int)) = false) (d4 : decide ((200 : Int) < (a.formats.length : Int)) = false) (d5 : decide ((5000 : Int) < ((ba a.name).size : Int)) = false) (d6 : decide ((5000 : Int) < ((ba a.portal).size : Int)) = false) (d7 : decide ((5000 : Int) < ((ba a.sql).size : Int)) = false) (hs : Sz a) :
    Calls Try.prog 12 #[.agg (askV a kv vv av nv fv)] w fun e w' => LightP a w e w' := by
  obtain ⟨A4, c4, e4, hc4, hd4⟩ := hk.form
  rw [strs_len] at e4 hc4
  subst e4
  obtain ⟨A5, c5, e5, hc5, hd5⟩ := hv.form
  rw [strs_len] at e5 hc5
  subst e5
  obtain ⟨A6, c6, e6, hc6, hd6⟩ := ha.form
  rw [strs_len] at e6 hc6
  subst e6
  obtain ⟨A7, c7, e7, hc7, hd7⟩ := hn.form
  rw [bools_len] at e7 hc7
  subst e7
  obtain ⟨A8, c8, e8, hc8, hd8⟩ := hf.form
  rw [ints_len] at e8 hc8
  subst e8
  have b0 : a.keys.length ≤ 200 := by have := of_decide_eq_false d0; omega
  have b1 : a.vals.length ≤ 200 := by have := of_decide_eq_false d1; omega
  have b2 : a.args.length ≤ 200 := by have := of_decide_eq_false d2; omega
  have b3 : a.null.length ≤ 200 := by have := of_decide_eq_false d3; omega
  have b4 : a.formats.length ≤ 200 := by have := of_decide_eq_false d4; omega
  have b5 : (ba a.name).size ≤ 5000 := by have := of_decide_eq_false d5; omega
  have b6 : (ba a.portal).size ≤ 5000 := by have := of_decide_eq_false d6; omega
  have b7 : (ba a.sql).size ≤ 5000 := by have := of_decide_eq_false d7; omega
  have HK := Lib.hid hk
  have HV := Lib.hid hv
  have HA := Lib.hid ha
  have HZ := Lib.hid hs
  clear hk hv ha hn hf hs
  unfold askV u8
  go_enter Try.func12, Try.ntmps12
  go_wp2
  go_loop [3, 4] (fun l i => ∃ k : Nat, k ≤ a.keys.length ∧ i = .int .i64 k ∧ l = .int .i64 ((0 + sumT (a.keys.take k) : Nat) : Int)) (fun _ i => a.keys.length - (intOf i).toNat)
  case atStart => exact ⟨0, Nat.zero_le _, rfl, by simp [sumT]⟩
  case round =>
    obtain ⟨k, hk, rfl, rfl⟩ := hrel
    have hst : sumT (a.keys.take k) ≤ 56294995342131200 := sumT_take _ _ HZ.out.keys b0
    by_cases hlt : k < a.keys.length
    · obtain ⟨p, o, rfl, hp, hg⟩ := HK.out.addr (ne_strs hlt)
      have x := hg k _ (strs_get a.keys k hlt)
      have hne1 : p ≠ w.heap.size := by omega
      have HS := Lib.hid (sumT_step a.keys k hlt)
      have tz := HZ.out.keys a.keys[k] (List.getElem_mem _)
      have hsz : (ba a.keys[k]).size ≤ 281474976710656 := by rw [ba_size]; exact tz
      have HY : Hid (((ba a.keys[k]).size : Nat) = a.keys[k].length) := Lib.hid (ba_size _)
      clear hg tz
      go_wp2
      go_round
      case rel =>
        refine ⟨k + 1, by omega, by go_num, ?_⟩
        rw [HS.out, HY.out]
        congr 1
        omega
      case measure => simp [intOf]; omega
    · have e : k = a.keys.length := by omega
      subst e
      rw [List.take_length] at hst ⊢
      have s1 : sumT a.keys ≤ 56294995342131200 := hst
      clear hst hlt hk
      go_wp2
      go_loop [3, 5] (fun l i => ∃ k : Nat, k ≤ a.vals.length ∧ i = .int .i64 k ∧ l = .int .i64 ((sumT a.keys + sumT (a.vals.take k) : Nat) : Int)) (fun _ i => a.vals.length - (intOf i).toNat)
      case atStart => exact ⟨0, Nat.zero_le _, rfl, by simp [sumT]⟩
      case round =>
        obtain ⟨k, hk, rfl, rfl⟩ := hrel
        have hst : sumT (a.vals.take k) ≤ 56294995342131200 := sumT_take _ _ HZ.out.vals b1
        by_cases hlt : k < a.vals.length
        · obtain ⟨p, o, rfl, hp, hg⟩ := HV.out.addr (ne_strs hlt)
          have x := hg k _ (strs_get a.vals k hlt)
          have hne1 : p ≠ w.heap.size := by omega
          have HS := Lib.hid (sumT_step a.vals k hlt)
          have tz := HZ.out.vals a.vals[k] (List.getElem_mem _)
          have hsz : (ba a.vals[k]).size ≤ 281474976710656 := by rw [ba_size]; exact tz
          have HY : Hid (((ba a.vals[k]).size : Nat) = a.vals[k].length) := Lib.hid (ba_size _)
          clear hg tz
          go_wp2
          go_round
          case rel =>
            refine ⟨k + 1, by omega, by go_num, ?_⟩
            rw [HS.out, HY.out]
            congr 1
            omega
          case measure => simp [intOf]; omega
        · have e : k = a.vals.length := by omega
          subst e
          rw [List.take_length] at hst ⊢
          have s2 : sumT a.vals ≤ 56294995342131200 := hst
          clear hst hlt hk
          go_wp2
          go_loop [3, 6] (fun l i => ∃ k : Nat, k ≤ a.args.length ∧ i = .int .i64 k ∧ l = .int .i64 ((sumT a.keys + sumT a.vals + sumT (a.args.take k) : Nat) : Int)) (fun _ i => a.args.length - (intOf i).toNat)
          case atStart => exact ⟨0, Nat.zero_le _, rfl, by simp [sumT]⟩
          case round =>
            obtain ⟨k, hk, rfl, rfl⟩ := hrel
            have hst : sumT (a.args.take k) ≤ 56294995342131200 := sumT_take _ _ HZ.out.args b2
            by_cases hlt : k < a.args.length
            · obtain ⟨p, o, rfl, hp, hg⟩ := HA.out.addr (ne_strs hlt)
              have x := hg k _ (strs_get a.args k hlt)
              have hne1 : p ≠ w.heap.size := by omega
              have HS := Lib.hid (sumT_step a.args k hlt)
              have tz := HZ.out.args a.args[k] (List.getElem_mem _)
              have hsz : (ba a.args[k]).size ≤ 281474976710656 := by rw [ba_size]; exact tz
              have HY : Hid (((ba a.args[k]).size : Nat) = a.args[k].length) := Lib.hid (ba_size _)
              clear hg tz
              go_wp2
              go_round
              case rel =>
                refine ⟨k + 1, by omega, by go_num, ?_⟩
                rw [HS.out, HY.out]
                congr 1
                omega
              case measure => simp [intOf]; omega
            · have e : k = a.args.length := by omega
              subst e
              rw [List.take_length] at hst ⊢
              have s3 : sumT a.args ≤ 56294995342131200 := hst
              clear hst hlt hk
              go_wp2
              go_ret
              refine ⟨_, rfl, fun hb => ?_, (Below.refl _ _).alloc (Nat.le_refl _) _⟩
              have hb2 := of_decide_eq_true hb
              rw [ba_size] at b5 b6 b7
              exact ⟨by omega, by omega, by omega, by omega, by omega, by omega, by omega, by omega, fun t ht => by have := sumT_has _ t ht; omega, fun t ht => by have := sumT_has _ t ht; omega, fun t ht => by have := sumT_has _ t ht; omega⟩
theorem light_any (w : World) (a : Ask) (v : Value) (h1 : AR (fun b => b < w.heap.size) w v a) (hs : Sz a) :
    Calls Try.prog 12 #[v] w fun e w' => ∃ b, e = .returned (.bool b) ∧ (b = true → Few a) ∧ Below w.heap.size w w' := by
  obtain ⟨kv, vv, av, nv, fv, rfl, k1, k2, k3, k4, k5⟩ := h1.ex
  cases d0 : decide ((200 : Int) < (a.keys.length : Int))
  case true => exact light_0 w a kv vv av nv fv k1 k2 k3 k4 k5 d0
  cases d1 : decide ((200 : Int) < (a.vals.length : Int))
  case true => exact light_1 w a kv vv av nv fv k1 k2 k3 k4 k5 d0 d1
  cases d2 : decide ((200 : Int) < (a.args.length : Int))
  case true => exact light_2 w a kv vv av nv fv k1 k2 k3 k4 k5 d0 d1 d2
  cases d3 : decide ((200 : Int) < (a.null.length : Int))
  case true => exact light_3 w a kv vv av nv fv k1 k2 k3 k4 k5 d0 d1 d2 d3
  cases d4 : decide ((200 : Int) < (a.formats.length : Int))
  case true => exact light_4 w a kv vv av nv fv k1 k2 k3 k4 k5 d0 d1 d2 d3 d4
  cases d5 : decide ((5000 : Int) < ((ba a.name).size : Int))
  case true => exact light_5 w a kv vv av nv fv k1 k2 k3 k4 k5 d0 d1 d2 d3 d4 d5
  cases d6 : decide ((5000 : Int) < ((ba a.portal).size : Int))
  case true => exact light_6 w a kv vv av nv fv k1 k2 k3 k4 k5 d0 d1 d2 d3 d4 d5 d6
  cases d7 : decide ((5000 : Int) < ((ba a.sql).size : Int))
  case true => exact light_7 w a kv vv av nv fv k1 k2 k3 k4 k5 d0 d1 d2 d3 d4 d5 d6 d7
  exact light_yes w a kv vv av nv fv k1 k2 k3 k4 k5 d0 d1 d2 d3 d4 d5 d6 d7 hs
end Go.Proofs.Ytojgeilihoilnaa
namespace Go.Proofs.Ytojgeilihoilnaa
open Go.ChangeShapes Go.WideShapes Go.ChangeAt Go.RowKit
set_option linter.unusedVariables false

theorem take_both {α : Type} (l m : List α) (k : Nat) (h1 : k < l.length) (h2 : k < m.length) (h : l.take k = m.take k) (hk : l[k] = m[k]) : l.take (k + 1) = m.take (k + 1) := by
  rw [List.take_succ_eq_append_getElem h1, List.take_succ_eq_append_getElem h2, h, hk]
theorem ne_at {α : Type} (l m : List α) (k : Nat) (h1 : k < l.length) (h2 : k < m.length) (hk : l[k] ≠ m[k]) : l ≠ m := by
  intro e; subst e; exact hk rfl
theorem take_all {α : Type} (l m : List α) (k : Nat) (h1 : l.length ≤ k) (h2 : m.length ≤ k) (h : l.take k = m.take k) : l = m := by
  rwa [List.take_of_length_le h1, List.take_of_length_le h2] at h
theorem ask_dec12 (a b : Ask) (hn : a.null = b.null) (hf : a.formats = b.formats) : decide (a = b) = (decide (a.kind = b.kind) && decide (a.name = b.name) && decide (a.portal = b.portal) && decide (a.sql = b.sql) && decide (a.keys = b.keys) && decide (a.vals = b.vals) && decide (a.args = b.args) &&
    decide (a.most = b.most) && decide (a.what = b.what) && decide (a.cancel = b.cancel) && decide (a.pid = b.pid) && decide (a.secret = b.secret)) := by
  cases a; cases b
  rw [Bool.eq_iff_iff]
  simp at hn hf
  simp [hn, hf, and_assoc]

set_option maxHeartbeats 2000000 in
set_option maxRecDepth 100000 in
theorem alike_any (w : World) (a b : Ask) (v1 v2 : Value) (h1 : AR (fun i => i < w.heap.size) w v1 a) (h2 : AR (fun i => i < w.heap.size) w v2 b) (l1 : Lens a) (l2 : Lens b) :
    Calls Try.prog 11 #[v1, v2] w fun e w' => e = .returned (.bool (decide (a = b))) ∧ Below w.heap.size w w' := by
  obtain ⟨kv, vv, av, nv, fv, rfl, k1, k2, k3, k4, k5⟩ := h1.ex
  obtain ⟨kv2, vv2, av2, nv2, fv2, rfl, m1, m2, m3, m4, m5⟩ := h2.ex
  clear h1 h2
  obtain ⟨A7, c7, e7, hc7, hd7⟩ := k4.form
  obtain ⟨A8, c8, e8, hc8, hd8⟩ := k5.form
  obtain ⟨B7, y7, z7, hy7, hz7⟩ := m4.form
  obtain ⟨B8, y8, z8, hy8, hz8⟩ := m5.form
  rw [bools_len] at e7 z7 hc7 hy7
  rw [ints_len] at e8 z8 hc8 hy8
  subst e7 z7 e8 z8
  have s1 := l1.null
  have s2 := l2.null
  have s3 := l1.fmts
  have s4 := l2.fmts
  by_cases hnl : a.null.length = b.null.length
  case neg =>
    have dN : decide ((a.null.length : Int) = (b.null.length : Int)) = false := by simp; omega
    have hF : decide (a = b) = false := decide_eq_false (fun e => hnl (by rw [e]))
    rw [hF]
    clear hF k1 k2 k3 k4 k5 m1 m2 m3 m4 m5 l1 l2
    unfold askV u8
    go_enter Try.func11, Try.ntmps11
    go_wp2
    go_ret
    exact ⟨rfl, ((Below.refl _ _).alloc (Nat.le_refl _) _).alloc (by simp) _⟩
  by_cases hfl : a.formats.length = b.formats.length
  case neg =>
    have dN : decide ((a.formats.length : Int) = (b.formats.length : Int)) = false := by simp; omega
    have hF : decide (a = b) = false := decide_eq_false (fun e => hfl (by rw [e]))
    rw [hF]
    clear hF k1 k2 k3 k4 k5 m1 m2 m3 m4 m5 l1 l2
    unfold askV u8
    go_enter Try.func11, Try.ntmps11
    go_wp2
    go_ret
    exact ⟨rfl, ((Below.refl _ _).alloc (Nat.le_refl _) _).alloc (by simp) _⟩
  have hs : ∀ {v xs}, LR (fun i => i < w.heap.size) w v xs → LR (fun i => i < w.heap.size) (two w a b kv vv av (.slice A7 a.null.length c7) (.slice A8 a.formats.length c8) kv2 vv2 av2 (.slice B7 b.null.length y7) (.slice B8 b.formats.length y8)) v xs := fun h =>
    h.step (fun i hi => (Below.heap_alloc (w.alloc _) _ i (by simp; omega)).trans (Below.heap_alloc w _ i hi)) (fun _ h => h)
  have q1 : Blk (two w a b kv vv av (.slice A7 a.null.length c7) (.slice A8 a.formats.length c8) kv2 vv2 av2 (.slice B7 b.null.length y7) (.slice B8 b.formats.length y8)) w.heap.size 29 (askV a kv vv av (.slice A7 a.null.length c7) (.slice A8 a.formats.length c8)) := (Blk.new w _ _).alloc _
  have q2 : Blk (two w a b kv vv av (.slice A7 a.null.length c7) (.slice A8 a.formats.length c8) kv2 vv2 av2 (.slice B7 b.null.length y7) (.slice B8 b.formats.length y8)) (w.heap.size + 1) 29 (askV b kv2 vv2 av2 (.slice B7 b.null.length y7) (.slice B8 b.formats.length y8)) := by
    have := Blk.new (w.alloc (.cells (askV a kv vv av (.slice A7 a.null.length c7) (.slice A8 a.formats.length c8)) 29)) 29 (askV b kv2 vv2 av2 (.slice B7 b.null.length y7) (.slice B8 b.formats.length y8))
    rwa [show (w.alloc (.cells (askV a kv vv av (.slice A7 a.null.length c7) (.slice A8 a.formats.length c8)) 29)).heap.size = w.heap.size + 1 by simp] at this
  have hB : Below w.heap.size w (two w a b kv vv av (.slice A7 a.null.length c7) (.slice A8 a.formats.length c8) kv2 vv2 av2 (.slice B7 b.null.length y7) (.slice B8 b.formats.length y8)) := ((Below.refl _ _).alloc (Nat.le_refl _) _).alloc (by simp) _
  have hN := hs k4
  have hN2 := hs m4
  have hF := hs k5
  have hF2 := hs m5
  have g0 : ((a.kind.toNat : Int) == (b.kind.toNat : Int)) = decide (a.kind = b.kind) := u8_beq _ _
  have g1 : ((ba a.name).toList == (ba b.name).toList) = decide (a.name = b.name) := ba_beq _ _
  have g2 : ((ba a.portal).toList == (ba b.portal).toList) = decide (a.portal = b.portal) := ba_beq _ _
  have g3 : ((ba a.sql).toList == (ba b.sql).toList) = decide (a.sql = b.sql) := ba_beq _ _
  have g4 := fun n => texts_any ((two w a b kv vv av (.slice A7 a.null.length c7) (.slice A8 a.formats.length c8) kv2 vv2 av2 (.slice B7 b.null.length y7) (.slice B8 b.formats.length y8)).drewN n) kv kv2 a.keys b.keys (show LR _ _ _ _ from hs k1) (show LR _ _ _ _ from hs m1) l1.keys l2.keys
  have g5 := fun n => texts_any ((two w a b kv vv av (.slice A7 a.null.length c7) (.slice A8 a.formats.length c8) kv2 vv2 av2 (.slice B7 b.null.length y7) (.slice B8 b.formats.length y8)).drewN n) vv vv2 a.vals b.vals (show LR _ _ _ _ from hs k2) (show LR _ _ _ _ from hs m2) l1.vals l2.vals
  have g6 := fun n => texts_any ((two w a b kv vv av (.slice A7 a.null.length c7) (.slice A8 a.formats.length c8) kv2 vv2 av2 (.slice B7 b.null.length y7) (.slice B8 b.formats.length y8)).drewN n) av av2 a.args b.args (show LR _ _ _ _ from hs k3) (show LR _ _ _ _ from hs m3) l1.args l2.args
  have g7 : (a.most == b.most) = decide (a.most = b.most) := int_beq _ _
  have g8 : ((a.what.toNat : Int) == (b.what.toNat : Int)) = decide (a.what = b.what) := u8_beq _ _
  have g9 : (a.cancel == b.cancel) = decide (a.cancel = b.cancel) := bool_beq _ _
  have g10 : (a.pid == b.pid) = decide (a.pid = b.pid) := int_beq _ _
  have g11 : (a.secret == b.secret) = decide (a.secret = b.secret) := int_beq _ _
  have hE := ask_dec12 a b
  clear hs k1 k2 k3 k4 k5 m1 m2 m3 m4 m5 l1 l2
  generalize decide (a.kind = b.kind) = b0 at *
  generalize decide (a.name = b.name) = b1 at *
  generalize decide (a.portal = b.portal) = b2 at *
  generalize decide (a.sql = b.sql) = b3 at *
  generalize decide (a.keys = b.keys) = b4 at *
  generalize decide (a.vals = b.vals) = b5 at *
  generalize decide (a.args = b.args) = b6 at *
  generalize decide (a.most = b.most) = b7 at *
  generalize decide (a.what = b.what) = b8 at *
  generalize decide (a.cancel = b.cancel) = b9 at *
  generalize decide (a.pid = b.pid) = b10 at *
  generalize decide (a.secret = b.secret) = b11 at *
  have G0 := Lib.hid g0
  clear g0
  have G1 := Lib.hid g1
  clear g1
  have G2 := Lib.hid g2
  clear g2
  have G3 := Lib.hid g3
  clear g3
  have G4 := Lib.hid g4
  clear g4
  have G5 := Lib.hid g5
  clear g5
  have G6 := Lib.hid g6
  clear g6
  have G7 := Lib.hid g7
  clear g7
  have G8 := Lib.hid g8
  clear g8
  have G9 := Lib.hid g9
  clear g9
  have G10 := Lib.hid g10
  clear g10
  have G11 := Lib.hid g11
  clear g11
  have HE := Lib.hid hE
  have Q1 := Lib.hid q1
  have Q2 := Lib.hid q2
  have HB := Lib.hid hB
  have HN := Lib.hid hN
  have HN2 := Lib.hid hN2
  have HF := Lib.hid hF
  have HF2 := Lib.hid hF2
  clear hE q1 q2 hB hN hN2 hF hF2
  have dN : ((a.null.length : Int) != (b.null.length : Int)) = false := by simp; omega
  have dF : ((a.formats.length : Int) != (b.formats.length : Int)) = false := by simp; omega
  have k27 := Q1.out.cell 7
  have k28 := Q1.out.cell 8
  have k37 := Q2.out.cell 7
  have k38 := Q2.out.cell 8
  have hc7' : (two w a b kv vv av (.slice A7 a.null.length c7) (.slice A8 a.formats.length c8) kv2 vv2 av2 (.slice B7 b.null.length y7) (.slice B8 b.formats.length y8)).cell? ⟨w.heap.size, 7, none⟩ = some (.slice A7 a.null.length c7) := k27
  have hc8' : (two w a b kv vv av (.slice A7 a.null.length c7) (.slice A8 a.formats.length c8) kv2 vv2 av2 (.slice B7 b.null.length y7) (.slice B8 b.formats.length y8)).cell? ⟨w.heap.size, 8, none⟩ = some (.slice A8 a.formats.length c8) := k28
  have hd7' : (two w a b kv vv av (.slice A7 a.null.length c7) (.slice A8 a.formats.length c8) kv2 vv2 av2 (.slice B7 b.null.length y7) (.slice B8 b.formats.length y8)).cell? ⟨w.heap.size + 1, 7, none⟩ = some (.slice B7 b.null.length y7) := k37
  have hd8' : (two w a b kv vv av (.slice A7 a.null.length c7) (.slice A8 a.formats.length c8) kv2 vv2 av2 (.slice B7 b.null.length y7) (.slice B8 b.formats.length y8)).cell? ⟨w.heap.size + 1, 8, none⟩ = some (.slice B8 b.formats.length y8) := k38
  clear k27 k28 k37 k38
  have HNL := Lib.hid hnl
  have HFL := Lib.hid hfl
  clear hnl hfl
  go_enter Try.func11, Try.ntmps11
  go_upto_region 1 with fail
  change Code.wp _ _ _ _ (two w a b kv vv av (.slice A7 a.null.length c7) (.slice A8 a.formats.length c8) kv2 vv2 av2 (.slice B7 b.null.length y7) (.slice B8 b.formats.length y8))
  generalize hW : (two w a b kv vv av (.slice A7 a.null.length c7) (.slice A8 a.formats.length c8) kv2 vv2 av2 (.slice B7 b.null.length y7) (.slice B8 b.formats.length y8)) = W at *
  go_wp2
  go_loopw [5] (fun i wr => ∃ k n : Nat, k ≤ a.null.length ∧ i = .int .i64 k ∧ wr = W.drewN n ∧ a.null.take k = b.null.take k) (fun i _ => a.null.length - (intOf i).toNat)
  case atStart => exact ⟨0, 0, Nat.zero_le _, rfl, rfl, by simp⟩
  case round =>
    obtain ⟨k, n, hk, rfl, rfl, hs⟩ := hrel
    have HS := Lib.hid hs
    clear hs
    by_cases hlt : k < a.null.length
    · have hlt2 : k < b.null.length := by rw [← HNL.out]; exact hlt
      obtain ⟨p, o, rfl, hp, hg⟩ := HN.out.addr (ne_bools hlt)
      obtain ⟨p2, o2, rfl, hp2, hg2⟩ := HN2.out.addr (ne_bools hlt2)
      have x := hg k _ (bools_get a.null k hlt)
      have x2 := hg2 k _ (bools_get b.null k hlt2)
      clear hg hg2
      have i0 : (0 : Int) ≤ (k : Int) := by omega
      have i1 : (k : Int) < (a.null.length : Int) := by omega
      have i2 : (k : Int) < (b.null.length : Int) := by omega
      by_cases hb : a.null[k] = b.null[k]
      · have HB1 := Lib.hid (take_both a.null b.null k hlt hlt2 HS.out hb)
        rw [hb] at x
        clear hb
        generalize b.null[k] = bk at *
        go_wp2
        go_quiet (fail)
        go_wp2
        go_roundw
        case rel => exact ⟨k + 1, _, by omega, by go_num, rfl, HB1.out⟩
        case measure => simp [intOf]; omega
      · have HB1 := Lib.hid (ne_at a.null b.null k hlt hlt2 hb)
        have hbb : (a.null[k] == b.null[k]) = false := beq_eq_false_iff_ne.2 hb
        have hbn : (a.null[k] != b.null[k]) = true := by simp [bne, hbb]
        clear hb
        generalize a.null[k] = ak at *
        generalize b.null[k] = bk at *
        go_wp2
        go_quiet (fail)
        go_wp2
        go_ret
        exact ⟨by rw [decide_eq_false (fun e => HB1.out (by rw [e]))]; rfl, by rw [drewN_two]; exact below_drewN HB.out _⟩
    · have HNE := Lib.hid (take_all a.null b.null k (by omega) (by rw [← HNL.out]; omega) HS.out)
      clear HS
      go_wp2
      go_loopw [6] (fun i wr => ∃ k n : Nat, k ≤ a.formats.length ∧ i = .int .i64 k ∧ wr = W.drewN n ∧ a.formats.take k = b.formats.take k) (fun i _ => a.formats.length - (intOf i).toNat)
      case atStart => exact ⟨0, _, Nat.zero_le _, rfl, rfl, by simp⟩
      case round =>
        obtain ⟨k2, n, hk2, rfl, rfl, hs⟩ := hrel
        have HS := Lib.hid hs
        clear hs
        by_cases hlt : k2 < a.formats.length
        · have hlt2 : k2 < b.formats.length := by rw [← HFL.out]; exact hlt
          obtain ⟨p, o, rfl, hp, hg⟩ := HF.out.addr (ne_ints hlt)
          obtain ⟨p2, o2, rfl, hp2, hg2⟩ := HF2.out.addr (ne_ints hlt2)
          have x := hg k2 _ (ints_get a.formats k2 hlt)
          have x2 := hg2 k2 _ (ints_get b.formats k2 hlt2)
          clear hg hg2
          have i0 : (0 : Int) ≤ (k2 : Int) := by omega
          have i1 : (k2 : Int) < (a.formats.length : Int) := by omega
          have i2 : (k2 : Int) < (b.formats.length : Int) := by omega
          by_cases hb : a.formats[k2] = b.formats[k2]
          · have HB1 := Lib.hid (take_both a.formats b.formats k2 hlt hlt2 HS.out hb)
            rw [hb] at x
            clear hb
            generalize b.formats[k2] = bk at *
            go_wp2
            go_quiet (fail)
            go_wp2
            go_roundw
            case rel => exact ⟨k2 + 1, _, by omega, by go_num, rfl, HB1.out⟩
            case measure => simp [intOf]; omega
          · have HB1 := Lib.hid (ne_at a.formats b.formats k2 hlt hlt2 hb)
            have hbb : (a.formats[k2] == b.formats[k2]) = false := beq_eq_false_iff_ne.2 hb
            have hbn : (a.formats[k2] != b.formats[k2]) = true := by simp [bne, hbb]
            clear hb
            generalize a.formats[k2] = ak at *
            generalize b.formats[k2] = bk at *
            go_wp2
            go_quiet (fail)
            go_wp2
            go_ret
            exact ⟨by rw [decide_eq_false (fun e => HB1.out (by rw [e]))]; rfl, by rw [drewN_two]; exact below_drewN HB.out _⟩
        · have HFE := Lib.hid (take_all a.formats b.formats k2 (by omega) (by rw [← HFL.out]; omega) HS.out)
          clear HS
          have HE2 := Lib.hid (HE.out HNE.out HFE.out)
          clear HE HNE HFE
          go_upto_region 13 with fail
          refine wp_region_lit ?_
          change wpList _ _ _ _ _ (W.drewN n)
          generalize n = N
          refine first_eq (d := 59) (Fr.refl (n := 141) (by kernel_rfl)) 2 3 0 29 5 b0 (by decide) (by decide) (by decide) (.pointer (some ⟨w.heap.size, 0, none⟩)) (.pointer (some ⟨w.heap.size, 0, none⟩)) (u8 a.kind) (.pointer (some ⟨w.heap.size + 1, 0, none⟩)) (.pointer (some ⟨w.heap.size + 1, 0, none⟩)) (u8 b.kind) (by kernel_rfl) (by kernel_rfl) (f_ask _ 0 (by decide) _) (l_u8 _ _ _ ((Q1.out.drewN N).cell 0)) (f_ask _ 0 (by decide) _) (l_u8 _ _ _ ((Q2.out.drewN N).cell 0)) (fun _ _ => by rw [← G0.out]; exact e_u8 _ _ _ _ _) (fun Z0 H0 r0 => ?_)
          have x2_1 : Z0.tmps.getD 2 undef = .pointer (some ⟨w.heap.size, 0, none⟩) := (H0.low 2 (by decide)).trans (by kernel_rfl)
          have x3_1 : Z0.tmps.getD 3 undef = .pointer (some ⟨w.heap.size + 1, 0, none⟩) := (H0.low 3 (by decide)).trans (by kernel_rfl)
          refine conj_eq (m := 64) (gi := 5) (Fr.refl H0.size) 63 2 3 1 29 9 (b0) b1 r0 (by kernel_rfl) (by decide) (by decide) (by decide) (.pointer (some ⟨w.heap.size, 0, none⟩)) (.pointer (some ⟨w.heap.size, 1, none⟩)) (.string (ba a.name)) (.pointer (some ⟨w.heap.size + 1, 0, none⟩)) (.pointer (some ⟨w.heap.size + 1, 1, none⟩)) (.string (ba b.name)) x2_1 x3_1 (f_ask _ 1 (by decide) _) (l_str _ _ _ ((Q1.out.drewN N).cell 1)) (f_ask _ 1 (by decide) _) (l_str _ _ _ ((Q2.out.drewN N).cell 1)) (fun _ _ => by rw [← G1.out]; exact e_str _ _ _ _ _) (fun Z1 H1 r1 => ?_)
          have x2_2 : Z1.tmps.getD 2 undef = .pointer (some ⟨w.heap.size, 0, none⟩) := (H1.low 2 (by decide)).trans x2_1
          have x3_2 : Z1.tmps.getD 3 undef = .pointer (some ⟨w.heap.size + 1, 0, none⟩) := (H1.low 3 (by decide)).trans x3_1
          refine conj_eq (m := 71) (gi := 12) (Fr.refl H1.size) 70 2 3 2 29 9 (b0 && b1) b2 r1 (by kernel_rfl) (by decide) (by decide) (by decide) (.pointer (some ⟨w.heap.size, 0, none⟩)) (.pointer (some ⟨w.heap.size, 2, none⟩)) (.string (ba a.portal)) (.pointer (some ⟨w.heap.size + 1, 0, none⟩)) (.pointer (some ⟨w.heap.size + 1, 2, none⟩)) (.string (ba b.portal)) x2_2 x3_2 (f_ask _ 2 (by decide) _) (l_str _ _ _ ((Q1.out.drewN N).cell 2)) (f_ask _ 2 (by decide) _) (l_str _ _ _ ((Q2.out.drewN N).cell 2)) (fun _ _ => by rw [← G2.out]; exact e_str _ _ _ _ _) (fun Z2 H2 r2 => ?_)
          have x2_3 : Z2.tmps.getD 2 undef = .pointer (some ⟨w.heap.size, 0, none⟩) := (H2.low 2 (by decide)).trans x2_2
          have x3_3 : Z2.tmps.getD 3 undef = .pointer (some ⟨w.heap.size + 1, 0, none⟩) := (H2.low 3 (by decide)).trans x3_2
          refine conj_eq (m := 78) (gi := 19) (Fr.refl H2.size) 77 2 3 3 29 9 (b0 && b1 && b2) b3 r2 (by kernel_rfl) (by decide) (by decide) (by decide) (.pointer (some ⟨w.heap.size, 0, none⟩)) (.pointer (some ⟨w.heap.size, 3, none⟩)) (.string (ba a.sql)) (.pointer (some ⟨w.heap.size + 1, 0, none⟩)) (.pointer (some ⟨w.heap.size + 1, 3, none⟩)) (.string (ba b.sql)) x2_3 x3_3 (f_ask _ 3 (by decide) _) (l_str _ _ _ ((Q1.out.drewN N).cell 3)) (f_ask _ 3 (by decide) _) (l_str _ _ _ ((Q2.out.drewN N).cell 3)) (fun _ _ => by rw [← G3.out]; exact e_str _ _ _ _ _) (fun Z3 H3 r3 => ?_)
          have x2_4 : Z3.tmps.getD 2 undef = .pointer (some ⟨w.heap.size, 0, none⟩) := (H3.low 2 (by decide)).trans x2_3
          have x3_4 : Z3.tmps.getD 3 undef = .pointer (some ⟨w.heap.size + 1, 0, none⟩) := (H3.low 3 (by decide)).trans x3_3
          refine conj_call (m := 85) (gi := 26) W N (Fr.refl H3.size) 84 2 3 4 29 25 21 (b0 && b1 && b2 && b3) b4 r3 (by kernel_rfl) (by decide) (by decide) (by decide) (.pointer (some ⟨w.heap.size, 0, none⟩)) (.pointer (some ⟨w.heap.size, 4, none⟩)) (kv) (.pointer (some ⟨w.heap.size + 1, 0, none⟩)) (.pointer (some ⟨w.heap.size + 1, 4, none⟩)) (kv2) x2_4 x3_4 (f_ask _ 4 (by decide) _) (l_strs _ _ _ ((Q1.out.drewN N).cell 4)) (f_ask _ 4 (by decide) _) (l_strs _ _ _ ((Q2.out.drewN N).cell 4)) (enters_of Try.func21 (by kernel_rfl) rfl) (G4.out N) (fun Z4 N' H4 r4 => ?_)
          generalize N' = N
          have x2_5 : Z4.tmps.getD 2 undef = .pointer (some ⟨w.heap.size, 0, none⟩) := (H4.low 2 (by decide)).trans x2_4
          have x3_5 : Z4.tmps.getD 3 undef = .pointer (some ⟨w.heap.size + 1, 0, none⟩) := (H4.low 3 (by decide)).trans x3_4
          refine conj_call (m := 92) (gi := 33) W N (Fr.refl H4.size) 91 2 3 5 29 25 21 (b0 && b1 && b2 && b3 && b4) b5 r4 (by kernel_rfl) (by decide) (by decide) (by decide) (.pointer (some ⟨w.heap.size, 0, none⟩)) (.pointer (some ⟨w.heap.size, 5, none⟩)) (vv) (.pointer (some ⟨w.heap.size + 1, 0, none⟩)) (.pointer (some ⟨w.heap.size + 1, 5, none⟩)) (vv2) x2_5 x3_5 (f_ask _ 5 (by decide) _) (l_strs _ _ _ ((Q1.out.drewN N).cell 5)) (f_ask _ 5 (by decide) _) (l_strs _ _ _ ((Q2.out.drewN N).cell 5)) (enters_of Try.func21 (by kernel_rfl) rfl) (G5.out N) (fun Z5 N' H5 r5 => ?_)
          generalize N' = N
          have x2_6 : Z5.tmps.getD 2 undef = .pointer (some ⟨w.heap.size, 0, none⟩) := (H5.low 2 (by decide)).trans x2_5
          have x3_6 : Z5.tmps.getD 3 undef = .pointer (some ⟨w.heap.size + 1, 0, none⟩) := (H5.low 3 (by decide)).trans x3_5
          refine conj_call (m := 99) (gi := 40) W N (Fr.refl H5.size) 98 2 3 6 29 25 21 (b0 && b1 && b2 && b3 && b4 && b5) b6 r5 (by kernel_rfl) (by decide) (by decide) (by decide) (.pointer (some ⟨w.heap.size, 0, none⟩)) (.pointer (some ⟨w.heap.size, 6, none⟩)) (av) (.pointer (some ⟨w.heap.size + 1, 0, none⟩)) (.pointer (some ⟨w.heap.size + 1, 6, none⟩)) (av2) x2_6 x3_6 (f_ask _ 6 (by decide) _) (l_strs _ _ _ ((Q1.out.drewN N).cell 6)) (f_ask _ 6 (by decide) _) (l_strs _ _ _ ((Q2.out.drewN N).cell 6)) (enters_of Try.func21 (by kernel_rfl) rfl) (G6.out N) (fun Z6 N' H6 r6 => ?_)
          generalize N' = N
          have x2_7 : Z6.tmps.getD 2 undef = .pointer (some ⟨w.heap.size, 0, none⟩) := (H6.low 2 (by decide)).trans x2_6
          have x3_7 : Z6.tmps.getD 3 undef = .pointer (some ⟨w.heap.size + 1, 0, none⟩) := (H6.low 3 (by decide)).trans x3_6
          refine conj_eq (m := 106) (gi := 47) (Fr.refl H6.size) 105 2 3 9 29 3 (b0 && b1 && b2 && b3 && b4 && b5 && b6) b7 r6 (by kernel_rfl) (by decide) (by decide) (by decide) (.pointer (some ⟨w.heap.size, 0, none⟩)) (.pointer (some ⟨w.heap.size, 9, none⟩)) (.int .i64 a.most) (.pointer (some ⟨w.heap.size + 1, 0, none⟩)) (.pointer (some ⟨w.heap.size + 1, 9, none⟩)) (.int .i64 b.most) x2_7 x3_7 (f_ask _ 9 (by decide) _) (l_int _ _ _ ((Q1.out.drewN N).cell 9)) (f_ask _ 9 (by decide) _) (l_int _ _ _ ((Q2.out.drewN N).cell 9)) (fun _ _ => by rw [← G7.out]; exact e_int _ _ _ _ _) (fun Z7 H7 r7 => ?_)
          have x2_8 : Z7.tmps.getD 2 undef = .pointer (some ⟨w.heap.size, 0, none⟩) := (H7.low 2 (by decide)).trans x2_7
          have x3_8 : Z7.tmps.getD 3 undef = .pointer (some ⟨w.heap.size + 1, 0, none⟩) := (H7.low 3 (by decide)).trans x3_7
          refine conj_eq (m := 113) (gi := 54) (Fr.refl H7.size) 112 2 3 10 29 5 (b0 && b1 && b2 && b3 && b4 && b5 && b6 && b7) b8 r7 (by kernel_rfl) (by decide) (by decide) (by decide) (.pointer (some ⟨w.heap.size, 0, none⟩)) (.pointer (some ⟨w.heap.size, 10, none⟩)) (u8 a.what) (.pointer (some ⟨w.heap.size + 1, 0, none⟩)) (.pointer (some ⟨w.heap.size + 1, 10, none⟩)) (u8 b.what) x2_8 x3_8 (f_ask _ 10 (by decide) _) (l_u8 _ _ _ ((Q1.out.drewN N).cell 10)) (f_ask _ 10 (by decide) _) (l_u8 _ _ _ ((Q2.out.drewN N).cell 10)) (fun _ _ => by rw [← G8.out]; exact e_u8 _ _ _ _ _) (fun Z8 H8 r8 => ?_)
          have x2_9 : Z8.tmps.getD 2 undef = .pointer (some ⟨w.heap.size, 0, none⟩) := (H8.low 2 (by decide)).trans x2_8
          have x3_9 : Z8.tmps.getD 3 undef = .pointer (some ⟨w.heap.size + 1, 0, none⟩) := (H8.low 3 (by decide)).trans x3_8
          refine conj_eq (m := 120) (gi := 61) (Fr.refl H8.size) 119 2 3 11 29 4 (b0 && b1 && b2 && b3 && b4 && b5 && b6 && b7 && b8) b9 r8 (by kernel_rfl) (by decide) (by decide) (by decide) (.pointer (some ⟨w.heap.size, 0, none⟩)) (.pointer (some ⟨w.heap.size, 11, none⟩)) (.bool a.cancel) (.pointer (some ⟨w.heap.size + 1, 0, none⟩)) (.pointer (some ⟨w.heap.size + 1, 11, none⟩)) (.bool b.cancel) x2_9 x3_9 (f_ask _ 11 (by decide) _) (l_bool _ _ _ ((Q1.out.drewN N).cell 11)) (f_ask _ 11 (by decide) _) (l_bool _ _ _ ((Q2.out.drewN N).cell 11)) (fun _ _ => by rw [← G9.out]; exact e_bool _ _ _ _ _) (fun Z9 H9 r9 => ?_)
          have x2_10 : Z9.tmps.getD 2 undef = .pointer (some ⟨w.heap.size, 0, none⟩) := (H9.low 2 (by decide)).trans x2_9
          have x3_10 : Z9.tmps.getD 3 undef = .pointer (some ⟨w.heap.size + 1, 0, none⟩) := (H9.low 3 (by decide)).trans x3_9
          refine conj_eq (m := 127) (gi := 68) (Fr.refl H9.size) 126 2 3 12 29 3 (b0 && b1 && b2 && b3 && b4 && b5 && b6 && b7 && b8 && b9) b10 r9 (by kernel_rfl) (by decide) (by decide) (by decide) (.pointer (some ⟨w.heap.size, 0, none⟩)) (.pointer (some ⟨w.heap.size, 12, none⟩)) (.int .i64 a.pid) (.pointer (some ⟨w.heap.size + 1, 0, none⟩)) (.pointer (some ⟨w.heap.size + 1, 12, none⟩)) (.int .i64 b.pid) x2_10 x3_10 (f_ask _ 12 (by decide) _) (l_int _ _ _ ((Q1.out.drewN N).cell 12)) (f_ask _ 12 (by decide) _) (l_int _ _ _ ((Q2.out.drewN N).cell 12)) (fun _ _ => by rw [← G10.out]; exact e_int _ _ _ _ _) (fun Z10 H10 r10 => ?_)
          have x2_11 : Z10.tmps.getD 2 undef = .pointer (some ⟨w.heap.size, 0, none⟩) := (H10.low 2 (by decide)).trans x2_10
          have x3_11 : Z10.tmps.getD 3 undef = .pointer (some ⟨w.heap.size + 1, 0, none⟩) := (H10.low 3 (by decide)).trans x3_10
          refine conj_eq (m := 134) (gi := 75) (Fr.refl H10.size) 133 2 3 13 29 3 (b0 && b1 && b2 && b3 && b4 && b5 && b6 && b7 && b8 && b9 && b10) b11 r10 (by kernel_rfl) (by decide) (by decide) (by decide) (.pointer (some ⟨w.heap.size, 0, none⟩)) (.pointer (some ⟨w.heap.size, 13, none⟩)) (.int .i64 a.secret) (.pointer (some ⟨w.heap.size + 1, 0, none⟩)) (.pointer (some ⟨w.heap.size + 1, 13, none⟩)) (.int .i64 b.secret) x2_11 x3_11 (f_ask _ 13 (by decide) _) (l_int _ _ _ ((Q1.out.drewN N).cell 13)) (f_ask _ 13 (by decide) _) (l_int _ _ _ ((Q2.out.drewN N).cell 13)) (fun _ _ => by rw [← G11.out]; exact e_int _ _ _ _ _) (fun Z11 H11 r11 => ?_)
          refine s_assign (.tmp 140) _ rfl r11 (wanted_none rfl) ?_
          have d13 : Z11.defers = [] := by rw [H11.defers, H10.defers, H9.defers, H8.defers, H7.defers, H6.defers, H5.defers, H4.defers, H3.defers, H2.defers, H1.defers, H0.defers]
          have hr := H11.get 4 (.bool (b0 && b1 && b2 && b3 && b4 && b5 && b6 && b7 && b8 && b9 && b10 && b11)) (by decide) 4
          rw [if_pos rfl] at hr
          have hd : (Z11.put (some 4) (.bool (b0 && b1 && b2 && b3 && b4 && b5 && b6 && b7 && b8 && b9 && b10 && b11))).defers = [] := d13
          change wpList _ _ _ [] (Z11.put (some 4) (.bool (b0 && b1 && b2 && b3 && b4 && b5 && b6 && b7 && b8 && b9 && b10 && b11))) _
          generalize Z11.put (some 4) (.bool (b0 && b1 && b2 && b3 && b4 && b5 && b6 && b7 && b8 && b9 && b10 && b11)) = a' at *
          refine wpList_nil ?_
          clear r0 r1 r2 r3 r4 r5 r6 r7 r8 r9 r10 r11 H0 H1 H2 H3 H4 H5 H6 H7 H8 H9 H10 H11
          go_wp2
          exact bodyPost_ret (v := .bool (b0 && b1 && b2 && b3 && b4 && b5 && b6 && b7 && b8 && b9 && b10 && b11)) ((results_tmp rfl _ _ _).trans (by rw [hr])) hd ⟨by rw [HE2.out], below_drewN HB.out _⟩
end Go.Proofs.Ytojgeilihoilnaa
