/- What the document's own lists answers. Condition: Few. -/
import Derived.Test.YtnjifbgjglniaaaBkra
import Derived.Test.YtnjifbgjglniaaaBkb
import Derived.Test.YtnjifbgjglniaaaBks
namespace Go.Proofs.Ytnjifbgjglniaaa.BK
open Go.Proofs.Ytnjifbgjglniaaa
open Go.ChangeShapes Go.WideShapes Go.ChangeAt Go.RowKit
set_option linter.unusedVariables false
set_option linter.unusedSimpArgs false
set_option maxRecDepth 100000
attribute [local go_sem ↓] Go.wp_at_zero Go.wp_at_succ

/-- what the document's lists tells -/
structure ListsP (a : Tell) : Prop where
  keys : a.keys.length ≤ 100
  vals : a.vals.length ≤ 100
  keys0 : ∀ t ∈ a.keys, 0 ∉ t
  vals0 : a.kind ≠ 68 → ∀ t ∈ a.vals, 0 ∉ t
  row : a.kind = 68 → a.null.length = a.vals.length ∧ ∀ p ∈ a.vals.zip a.null, p.2 = true → p.1 = []
  one : a.kind = 83 → a.vals.length = 1
  pair : a.kind = 69 ∨ a.kind = 78 → a.keys.length = a.vals.length ∧ ∀ t ∈ a.keys, t.length = 1
def RLP (Q : Prop) (w : World) (e : Ending) (w' : World) : Prop := ∃ b, e = .returned (.bool b) ∧ (b = true ↔ Q) ∧ Below w.heap.size w w'
theorem rlp_no {Q : Prop} {w w' : World} (h : ¬ Q) (hB : Below w.heap.size w w') : RLP Q w (.returned (.bool false)) w' := ⟨false, rfl, ⟨fun e => (Bool.false_ne_true e).elim, fun e => absurd e h⟩, hB⟩
theorem rlp_yes {Q : Prop} {w w' : World} (h : Q) (hB : Below w.heap.size w w') : RLP Q w (.returned (.bool true)) w' := ⟨true, rfl, ⟨fun _ => h, fun _ => rfl⟩, hB⟩
theorem rplain_b {P : Nat → Prop} (v : Value) (l : List Tx) (w : World) (b : Bool) (hb : decide (∀ t ∈ l, 0 ∉ t) = b) (h : LR P w v (strs l)) (hl : l.length ≤ 1000) (ht : ∀ t ∈ l, t.length ≤ 10000) :
    Calls Try.prog 29 #[v] w fun e w' => e = .returned (.bool b) ∧ w' = w := by
  rw [← hb]; exact rplain_any v l w h hl ht
theorem lr_box {w : World} {v : Value} {xs : List Value} (h : LR (fun i => i < w.heap.size) w v xs) (o : Obj) : LR (fun i => i < w.heap.size) (w.alloc o) v xs :=
  h.step (fun b hb => Below.heap_alloc w o b hb) (fun _ h => h)
theorem few_k {a : Tell} (f : Few a) : a.keys.length ≤ 1000 := by have := f.keys; omega
theorem few_v {a : Tell} (f : Few a) : a.vals.length ≤ 1000 := by have := f.vals; omega
theorem u8_ne (x y : UInt8) (h : x ≠ y) : ((x.toNat : Int) == (y.toNat : Int)) = false := by
  rw [beq_eq_false_iff_ne]
  intro e
  exact h (UInt8.toNat_inj.1 (Int.ofNat_inj.1 e))
theorem zip_mem (az : List Tx) (ns : List Bool) (k : Nat) (h : k < az.length) (h2 : k < ns.length) : (az[k], ns[k]) ∈ az.zip ns := by
  have hk : k < (az.zip ns).length := by rw [List.length_zip]; omega
  have e : (az.zip ns)[k] = (az[k], ns[k]) := by simp
  rw [← e]; exact List.getElem_mem hk
theorem zip_take (az : List Tx) (ns : List Bool) (k : Nat) (h : k < az.length) (h2 : k < ns.length) : (az.take (k + 1)).zip (ns.take (k + 1)) = (az.take k).zip (ns.take k) ++ [(az[k], ns[k])] := by
  rw [List.take_succ_eq_append_getElem h, List.take_succ_eq_append_getElem h2, List.zip_append (by rw [List.length_take, List.length_take]; omega)]
  rfl
set_option maxHeartbeats 2000000 in
theorem rl_0 (w : World) (a : Tell) (v : Value) (f : Few a) (har : AR (fun i => i < w.heap.size) w v a) (d0 : decide ((100 : Int) < (a.keys.length : Int)) = true) :
    Calls Try.prog 28 #[v] w fun e w' => RLP (ListsP a) w e w' := by
  obtain ⟨kv, vv, nv, rfl, k1, k2, k3⟩ := har.ex
  clear har
  obtain ⟨A1, c1, e1, z1, y1⟩ := k1.form
  rw [strs_len] at e1 z1
  subst e1
  obtain ⟨A2, c2, e2, z2, y2⟩ := k2.form
  rw [strs_len] at e2 z2
  subst e2
  obtain ⟨A3, c3, e3, z3, y3⟩ := k3.form
  rw [bools_len] at e3 z3
  subst e3
  rw [box_cut]
  have HK := Lib.hid k1
  have HV := Lib.hid k2
  have HN := Lib.hid k3
  have HF := Lib.hid f
  clear k1 k2 k3 f 
  go_enter Try.func28, Try.ntmps28
  go_wp2
  go_ret
  exact rlp_no (fun h => by have := h.keys; have := of_decide_eq_true d0; omega) ((Below.refl _ _).alloc (Nat.le_refl _) _)
set_option maxHeartbeats 2000000 in
theorem rl_1 (w : World) (a : Tell) (v : Value) (f : Few a) (har : AR (fun i => i < w.heap.size) w v a) (d0 : decide ((100 : Int) < (a.keys.length : Int)) = false) (d1 : decide ((100 : Int) < (a.vals.length : Int)) = true) :
    Calls Try.prog 28 #[v] w fun e w' => RLP (ListsP a) w e w' := by
  obtain ⟨kv, vv, nv, rfl, k1, k2, k3⟩ := har.ex
  clear har
  obtain ⟨A1, c1, e1, z1, y1⟩ := k1.form
  rw [strs_len] at e1 z1
  subst e1
  obtain ⟨A2, c2, e2, z2, y2⟩ := k2.form
  rw [strs_len] at e2 z2
  subst e2
  obtain ⟨A3, c3, e3, z3, y3⟩ := k3.form
  rw [bools_len] at e3 z3
  subst e3
  rw [box_cut]
  have HK := Lib.hid k1
  have HV := Lib.hid k2
  have HN := Lib.hid k3
  have HF := Lib.hid f
  clear k1 k2 k3 f 
  go_enter Try.func28, Try.ntmps28
  go_wp2
  go_ret
  exact rlp_no (fun h => by have := h.vals; have := of_decide_eq_true d1; omega) ((Below.refl _ _).alloc (Nat.le_refl _) _)
set_option maxHeartbeats 2000000 in
theorem rl_2 (w : World) (a : Tell) (v : Value) (f : Few a) (har : AR (fun i => i < w.heap.size) w v a) (d0 : decide ((100 : Int) < (a.keys.length : Int)) = false) (d1 : decide ((100 : Int) < (a.vals.length : Int)) = false) (P0 : Hid (decide (∀ t ∈ a.keys, 0 ∉ t) = false)) :
    Calls Try.prog 28 #[v] w fun e w' => RLP (ListsP a) w e w' := by
  obtain ⟨kv, vv, nv, rfl, k1, k2, k3⟩ := har.ex
  clear har
  obtain ⟨A1, c1, e1, z1, y1⟩ := k1.form
  rw [strs_len] at e1 z1
  subst e1
  obtain ⟨A2, c2, e2, z2, y2⟩ := k2.form
  rw [strs_len] at e2 z2
  subst e2
  obtain ⟨A3, c3, e3, z3, y3⟩ := k3.form
  rw [bools_len] at e3 z3
  subst e3
  rw [box_cut]
  have HK := Lib.hid k1
  have HV := Lib.hid k2
  have HN := Lib.hid k3
  have HF := Lib.hid f
  clear k1 k2 k3 f 
  go_enter Try.func28, Try.ntmps28
  go_wp2_with fail
  refine (rplain_b _ a.keys _ false P0.out (lr_box HK.out _) (few_k HF.out) HF.out.keysT).mono ?_; rintro e w2 ⟨rfl, rfl⟩
  go_wp2
  go_ret
  exact rlp_no (fun h => of_decide_eq_false P0.out h.keys0) ((Below.refl _ _).alloc (Nat.le_refl _) _)
set_option maxHeartbeats 2000000 in
theorem rl_3 (w : World) (a : Tell) (v : Value) (f : Few a) (har : AR (fun i => i < w.heap.size) w v a) (d0 : decide ((100 : Int) < (a.keys.length : Int)) = false) (d1 : decide ((100 : Int) < (a.vals.length : Int)) = false) (P0 : Hid (decide (∀ t ∈ a.keys, 0 ∉ t) = true)) (hk : a.kind ≠ 68) (e0 : ((a.kind.toNat : Int) == 68) = false) (P1 : Hid (decide (∀ t ∈ a.vals, 0 ∉ t) = false)) :
    Calls Try.prog 28 #[v] w fun e w' => RLP (ListsP a) w e w' := by
  obtain ⟨kv, vv, nv, rfl, k1, k2, k3⟩ := har.ex
  clear har
  obtain ⟨A1, c1, e1, z1, y1⟩ := k1.form
  rw [strs_len] at e1 z1
  subst e1
  obtain ⟨A2, c2, e2, z2, y2⟩ := k2.form
  rw [strs_len] at e2 z2
  subst e2
  obtain ⟨A3, c3, e3, z3, y3⟩ := k3.form
  rw [bools_len] at e3 z3
  subst e3
  rw [box_cut]
  have HK := Lib.hid k1
  have HV := Lib.hid k2
  have HN := Lib.hid k3
  have HF := Lib.hid f
  have HKN := Lib.hid hk
  clear k1 k2 k3 f hk
  go_enter Try.func28, Try.ntmps28
  have e0b : ((a.kind.toNat : Int) != 68) = true := by simp only [bne, e0]; rfl
  go_wp2_with fail
  refine (rplain_b _ a.keys _ true P0.out (lr_box HK.out _) (few_k HF.out) HF.out.keysT).mono ?_; rintro e w2 ⟨rfl, rfl⟩
  go_wp2_with fail
  refine (rplain_b _ a.vals _ false P1.out (lr_box HV.out _) (few_v HF.out) HF.out.valsT).mono ?_; rintro e w3 ⟨rfl, rfl⟩
  go_wp2
  go_ret
  exact rlp_no (fun h => of_decide_eq_false P1.out (h.vals0 HKN.out)) ((Below.refl _ _).alloc (Nat.le_refl _) _)

set_option maxHeartbeats 2000000 in
theorem rl_other (w : World) (a : Tell) (v : Value) (f : Few a) (har : AR (fun i => i < w.heap.size) w v a) (d0 : decide ((100 : Int) < (a.keys.length : Int)) = false) (d1 : decide ((100 : Int) < (a.vals.length : Int)) = false) (P0 : Hid (decide (∀ t ∈ a.keys, 0 ∉ t) = true)) (g0 : a.kind ≠ 68) (g1 : a.kind ≠ 83) (g2 : ¬ (a.kind = 69 ∨ a.kind = 78)) (e0 : ((a.kind.toNat : Int) == 68) = false) (e1 : ((a.kind.toNat : Int) == 83) = false) (e2 : ((a.kind.toNat : Int) == 69) = false) (e3 : ((a.kind.toNat : Int) == 78) = false) (P1 : Hid (decide (∀ t ∈ a.vals, 0 ∉ t) = true)) :
    Calls Try.prog 28 #[v] w fun e w' => RLP (ListsP a) w e w' := by
  obtain ⟨kv, vv, nv, rfl, k1, k2, k3⟩ := har.ex
  clear har
  obtain ⟨A1, c1, e1, z1, y1⟩ := k1.form
  rw [strs_len] at e1 z1
  subst e1
  obtain ⟨A2, c2, e2, z2, y2⟩ := k2.form
  rw [strs_len] at e2 z2
  subst e2
  obtain ⟨A3, c3, e3, z3, y3⟩ := k3.form
  rw [bools_len] at e3 z3
  subst e3
  rw [box_cut]
  have HK := Lib.hid k1
  have HV := Lib.hid k2
  have HN := Lib.hid k3
  have HF := Lib.hid f
  have G0 := Lib.hid g0
  have G1 := Lib.hid g1
  have G2 := Lib.hid g2
  clear k1 k2 k3 f g0 g1 g2
  go_enter Try.func28, Try.ntmps28
  have e0b : ((a.kind.toNat : Int) != 68) = true := by simp only [bne, e0]; rfl
  go_wp2_with fail
  refine (rplain_b _ a.keys _ true P0.out (lr_box HK.out _) (few_k HF.out) HF.out.keysT).mono ?_; rintro e w2 ⟨rfl, rfl⟩
  go_wp2_with fail
  refine (rplain_b _ a.vals _ true P1.out (lr_box HV.out _) (few_v HF.out) HF.out.valsT).mono ?_; rintro e w3 ⟨rfl, rfl⟩
  go_wp2
  go_ret
  exact rlp_yes ⟨by have := of_decide_eq_false d0; omega, by have := of_decide_eq_false d1; omega, of_decide_eq_true P0.out, fun _ => of_decide_eq_true P1.out, fun e => absurd e G0.out, fun e => absurd e G1.out, fun e => absurd e G2.out⟩ ((Below.refl _ _).alloc (Nat.le_refl _) _)
set_option maxHeartbeats 2000000 in
theorem rl_S (w : World) (a : Tell) (v : Value) (f : Few a) (har : AR (fun i => i < w.heap.size) w v a) (d0 : decide ((100 : Int) < (a.keys.length : Int)) = false) (d1 : decide ((100 : Int) < (a.vals.length : Int)) = false) (P0 : Hid (decide (∀ t ∈ a.keys, 0 ∉ t) = true)) (hk : a.kind = 83) (P1 : Hid (decide (∀ t ∈ a.vals, 0 ∉ t) = true)) (b : Bool) (hb : ((a.vals.length : Int) == 1) = b) :
    Calls Try.prog 28 #[v] w fun e w' => RLP (ListsP a) w e w' := by
  obtain ⟨kv, vv, nv, rfl, k1, k2, k3⟩ := har.ex
  clear har
  obtain ⟨A1, c1, e1, z1, y1⟩ := k1.form
  rw [strs_len] at e1 z1
  subst e1
  obtain ⟨A2, c2, e2, z2, y2⟩ := k2.form
  rw [strs_len] at e2 z2
  subst e2
  obtain ⟨A3, c3, e3, z3, y3⟩ := k3.form
  rw [bools_len] at e3 z3
  subst e3
  rw [box_cut]
  rw [show (a.kind.toNat : Int) = 83 from by rw [hk]; rfl]
  have HK := Lib.hid k1
  have HV := Lib.hid k2
  have HN := Lib.hid k3
  have HF := Lib.hid f
  have HKN := Lib.hid hk
  clear k1 k2 k3 f hk
  go_enter Try.func28, Try.ntmps28
  go_wp2_with fail
  refine (rplain_b _ a.keys _ true P0.out (lr_box HK.out _) (few_k HF.out) HF.out.keysT).mono ?_; rintro e w2 ⟨rfl, rfl⟩
  go_wp2_with fail
  refine (rplain_b _ a.vals _ true P1.out (lr_box HV.out _) (few_v HF.out) HF.out.valsT).mono ?_; rintro e w3 ⟨rfl, rfl⟩
  go_wp2
  go_ret
  refine ⟨b, rfl, ⟨fun e => ?_, fun h => ?_⟩, ((Below.refl _ _).alloc (Nat.le_refl _) _)⟩
  · subst e
    exact ⟨by have := of_decide_eq_false d0; omega, by have := of_decide_eq_false d1; omega, of_decide_eq_true P0.out, fun _ => of_decide_eq_true P1.out, (fun e => by rw [HKN.out] at e; cases e), fun _ => by simp at hb; omega, (fun e => by rw [HKN.out] at e; rcases e with e | e <;> cases e)⟩
  · rw [← hb, h.one HKN.out]; rfl
set_option maxHeartbeats 2000000 in
theorem rl_El (w : World) (a : Tell) (v : Value) (f : Few a) (har : AR (fun i => i < w.heap.size) w v a) (d0 : decide ((100 : Int) < (a.keys.length : Int)) = false) (d1 : decide ((100 : Int) < (a.vals.length : Int)) = false) (P0 : Hid (decide (∀ t ∈ a.keys, 0 ∉ t) = true)) (hk : a.kind = 69) (P1 : Hid (decide (∀ t ∈ a.vals, 0 ∉ t) = true)) (hb : ((a.keys.length : Int) != (a.vals.length : Int)) = true) :
    Calls Try.prog 28 #[v] w fun e w' => RLP (ListsP a) w e w' := by
  obtain ⟨kv, vv, nv, rfl, k1, k2, k3⟩ := har.ex
  clear har
  obtain ⟨A1, c1, e1, z1, y1⟩ := k1.form
  rw [strs_len] at e1 z1
  subst e1
  obtain ⟨A2, c2, e2, z2, y2⟩ := k2.form
  rw [strs_len] at e2 z2
  subst e2
  obtain ⟨A3, c3, e3, z3, y3⟩ := k3.form
  rw [bools_len] at e3 z3
  subst e3
  rw [box_cut]
  rw [show (a.kind.toNat : Int) = 69 from by rw [hk]; rfl]
  have HK := Lib.hid k1
  have HV := Lib.hid k2
  have HN := Lib.hid k3
  have HF := Lib.hid f
  have HKN := Lib.hid hk
  clear k1 k2 k3 f hk
  go_enter Try.func28, Try.ntmps28
  go_wp2_with fail
  refine (rplain_b _ a.keys _ true P0.out (lr_box HK.out _) (few_k HF.out) HF.out.keysT).mono ?_; rintro e w2 ⟨rfl, rfl⟩
  go_wp2_with fail
  refine (rplain_b _ a.vals _ true P1.out (lr_box HV.out _) (few_v HF.out) HF.out.valsT).mono ?_; rintro e w3 ⟨rfl, rfl⟩
  go_wp2
  go_ret
  exact rlp_no (fun h => by rw [(h.pair (.inl HKN.out)).1] at hb; simp at hb) ((Below.refl _ _).alloc (Nat.le_refl _) _)
set_option maxHeartbeats 2000000 in
theorem rl_E (w : World) (a : Tell) (v : Value) (f : Few a) (har : AR (fun i => i < w.heap.size) w v a) (d0 : decide ((100 : Int) < (a.keys.length : Int)) = false) (d1 : decide ((100 : Int) < (a.vals.length : Int)) = false) (P0 : Hid (decide (∀ t ∈ a.keys, 0 ∉ t) = true)) (hk : a.kind = 69) (P1 : Hid (decide (∀ t ∈ a.vals, 0 ∉ t) = true)) (hl : a.keys.length = a.vals.length) (hb : ((a.keys.length : Int) != (a.vals.length : Int)) = false) :
    Calls Try.prog 28 #[v] w fun e w' => RLP (ListsP a) w e w' := by
  obtain ⟨kv, vv, nv, rfl, k1, k2, k3⟩ := har.ex
  clear har
  obtain ⟨A1, c1, e1, z1, y1⟩ := k1.form
  rw [strs_len] at e1 z1
  subst e1
  obtain ⟨A2, c2, e2, z2, y2⟩ := k2.form
  rw [strs_len] at e2 z2
  subst e2
  obtain ⟨A3, c3, e3, z3, y3⟩ := k3.form
  rw [bools_len] at e3 z3
  subst e3
  rw [box_cut]
  rw [show (a.kind.toNat : Int) = 69 from by rw [hk]; rfl]
  have HK := Lib.hid k1
  have HV := Lib.hid k2
  have HN := Lib.hid k3
  have HF := Lib.hid f
  have HKN := Lib.hid hk
  have HL := Lib.hid hl
  clear k1 k2 k3 f hk hl
  go_enter Try.func28, Try.ntmps28
  go_wp2_with fail
  refine (rplain_b _ a.keys _ true P0.out (lr_box HK.out _) (few_k HF.out) HF.out.keysT).mono ?_; rintro e w2 ⟨rfl, rfl⟩
  go_wp2_with fail
  refine (rplain_b _ a.vals _ true P1.out (lr_box HV.out _) (few_v HF.out) HF.out.valsT).mono ?_; rintro e w3 ⟨rfl, rfl⟩
  have D0 := Lib.hid d0
  have D1 := Lib.hid d1
  have n1 : a.keys.length ≤ 100 := by have := of_decide_eq_false d0; omega
  clear d1
  go_wp2
  go_loop [4] (fun i => ∃ k : Nat, k ≤ a.keys.length ∧ i = .int .i64 k ∧ ∀ t ∈ a.keys.take k, t.length = 1) (fun i => a.keys.length - (intOf i).toNat)
  case atStart => exact ⟨0, Nat.zero_le _, rfl, by simp⟩
  case round =>
    obtain ⟨k, hk, rfl, hs⟩ := hrel
    have HS := Lib.hid hs
    clear hs
    by_cases hlt : k < a.keys.length
    · obtain ⟨p, o, rfl, hp, hg⟩ := HK.out.addr (ne_strs hlt)
      have x := hg k _ (strs_get a.keys k hlt)
      have hne1 : p ≠ w.heap.size := by omega
      have i0 : (0 : Int) ≤ (k : Int) := by omega
      have i1 : (k : Int) < (a.keys.length : Int) := by omega
      have HM := Lib.hid (List.getElem_mem hlt)
      have HT := Lib.hid (List.take_succ_eq_append_getElem hlt)
      have HZ := Lib.hid (ba_size a.keys[k])
      clear hg
      by_cases e : a.keys[k].length = 1
      · have hz : (((ba a.keys[k]).size : Int) != 1) = false := by rw [ba_size, e]; rfl
        have E := Lib.hid e
        clear e
        generalize ba a.keys[k] = y at *
        go_wp2
        go_round
        case rel =>
          refine ⟨k + 1, by omega, by go_num, ?_⟩
          rw [HT.out]
          intro u hu
          rcases List.mem_append.1 hu with h1 | h1
          · exact HS.out u h1
          · simp at h1; rw [h1]; exact E.out
        case measure => simp [intOf]; omega
      · have hz : (((ba a.keys[k]).size : Int) != 1) = true := by rw [ba_size]; simp; omega
        have E := Lib.hid e
        clear e
        generalize ba a.keys[k] = y at *
        go_wp2
        go_ret
        exact rlp_no (fun h => E.out ((h.pair (.inl HKN.out)).2 _ HM.out)) ((Below.refl _ _).alloc (Nat.le_refl _) _)
    · have KN : Hid (∀ t ∈ a.keys, t.length = 1) := Lib.hid (by have h := HS.out; rwa [List.take_of_length_le (by omega)] at h)
      clear HS
      go_wp2
      go_ret
      exact rlp_yes ⟨n1, by have := of_decide_eq_false D1.out; omega, of_decide_eq_true P0.out, fun _ => of_decide_eq_true P1.out, (fun e => by rw [HKN.out] at e; cases e), (fun e => by rw [HKN.out] at e; cases e), fun _ => ⟨HL.out, KN.out⟩⟩ ((Below.refl _ _).alloc (Nat.le_refl _) _)
set_option maxHeartbeats 2000000 in
theorem rl_Nl (w : World) (a : Tell) (v : Value) (f : Few a) (har : AR (fun i => i < w.heap.size) w v a) (d0 : decide ((100 : Int) < (a.keys.length : Int)) = false) (d1 : decide ((100 : Int) < (a.vals.length : Int)) = false) (P0 : Hid (decide (∀ t ∈ a.keys, 0 ∉ t) = true)) (hk : a.kind = 78) (P1 : Hid (decide (∀ t ∈ a.vals, 0 ∉ t) = true)) (hb : ((a.keys.length : Int) != (a.vals.length : Int)) = true) :
    Calls Try.prog 28 #[v] w fun e w' => RLP (ListsP a) w e w' := by
  obtain ⟨kv, vv, nv, rfl, k1, k2, k3⟩ := har.ex
  clear har
  obtain ⟨A1, c1, e1, z1, y1⟩ := k1.form
  rw [strs_len] at e1 z1
  subst e1
  obtain ⟨A2, c2, e2, z2, y2⟩ := k2.form
  rw [strs_len] at e2 z2
  subst e2
  obtain ⟨A3, c3, e3, z3, y3⟩ := k3.form
  rw [bools_len] at e3 z3
  subst e3
  rw [box_cut]
  rw [show (a.kind.toNat : Int) = 78 from by rw [hk]; rfl]
  have HK := Lib.hid k1
  have HV := Lib.hid k2
  have HN := Lib.hid k3
  have HF := Lib.hid f
  have HKN := Lib.hid hk
  clear k1 k2 k3 f hk
  go_enter Try.func28, Try.ntmps28
  go_wp2_with fail
  refine (rplain_b _ a.keys _ true P0.out (lr_box HK.out _) (few_k HF.out) HF.out.keysT).mono ?_; rintro e w2 ⟨rfl, rfl⟩
  go_wp2_with fail
  refine (rplain_b _ a.vals _ true P1.out (lr_box HV.out _) (few_v HF.out) HF.out.valsT).mono ?_; rintro e w3 ⟨rfl, rfl⟩
  go_wp2
  go_ret
  exact rlp_no (fun h => by rw [(h.pair (.inr HKN.out)).1] at hb; simp at hb) ((Below.refl _ _).alloc (Nat.le_refl _) _)
set_option maxHeartbeats 2000000 in
theorem rl_N (w : World) (a : Tell) (v : Value) (f : Few a) (har : AR (fun i => i < w.heap.size) w v a) (d0 : decide ((100 : Int) < (a.keys.length : Int)) = false) (d1 : decide ((100 : Int) < (a.vals.length : Int)) = false) (P0 : Hid (decide (∀ t ∈ a.keys, 0 ∉ t) = true)) (hk : a.kind = 78) (P1 : Hid (decide (∀ t ∈ a.vals, 0 ∉ t) = true)) (hl : a.keys.length = a.vals.length) (hb : ((a.keys.length : Int) != (a.vals.length : Int)) = false) :
    Calls Try.prog 28 #[v] w fun e w' => RLP (ListsP a) w e w' := by
  obtain ⟨kv, vv, nv, rfl, k1, k2, k3⟩ := har.ex
  clear har
  obtain ⟨A1, c1, e1, z1, y1⟩ := k1.form
  rw [strs_len] at e1 z1
  subst e1
  obtain ⟨A2, c2, e2, z2, y2⟩ := k2.form
  rw [strs_len] at e2 z2
  subst e2
  obtain ⟨A3, c3, e3, z3, y3⟩ := k3.form
  rw [bools_len] at e3 z3
  subst e3
  rw [box_cut]
  rw [show (a.kind.toNat : Int) = 78 from by rw [hk]; rfl]
  have HK := Lib.hid k1
  have HV := Lib.hid k2
  have HN := Lib.hid k3
  have HF := Lib.hid f
  have HKN := Lib.hid hk
  have HL := Lib.hid hl
  clear k1 k2 k3 f hk hl
  go_enter Try.func28, Try.ntmps28
  go_wp2_with fail
  refine (rplain_b _ a.keys _ true P0.out (lr_box HK.out _) (few_k HF.out) HF.out.keysT).mono ?_; rintro e w2 ⟨rfl, rfl⟩
  go_wp2_with fail
  refine (rplain_b _ a.vals _ true P1.out (lr_box HV.out _) (few_v HF.out) HF.out.valsT).mono ?_; rintro e w3 ⟨rfl, rfl⟩
  have D0 := Lib.hid d0
  have D1 := Lib.hid d1
  have n1 : a.keys.length ≤ 100 := by have := of_decide_eq_false d0; omega
  clear d1
  go_wp2
  go_loop [4] (fun i => ∃ k : Nat, k ≤ a.keys.length ∧ i = .int .i64 k ∧ ∀ t ∈ a.keys.take k, t.length = 1) (fun i => a.keys.length - (intOf i).toNat)
  case atStart => exact ⟨0, Nat.zero_le _, rfl, by simp⟩
  case round =>
    obtain ⟨k, hk, rfl, hs⟩ := hrel
    have HS := Lib.hid hs
    clear hs
    by_cases hlt : k < a.keys.length
    · obtain ⟨p, o, rfl, hp, hg⟩ := HK.out.addr (ne_strs hlt)
      have x := hg k _ (strs_get a.keys k hlt)
      have hne1 : p ≠ w.heap.size := by omega
      have i0 : (0 : Int) ≤ (k : Int) := by omega
      have i1 : (k : Int) < (a.keys.length : Int) := by omega
      have HM := Lib.hid (List.getElem_mem hlt)
      have HT := Lib.hid (List.take_succ_eq_append_getElem hlt)
      have HZ := Lib.hid (ba_size a.keys[k])
      clear hg
      by_cases e : a.keys[k].length = 1
      · have hz : (((ba a.keys[k]).size : Int) != 1) = false := by rw [ba_size, e]; rfl
        have E := Lib.hid e
        clear e
        generalize ba a.keys[k] = y at *
        go_wp2
        go_round
        case rel =>
          refine ⟨k + 1, by omega, by go_num, ?_⟩
          rw [HT.out]
          intro u hu
          rcases List.mem_append.1 hu with h1 | h1
          · exact HS.out u h1
          · simp at h1; rw [h1]; exact E.out
        case measure => simp [intOf]; omega
      · have hz : (((ba a.keys[k]).size : Int) != 1) = true := by rw [ba_size]; simp; omega
        have E := Lib.hid e
        clear e
        generalize ba a.keys[k] = y at *
        go_wp2
        go_ret
        exact rlp_no (fun h => E.out ((h.pair (.inr HKN.out)).2 _ HM.out)) ((Below.refl _ _).alloc (Nat.le_refl _) _)
    · have KN : Hid (∀ t ∈ a.keys, t.length = 1) := Lib.hid (by have h := HS.out; rwa [List.take_of_length_le (by omega)] at h)
      clear HS
      go_wp2
      go_ret
      exact rlp_yes ⟨n1, by have := of_decide_eq_false D1.out; omega, of_decide_eq_true P0.out, fun _ => of_decide_eq_true P1.out, (fun e => by rw [HKN.out] at e; cases e), (fun e => by rw [HKN.out] at e; cases e), fun _ => ⟨HL.out, KN.out⟩⟩ ((Below.refl _ _).alloc (Nat.le_refl _) _)

set_option maxHeartbeats 2000000 in
theorem rl_Dl (w : World) (a : Tell) (v : Value) (f : Few a) (har : AR (fun i => i < w.heap.size) w v a) (d0 : decide ((100 : Int) < (a.keys.length : Int)) = false) (d1 : decide ((100 : Int) < (a.vals.length : Int)) = false) (P0 : Hid (decide (∀ t ∈ a.keys, 0 ∉ t) = true)) (hk : a.kind = 68) (hb : ((a.null.length : Int) != (a.vals.length : Int)) = true) :
    Calls Try.prog 28 #[v] w fun e w' => RLP (ListsP a) w e w' := by
  obtain ⟨kv, vv, nv, rfl, k1, k2, k3⟩ := har.ex
  clear har
  obtain ⟨A1, c1, e1, z1, y1⟩ := k1.form
  rw [strs_len] at e1 z1
  subst e1
  obtain ⟨A2, c2, e2, z2, y2⟩ := k2.form
  rw [strs_len] at e2 z2
  subst e2
  obtain ⟨A3, c3, e3, z3, y3⟩ := k3.form
  rw [bools_len] at e3 z3
  subst e3
  rw [box_cut]
  rw [show (a.kind.toNat : Int) = 68 from by rw [hk]; rfl]
  have HK := Lib.hid k1
  have HV := Lib.hid k2
  have HN := Lib.hid k3
  have HF := Lib.hid f
  have HKN := Lib.hid hk
  clear k1 k2 k3 f hk
  go_enter Try.func28, Try.ntmps28
  go_wp2_with fail
  refine (rplain_b _ a.keys _ true P0.out (lr_box HK.out _) (few_k HF.out) HF.out.keysT).mono ?_; rintro e w2 ⟨rfl, rfl⟩
  go_wp2
  go_ret
  exact rlp_no (fun h => by rw [(h.row HKN.out).1] at hb; simp at hb) ((Below.refl _ _).alloc (Nat.le_refl _) _)
set_option maxHeartbeats 2000000 in
theorem rl_D (w : World) (a : Tell) (v : Value) (f : Few a) (har : AR (fun i => i < w.heap.size) w v a) (d0 : decide ((100 : Int) < (a.keys.length : Int)) = false) (d1 : decide ((100 : Int) < (a.vals.length : Int)) = false) (P0 : Hid (decide (∀ t ∈ a.keys, 0 ∉ t) = true)) (hk : a.kind = 68) (hl : a.null.length = a.vals.length) (hb : ((a.null.length : Int) != (a.vals.length : Int)) = false) :
    Calls Try.prog 28 #[v] w fun e w' => RLP (ListsP a) w e w' := by
  obtain ⟨kv, vv, nv, rfl, k1, k2, k3⟩ := har.ex
  clear har
  obtain ⟨A1, c1, e1, z1, y1⟩ := k1.form
  rw [strs_len] at e1 z1
  subst e1
  obtain ⟨A2, c2, e2, z2, y2⟩ := k2.form
  rw [strs_len] at e2 z2
  subst e2
  obtain ⟨A3, c3, e3, z3, y3⟩ := k3.form
  rw [bools_len] at e3 z3
  subst e3
  rw [box_cut]
  rw [show (a.kind.toNat : Int) = 68 from by rw [hk]; rfl]
  have HK := Lib.hid k1
  have HV := Lib.hid k2
  have HN := Lib.hid k3
  have HF := Lib.hid f
  have HKN := Lib.hid hk
  have HL := Lib.hid hl
  clear k1 k2 k3 f hk hl
  go_enter Try.func28, Try.ntmps28
  go_wp2_with fail
  refine (rplain_b _ a.keys _ true P0.out (lr_box HK.out _) (few_k HF.out) HF.out.keysT).mono ?_; rintro e w2 ⟨rfl, rfl⟩
  have D0 := Lib.hid d0
  have n1 : a.vals.length ≤ 100 := by have := of_decide_eq_false d1; omega
  clear d0
  go_wp2
  go_loop [3] (fun i => ∃ k : Nat, k ≤ a.vals.length ∧ i = .int .i64 k ∧ ∀ p ∈ (a.vals.take k).zip (a.null.take k), p.2 = true → p.1 = []) (fun i => a.vals.length - (intOf i).toNat)
  case atStart => exact ⟨0, Nat.zero_le _, rfl, by simp⟩
  case round =>
    obtain ⟨k, hk, rfl, hs⟩ := hrel
    have HS := Lib.hid hs
    clear hs
    by_cases hlt : k < a.vals.length
    · have hlt2 : k < a.null.length := by rw [HL.out]; exact hlt
      obtain ⟨p, o, rfl, hp, hg⟩ := HV.out.addr (ne_strs hlt)
      obtain ⟨p2, o2, rfl, hp2, hg2⟩ := HN.out.addr (ne_bools hlt2)
      have x := hg k _ (strs_get a.vals k hlt)
      have x2 := hg2 k _ (bools_get a.null k hlt2)
      have hne1 : p ≠ w.heap.size := by omega
      have hne2 : p2 ≠ w.heap.size := by omega
      have i0 : (0 : Int) ≤ (k : Int) := by omega
      have i1 : (k : Int) < (a.vals.length : Int) := by omega
      have i2 : (k : Int) < (a.null.length : Int) := by omega
      have HM := Lib.hid (zip_mem a.vals a.null k hlt hlt2)
      have HT := Lib.hid (zip_take a.vals a.null k hlt hlt2)
      clear hg hg2
      have HX : Hid (a.null[k] = true → a.vals[k] = [] → ∀ p ∈ (a.vals.take (k + 1)).zip (a.null.take (k + 1)), p.2 = true → p.1 = []) := Lib.hid (by
        intro _ hv q hq
        rw [HT.out] at hq
        rcases List.mem_append.1 hq with h1 | h1
        · exact HS.out q h1
        · simp at h1; rw [h1]; exact fun _ => hv)
      have HY : Hid (a.null[k] = false → ∀ p ∈ (a.vals.take (k + 1)).zip (a.null.take (k + 1)), p.2 = true → p.1 = []) := Lib.hid (by
        intro hn q hq
        rw [HT.out] at hq
        rcases List.mem_append.1 hq with h1 | h1
        · exact HS.out q h1
        · simp at h1; rw [h1]; intro e; rw [hn] at e; cases e)
      generalize a.vals[k] = t at *
      generalize a.null[k] = bn at *
      cases bn
      · go_wp2
        go_round
        case rel => exact ⟨k + 1, by omega, by go_num, HY.out rfl⟩
        case measure => simp [intOf]; omega
      · by_cases e : t = []
        · have he : (ba t).toList.isEmpty = true := by rw [Lib.toList_data, ba_list, e]; rfl
          have E := Lib.hid e
          clear e
          go_wp2
          go_round
          case rel => exact ⟨k + 1, by omega, by go_num, HX.out rfl E.out⟩
          case measure => simp [intOf]; omega
        · have he : (ba t).toList.isEmpty = false := by rw [Lib.toList_data, ba_list, List.isEmpty_eq_false_iff]; exact e
          have E := Lib.hid e
          clear e
          go_wp2
          go_ret
          exact rlp_no (fun h => E.out ((h.row HKN.out).2 _ HM.out rfl)) ((Below.refl _ _).alloc (Nat.le_refl _) _)
    · have KN : Hid (∀ p ∈ a.vals.zip a.null, p.2 = true → p.1 = []) := Lib.hid (by have h := HS.out; rwa [List.take_of_length_le (by omega), List.take_of_length_le (by have := HL.out; omega)] at h)
      clear HS
      go_wp2
      go_ret
      exact rlp_yes ⟨by have := of_decide_eq_false D0.out; omega, n1, of_decide_eq_true P0.out, (fun e => absurd HKN.out e), fun _ => ⟨HL.out, KN.out⟩, (fun e => by rw [HKN.out] at e; cases e), (fun e => by rw [HKN.out] at e; rcases e with e | e <;> cases e)⟩ ((Below.refl _ _).alloc (Nat.le_refl _) _)

theorem bne_f {x y : Nat} (h : x = y) : ((x : Int) != (y : Int)) = false := by rw [h]; simp
theorem bne_t {x y : Nat} (h : x ≠ y) : ((x : Int) != (y : Int)) = true := by
  simp; omega
theorem rlists_any (w : World) (a : Tell) (v : Value) (f : Few a) (har : AR (fun i => i < w.heap.size) w v a) :
    Calls Try.prog 28 #[v] w fun e w' => RLP (ListsP a) w e w' := by
  cases d0 : decide ((100 : Int) < (a.keys.length : Int))
  case true => exact rl_0 w a v f har d0
  cases d1 : decide ((100 : Int) < (a.vals.length : Int))
  case true => exact rl_1 w a v f har d0 d1
  cases p0 : decide (∀ t ∈ a.keys, 0 ∉ t)
  case false => exact rl_2 w a v f har d0 d1 (Lib.hid p0)
  by_cases g0 : a.kind = 68
  · by_cases hl : a.null.length = a.vals.length
    · exact rl_D w a v f har d0 d1 (Lib.hid p0) g0 hl (bne_f hl)
    · exact rl_Dl w a v f har d0 d1 (Lib.hid p0) g0 (bne_t hl)
  have e0 : ((a.kind.toNat : Int) == 68) = false := u8_ne a.kind 68 g0
  cases p1 : decide (∀ t ∈ a.vals, 0 ∉ t)
  case false => exact rl_3 w a v f har d0 d1 (Lib.hid p0) g0 e0 (Lib.hid p1)
  by_cases g1 : a.kind = 83
  · exact rl_S w a v f har d0 d1 (Lib.hid p0) g1 (Lib.hid p1) _ rfl
  by_cases g2 : a.kind = 69
  · by_cases hl : a.keys.length = a.vals.length
    · exact rl_E w a v f har d0 d1 (Lib.hid p0) g2 (Lib.hid p1) hl (bne_f hl)
    · exact rl_El w a v f har d0 d1 (Lib.hid p0) g2 (Lib.hid p1) (bne_t hl)
  by_cases g3 : a.kind = 78
  · by_cases hl : a.keys.length = a.vals.length
    · exact rl_N w a v f har d0 d1 (Lib.hid p0) g3 (Lib.hid p1) hl (bne_f hl)
    · exact rl_Nl w a v f har d0 d1 (Lib.hid p0) g3 (Lib.hid p1) (bne_t hl)
  exact rl_other w a v f har d0 d1 (Lib.hid p0) g0 g1 (fun h => h.elim g2 g3) e0 (u8_ne a.kind 83 g1) (u8_ne a.kind 69 g2) (u8_ne a.kind 78 g3) (Lib.hid p1)
end Go.Proofs.Ytnjifbgjglniaaa.BK
