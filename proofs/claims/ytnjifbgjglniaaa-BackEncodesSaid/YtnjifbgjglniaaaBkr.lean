/- What Right and Put of package frame, and the document's own, answer for every message; whether two lists of messages are the same. Condition: a body is of at most 2^47 bytes. -/
import Derived.Test.YtnjifbgjglniaaaFrm
import Derived.Test.YtnjifbgjglniaaaFrp
namespace Go.Proofs.Ytnjifbgjglniaaa
open Go.ChangeShapes Go.WideShapes Go.ChangeAt Go.RowKit
set_option linter.unusedVariables false

theorem bel {w w1 : World} {X : Obj} (h : Below (w.alloc X).heap.size (w.alloc X) w1) : Below w.heap.size w w1 :=
  ((Below.refl _ _).alloc (Nat.le_refl _) X).trans (h.mono (by simp))
theorem put32_size (s : ByteArray) (n : Int) : (put32 s n).size = s.size + 4 := by
  unfold put32; rw [ByteArray.size_append]; rfl
theorem conv_one (w : World) (k : UInt8) : (convert 63 9 (.slice (some ⟨w.heap.size, 0, none⟩) 1 1)).run Try.prog (w.alloc (.cells #[.int .u8 (k.toNat : Int)] 5)) = .ok (.string (ba [k])) (w.alloc (.cells #[.int .u8 (k.toNat : Int)] 5)) := by
  refine conv_row (w.alloc (.cells #[.int .u8 (k.toNat : Int)] 5)) w.heap.size 0 1 [k] ⟨_, Blk.new _ _ _, fun j b hj => ?_⟩
  cases j with
  | zero => simp at hj; subst hj; rfl
  | succ j => simp at hj
theorem right_any (k : UInt8) (b : ByteArray) (w : World) (hs : b.size ≤ 281474976710656) :
    Calls Try.prog 21 #[.agg #[u8 k, .string b]] w fun e w' => e = .returned (.bool (rightL (k, b.data.toList))) ∧ Below w.heap.size w w' := by
  have hk := k.toNat_lt
  unfold u8
  have hz : decide (k = 0) = ((k.toNat : Int) == 0) := by
    rw [Bool.eq_iff_iff]; simp [← UInt8.toNat_inj]
  have hlen : b.data.toList.length = b.size := by rw [← Lib.size_eq]
  cases h0 : decide (k = 0)
  · have e0 : ((k.toNat : Int) == 0) = false := by rw [← hz, h0]
    have dn := fun w => named_any k w
    cases hn : namedB k
    · have e : rightL (k, b.data.toList) = false := by unfold rightL; rw [h0, hn]; rfl
      rw [e]; rw [hn] at dn; clear e hn h0 hz hlen
      go_enter Try.func21, Try.ntmps21
      go_wp2_with (go_at_call 55; refine (dn _).mono ?_; rintro e w1 ⟨rfl, rfl⟩)
      go_ret
      exact ⟨rfl, (Below.refl _ _).alloc (Nat.le_refl _) _⟩
    · by_cases hl : b.size ≤ 4092
      · have e : rightL (k, b.data.toList) = true := by unfold rightL; rw [hlen, h0, hn, decide_eq_true hl]; rfl
        rw [e]; rw [hn] at dn; clear e hn h0 hz hlen
        have e1 : decide ((4 : Int) + (b.size : Int) ≤ 4096) = true := by simp; omega
        go_enter Try.func21, Try.ntmps21
        go_wp2_with (go_at_call 55; refine (dn _).mono ?_; rintro e w1 ⟨rfl, rfl⟩)
        go_ret
        exact ⟨rfl, (Below.refl _ _).alloc (Nat.le_refl _) _⟩
      · have e : rightL (k, b.data.toList) = false := by unfold rightL; rw [hlen, h0, hn, decide_eq_false hl]; rfl
        rw [e]; rw [hn] at dn; clear e hn h0 hz hlen
        have e1 : decide ((4 : Int) + (b.size : Int) ≤ 4096) = false := by simp; omega
        go_enter Try.func21, Try.ntmps21
        go_wp2_with (go_at_call 55; refine (dn _).mono ?_; rintro e w1 ⟨rfl, rfl⟩)
        go_ret
        exact ⟨rfl, (Below.refl _ _).alloc (Nat.le_refl _) _⟩
  · have e0 : ((k.toNat : Int) == 0) = true := by rw [← hz, h0]
    by_cases hl : b.size ≤ 4092
    · have e : rightL (k, b.data.toList) = true := by unfold rightL; rw [hlen, h0, decide_eq_true hl]; rfl
      rw [e]; clear e h0 hz hlen
      have e1 : decide ((4 : Int) + (b.size : Int) ≤ 4096) = true := by simp; omega
      go_enter Try.func21, Try.ntmps21
      go_wp2
      go_ret
      exact ⟨rfl, (Below.refl _ _).alloc (Nat.le_refl _) _⟩
    · have e : rightL (k, b.data.toList) = false := by unfold rightL; rw [hlen, h0, decide_eq_false hl]; rfl
      rw [e]; clear e h0 hz hlen
      have e1 : decide ((4 : Int) + (b.size : Int) ≤ 4096) = false := by simp; omega
      go_enter Try.func21, Try.ntmps21
      go_wp2
      go_ret
      exact ⟨rfl, (Below.refl _ _).alloc (Nat.le_refl _) _⟩

theorem rright_any (k : UInt8) (b : ByteArray) (w : World) (hs : b.size ≤ 281474976710656) :
    Calls Try.prog 31 #[.agg #[u8 k, .string b]] w fun e w' => e = .returned (.bool (rightL (k, b.data.toList))) ∧ Below w.heap.size w w' := by
  have hk := k.toNat_lt
  unfold u8
  have hz : decide (k = 0) = ((k.toNat : Int) == 0) := by
    rw [Bool.eq_iff_iff]; simp [← UInt8.toNat_inj]
  have hlen : b.data.toList.length = b.size := by rw [← Lib.size_eq]
  have hnm : namedB k = (decide ((33 : Int) ≤ (k.toNat : Int)) && decide ((k.toNat : Int) ≤ 126)) := by
    unfold namedB; rw [Bool.eq_iff_iff]; simp; omega
  have hR : rightL (k, b.data.toList) = ((((k.toNat : Int) == 0) || (decide ((33 : Int) ≤ (k.toNat : Int)) && decide ((k.toNat : Int) ≤ 126))) && decide ((b.size : Int) ≤ 4092)) := by
    unfold rightL; rw [hz, hnm, hlen]; congr 1; rw [Bool.eq_iff_iff]; simp; omega
  rw [hR]; clear hR hnm hlen hz
  generalize (k.toNat : Int) = n at *
  cases h0 : (n == 0)
  · cases h1 : decide ((33 : Int) ≤ n)
    · go_enter Try.func31, Try.ntmps31
      go_wp2
      go_ret
      exact ⟨rfl, (Below.refl _ _).alloc (Nat.le_refl _) _⟩
    · cases h2 : decide (n ≤ 126)
      · go_enter Try.func31, Try.ntmps31
        go_wp2
        go_ret
        exact ⟨rfl, (Below.refl _ _).alloc (Nat.le_refl _) _⟩
      · go_enter Try.func31, Try.ntmps31
        go_wp2
        go_ret
        exact ⟨rfl, (Below.refl _ _).alloc (Nat.le_refl _) _⟩
  · go_enter Try.func31, Try.ntmps31
    go_wp2
    go_ret
    exact ⟨rfl, (Below.refl _ _).alloc (Nat.le_refl _) _⟩

theorem put_no (k : UInt8) (b : ByteArray) (w : World) (hs : b.size ≤ 281474976710656) (hr : rightL (k, b.data.toList) = false) :
    Calls Try.prog 33 #[.agg #[u8 k, .string b]] w fun e w' => e = .returned (.string ⟨#[]⟩) ∧ Below w.heap.size w w' := by
  have d := fun w => right_any k b w hs
  rw [hr] at d
  unfold u8 at d ⊢
  go_enter Try.func33, Try.ntmps33
  go_wp2_with (go_at_call 21; refine (d _).mono ?_; rintro e w1 ⟨rfl, hb1⟩)
  go_ret
  exact ⟨rfl, bel hb1⟩
set_option maxHeartbeats 400000 in
theorem put_first (b : ByteArray) (w : World) (hr : rightL (0, b.data.toList) = true) (hs : b.size ≤ 4092) :
    Calls Try.prog 33 #[.agg #[u8 0, .string b]] w fun e w' => e = .returned (.string (put32 ⟨#[]⟩ (4 + (b.size : Int)) ++ b)) ∧ Below w.heap.size w w' := by
  have d := fun w => right_any 0 b w (by omega)
  rw [hr] at d
  have dp := fun w => put32_any (⟨#[]⟩) (4 + (b.size : Int)) (by first | decide | (rw [ba_size]; exact (by decide : (1 : Nat) ≤ 281474976710656))) w
  have hp : (put32 (⟨#[]⟩) (4 + (b.size : Int))).size ≤ 5 := by rw [put32_size]; first | decide | (rw [ba_size]; exact Nat.le_refl 5)
  generalize put32 (⟨#[]⟩) (4 + (b.size : Int)) = p at *
  have hw : IntKind.i64.wrap (4 + (b.size : Int)) = 4 + (b.size : Int) := IntWalk.i64_in _ (by omega)
  unfold u8 at d ⊢
  go_enter Try.func33, Try.ntmps33
  go_wp2_with (go_at_call 21; refine (d _).mono ?_; rintro e w1 ⟨rfl, hb1⟩; have hz1 : w.heap.size < w1.heap.size := (by have := hb1.size; simp at this; omega); have x0 : w1.cell? ⟨w.heap.size, 0, none⟩ = some (.int .u8 0) := (by rw [(bcell hb1).1 _ _ (by simp)]; simp [go_sem]); have x1 : w1.cell? ⟨w.heap.size, 1, none⟩ = some (.string b) := (by rw [(bcell hb1).1 _ _ (by simp)]; simp [go_sem]))
  go_region_with (go_at_call 68; refine (dp _).mono ?_; rintro e w2 ⟨rfl, hb2⟩; have x2 : w2.cell? ⟨w.heap.size, 1, none⟩ = some (.string b) := (by rw [(bcell hb2).1 _ _ (by simp; omega)]; simpa [World.cell?_alloc_lt, show w.heap.size < w1.heap.size by omega] using x1))
  all_goals
    go_wp2
    go_ret
    exact ⟨rfl, (bel hb1).trans ((Below.refl _ _).drew.trans (hb2.mono (by simp; omega)))⟩
set_option maxHeartbeats 400000 in
theorem put_kind (k : UInt8) (b : ByteArray) (w : World) (hr : rightL (k, b.data.toList) = true) (hs : b.size ≤ 4092) (hk0 : k ≠ 0) :
    Calls Try.prog 33 #[.agg #[u8 k, .string b]] w fun e w' => e = .returned (.string (put32 (ba [k]) (4 + (b.size : Int)) ++ b)) ∧ Below w.heap.size w w' := by
  have hkn : k.toNat ≠ 0 := fun e => hk0 (UInt8.toNat_inj.1 e)
  have e0 : ((k.toNat : Int) != 0) = true := by simp; omega
  have d := fun w => right_any k b w (by omega)
  rw [hr] at d
  clear hkn hk0 hr
  have hcv := fun w => conv_one w k
  have dp := fun w => put32_any (ba [k]) (4 + (b.size : Int)) (by first | decide | (rw [ba_size]; exact (by decide : (1 : Nat) ≤ 281474976710656))) w
  have hp : (put32 (ba [k]) (4 + (b.size : Int))).size ≤ 5 := by rw [put32_size]; first | decide | (rw [ba_size]; exact Nat.le_refl 5)
  generalize put32 (ba [k]) (4 + (b.size : Int)) = p at *
  have hw : IntKind.i64.wrap (4 + (b.size : Int)) = 4 + (b.size : Int) := IntWalk.i64_in _ (by omega)
  unfold u8 at d ⊢
  go_enter Try.func33, Try.ntmps33
  go_wp2_with (go_at_call 21; refine (d _).mono ?_; rintro e w1 ⟨rfl, hb1⟩; have hz1 : w.heap.size < w1.heap.size := (by have := hb1.size; simp at this; omega); have x0 : w1.cell? ⟨w.heap.size, 0, none⟩ = some (.int .u8 (k.toNat : Int)) := (by rw [(bcell hb1).1 _ _ (by simp)]; simp [go_sem]); have x1 : w1.cell? ⟨w.heap.size, 1, none⟩ = some (.string b) := (by rw [(bcell hb1).1 _ _ (by simp)]; simp [go_sem]))
  go_region_with (go_at_call 68; refine (dp _).mono ?_; rintro e w2 ⟨rfl, hb2⟩; have x2 : w2.cell? ⟨w.heap.size, 1, none⟩ = some (.string b) := (by rw [(bcell hb2).1 _ _ (by simp; omega)]; simpa [World.cell?_alloc_lt, show w.heap.size < w1.heap.size by omega] using x1))
  all_goals
    go_wp2
    go_ret
    exact ⟨rfl, (bel hb1).trans (((Below.refl _ _).alloc (Nat.le_of_lt hz1) _).drew.trans (hb2.mono (by simp; omega)))⟩

theorem put_any (k : UInt8) (b : ByteArray) (w : World) (hs : b.size ≤ 281474976710656) :
    Calls Try.prog 33 #[.agg #[u8 k, .string b]] w fun e w' => e = .returned (.string (ba (putL (k, b.data.toList)))) ∧ Below w.heap.size w w' := by
  have hlen : b.data.toList.length = b.size := by rw [← Lib.size_eq]
  cases hr : rightL (k, b.data.toList)
  · have e : putL (k, b.data.toList) = [] := by unfold putL; rw [hr]; rfl
    rw [e]; exact put_no k b w hs hr
  · have hl : b.size ≤ 4092 := by have := hr; simp [rightL] at this; exact this.2
    by_cases hk : k = 0
    · subst hk
      have e : ba (putL (0, b.data.toList)) = put32 ⟨#[]⟩ (4 + (b.size : Int)) ++ b := by
        apply ba_ext
        unfold putL
        rw [if_pos hr, ba_list, hlen]
        simp [Int.add_comm]
      rw [e]; exact put_first b w hr hl
    · have e : ba (putL (k, b.data.toList)) = put32 (ba [k]) (4 + (b.size : Int)) ++ b := by
        apply ba_ext
        unfold putL
        rw [if_pos hr, if_neg hk, ba_list, hlen]
        simp [Int.add_comm, put32, ba]
      rw [e]; exact put_kind k b w hr hl hk

theorem rput_no (k : UInt8) (b : ByteArray) (w : World) (hs : b.size ≤ 281474976710656) (hr : rightL (k, b.data.toList) = false) :
    Calls Try.prog 35 #[.agg #[u8 k, .string b]] w fun e w' => e = .returned (.string ⟨#[]⟩) ∧ Below w.heap.size w w' := by
  have d := fun w => rright_any k b w hs
  rw [hr] at d
  unfold u8 at d ⊢
  go_enter Try.func35, Try.ntmps35
  go_wp2_with (go_at_call 31; refine (d _).mono ?_; rintro e w1 ⟨rfl, hb1⟩)
  go_ret
  exact ⟨rfl, bel hb1⟩
set_option maxHeartbeats 400000 in
theorem rput_first (b : ByteArray) (w : World) (hr : rightL (0, b.data.toList) = true) (hs : b.size ≤ 4092) :
    Calls Try.prog 35 #[.agg #[u8 0, .string b]] w fun e w' => e = .returned (.string (put32 ⟨#[]⟩ ((b.size : Int) + 4) ++ b)) ∧ Below w.heap.size w w' := by
  have d := fun w => rright_any 0 b w (by omega)
  rw [hr] at d
  have dp := fun w => rput32_any (⟨#[]⟩) ((b.size : Int) + 4) (by first | decide | (rw [ba_size]; exact (by decide : (1 : Nat) ≤ 281474976710656))) w
  have hp : (put32 (⟨#[]⟩) ((b.size : Int) + 4)).size ≤ 5 := by rw [put32_size]; first | decide | (rw [ba_size]; exact Nat.le_refl 5)
  generalize put32 (⟨#[]⟩) ((b.size : Int) + 4) = p at *
  have hw : IntKind.i64.wrap ((b.size : Int) + 4) = (b.size : Int) + 4 := IntWalk.i64_in _ (by omega)
  unfold u8 at d ⊢
  go_enter Try.func35, Try.ntmps35
  go_wp2_with (go_at_call 31; refine (d _).mono ?_; rintro e w1 ⟨rfl, hb1⟩; have hz1 : w.heap.size < w1.heap.size := (by have := hb1.size; simp at this; omega); have x0 : w1.cell? ⟨w.heap.size, 0, none⟩ = some (.int .u8 0) := (by rw [(bcell hb1).1 _ _ (by simp)]; simp [go_sem]); have x1 : w1.cell? ⟨w.heap.size, 1, none⟩ = some (.string b) := (by rw [(bcell hb1).1 _ _ (by simp)]; simp [go_sem]))
  go_region_with (go_at_call 61; refine (dp _).mono ?_; rintro e w2 ⟨rfl, hb2⟩; have x2 : w2.cell? ⟨w.heap.size, 1, none⟩ = some (.string b) := (by rw [(bcell hb2).1 _ _ (by simp; omega)]; simpa [World.cell?_alloc_lt, show w.heap.size < w1.heap.size by omega] using x1))
  all_goals
    go_wp2
    go_ret
    exact ⟨rfl, (bel hb1).trans ((Below.refl _ _).drew.trans (hb2.mono (by simp; omega)))⟩
set_option maxHeartbeats 400000 in
theorem rput_kind (k : UInt8) (b : ByteArray) (w : World) (hr : rightL (k, b.data.toList) = true) (hs : b.size ≤ 4092) (hk0 : k ≠ 0) :
    Calls Try.prog 35 #[.agg #[u8 k, .string b]] w fun e w' => e = .returned (.string (put32 (ba [k]) ((b.size : Int) + 4) ++ b)) ∧ Below w.heap.size w w' := by
  have hkn : k.toNat ≠ 0 := fun e => hk0 (UInt8.toNat_inj.1 e)
  have e0 : 0 < k.toNat := by omega
  have d := fun w => rright_any k b w (by omega)
  rw [hr] at d
  clear hkn hk0 hr
  have hcv := fun w => conv_one w k
  have dp := fun w => rput32_any (ba [k]) ((b.size : Int) + 4) (by first | decide | (rw [ba_size]; exact (by decide : (1 : Nat) ≤ 281474976710656))) w
  have hp : (put32 (ba [k]) ((b.size : Int) + 4)).size ≤ 5 := by rw [put32_size]; first | decide | (rw [ba_size]; exact Nat.le_refl 5)
  generalize put32 (ba [k]) ((b.size : Int) + 4) = p at *
  have hw : IntKind.i64.wrap ((b.size : Int) + 4) = (b.size : Int) + 4 := IntWalk.i64_in _ (by omega)
  unfold u8 at d ⊢
  go_enter Try.func35, Try.ntmps35
  go_wp2_with (go_at_call 31; refine (d _).mono ?_; rintro e w1 ⟨rfl, hb1⟩; have hz1 : w.heap.size < w1.heap.size := (by have := hb1.size; simp at this; omega); have x0 : w1.cell? ⟨w.heap.size, 0, none⟩ = some (.int .u8 (k.toNat : Int)) := (by rw [(bcell hb1).1 _ _ (by simp)]; simp [go_sem]); have x1 : w1.cell? ⟨w.heap.size, 1, none⟩ = some (.string b) := (by rw [(bcell hb1).1 _ _ (by simp)]; simp [go_sem]))
  go_region_with (go_at_call 61; refine (dp _).mono ?_; rintro e w2 ⟨rfl, hb2⟩; have x2 : w2.cell? ⟨w.heap.size, 1, none⟩ = some (.string b) := (by rw [(bcell hb2).1 _ _ (by simp; omega)]; simpa [World.cell?_alloc_lt, show w.heap.size < w1.heap.size by omega] using x1))
  all_goals
    go_wp2
    go_ret
    exact ⟨rfl, (bel hb1).trans (((Below.refl _ _).alloc (Nat.le_of_lt hz1) _).drew.trans (hb2.mono (by simp; omega)))⟩

theorem rput_any (k : UInt8) (b : ByteArray) (w : World) (hs : b.size ≤ 281474976710656) :
    Calls Try.prog 35 #[.agg #[u8 k, .string b]] w fun e w' => e = .returned (.string (ba (putL (k, b.data.toList)))) ∧ Below w.heap.size w w' := by
  have hlen : b.data.toList.length = b.size := by rw [← Lib.size_eq]
  cases hr : rightL (k, b.data.toList)
  · have e : putL (k, b.data.toList) = [] := by unfold putL; rw [hr]; rfl
    rw [e]; exact rput_no k b w hs hr
  · have hl : b.size ≤ 4092 := by have := hr; simp [rightL] at this; exact this.2
    by_cases hk : k = 0
    · subst hk
      have e : ba (putL (0, b.data.toList)) = put32 ⟨#[]⟩ ((b.size : Int) + 4) ++ b := by
        apply ba_ext
        unfold putL
        rw [if_pos hr, ba_list, hlen]
        simp
      rw [e]; exact rput_first b w hr hl
    · have e : ba (putL (k, b.data.toList)) = put32 (ba [k]) ((b.size : Int) + 4) ++ b := by
        apply ba_ext
        unfold putL
        rw [if_pos hr, if_neg hk, ba_list, hlen]
        simp [put32, ba]
      rw [e]; exact rput_kind k b w hr hl hk
end Go.Proofs.Ytnjifbgjglniaaa
