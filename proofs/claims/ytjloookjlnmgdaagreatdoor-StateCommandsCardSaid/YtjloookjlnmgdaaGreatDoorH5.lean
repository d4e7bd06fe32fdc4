/- Ddg, Dtx, Dlk -/
import Derived.Test.YtjloookjlnmgdaaGreatDoorG18
import Derived.Deep.LoopGhost
import Derived.Test.YtjloookjlnmgdaaGreatDoorH4
import Derived.Test.YtjloookjlnmgdaaGreatDoorG19
import Derived.Deep.RegionHeld3
import Derived.BigQuiet
set_option linter.unusedSimpArgs false
set_option linter.unusedVariables false
namespace Go.Proofs.YtjloookjlnmgdaaGreatDoor
open Go.ChangeShapes Go.WideShapes Go.ChangeAt Go.RowKit
set_option maxRecDepth 100000
set_option linter.unusedVariables false
set_option linter.unusedSimpArgs false

def numD (t : Tok) : Int := match numO t with | some k => (k : Int) | none => -1
theorem numD_none {t : Tok} (h : numO t = none) : numD t = -1 := by unfold numD; rw [h]
theorem numD_some {t : Tok} {k : Nat} (h : numO t = some k) : numD t = (k : Int) := by unfold numD; rw [h]
theorem val_next (l : Tx) (i : Nat) (h : i < l.length) : valL (l.take (i + 1)) = 10 * valL (l.take i) + ((l[i]).toNat - 48) := by
  unfold valL
  rw [List.take_add_one, List.getElem?_eq_getElem h, Option.toList_some, List.foldl_append]; rfl
set_option maxHeartbeats 2000000 in
theorem rdigs_any (t : Tok) (w : World) : Calls Tryz.prog 55 #[tkV t] w fun e w' => e = .returned (.int .i64 (numD t)) ∧ Below w.heap.size w w' := by
  obtain ⟨k, s, p⟩ := t
  have HB := Lib.hid ((Below.refl w.heap.size w).alloc (Nat.le_refl _) (.cells #[.int .i64 k, .string s, .int .i64 p] 27))
  have hnone : (k ≠ 4 ∨ 6 < s.size ∨ s.size = 0) → numD (k, s, p) = -1 := fun h => numD_none (num_none (k, s, p) (by rcases h with h | h | h <;> simp [h]))
  by_cases h4 : k = 4
  · subst h4
    by_cases h6 : 6 < s.size
    · rw [hnone (.inr (.inl h6))]
      have l6 : (6 : Int) < (s.size : Int) := by omega
      clear hnone h6
      go_enter Tryz.func55, Tryz.ntmps55
      go_wp2
      go_ret
      exact ⟨rfl, HB.out⟩
    · have l6 : ¬ ((6 : Int) < (s.size : Int)) := by omega
      by_cases h0 : s.size = 0
      · have hs : s = ⟨#[]⟩ := is_empty s h0
        rw [hnone (.inr (.inr h0))]
        subst hs
        clear hnone h6 h0 l6
        go_enter Tryz.func55, Tryz.ntmps55
        go_wp2
        go_ret
        exact ⟨rfl, HB.out⟩
      · have l0 : ¬ ((s.size : Int) = 0) := by omega
        have l00 : ¬ (s.size = 0) := h0
        have hlen : s.data.toList.length = s.size := by rw [Lib.size_eq]
        obtain ⟨R, hR⟩ : ∃ R, numD (4, s, p) = R := ⟨_, rfl⟩
        have hyes : s.data.toList.all digB = true → R = (valL s.data.toList : Int) := fun h => by
          rw [← hR]; exact numD_some (if_pos ⟨rfl, by show s.size ≤ 6; omega, h0, h⟩)
        have hno : s.data.toList.all digB = false → R = -1 := fun h => by
          rw [← hR]; exact numD_none (num_none _ (.inr (.inr (.inr h))))
        rw [hR]
        have HYES := Lib.hid hyes
        have HNO := Lib.hid hno
        have HLEN := Lib.hid hlen
        have H6 := Lib.hid h6
        obtain ⟨W0, hW0⟩ : ∃ W0, w.alloc (.cells #[.int .i64 4, .string s, .int .i64 p] 27) = W0 := ⟨_, rfl⟩
        have y0 : W0.cell? ⟨w.heap.size, 0, none⟩ = some (.int .i64 4) := by rw [← hW0, World.cell?_alloc_new]; rfl
        have y1 : W0.cell? ⟨w.heap.size, 1, none⟩ = some (.string s) := by rw [← hW0, World.cell?_alloc_new]; rfl
        have HW0 := Lib.hid hW0
        clear hnone h6 h0 hlen hR hyes hno hW0
        go_enter Tryz.func55, Tryz.ntmps55
        go_wp2_with fail
        rw [HW0.out]
        rw [HW0.out] at HB
        clear HW0
        go_wp2
        go_loopg [3, 4] s.size (fun gk u3 u4 wx => ∃ i : Nat, u4 = .int .i64 (i : Int) ∧ i + gk = s.size ∧ wx = W0 ∧ u3 = .int .i64 (valL (s.data.toList.take i) : Int) ∧ valL (s.data.toList.take i) < 10 ^ i ∧ (s.data.toList.take i).all digB = true)
        case atStart => exact ⟨0, rfl, by omega, rfl, rfl, by rw [List.take_zero]; decide, rfl⟩
        case round =>
          obtain ⟨i, rfl, hi, rfl, rfl, hv, had⟩ := hrel
          have HI := Lib.hid hi
          have hi6 : i ≤ 6 := by have := H6.out; omega
          have hp6 : 10 ^ i ≤ 10 ^ 6 := Nat.pow_le_pow_right (by decide) hi6
          cases gk with
          | zero =>
            have l1 : ¬ ((i : Int) < (s.size : Int)) := by omega
            have ht : s.data.toList.take i = s.data.toList := List.take_of_length_le (by have := HLEN.out; omega)
            rw [ht] at had hv ⊢
            have HR := Lib.hid (HYES.out had)
            clear hi hv had ht hp6 hi6
            go_wp2
            go_ret
            exact ⟨by rw [HR.out]; rfl, HB.out⟩
          | succ gk =>
            have hlt : i < s.size := by omega
            have hll : i < s.data.toList.length := by have := HLEN.out; omega
            obtain ⟨c, hc⟩ : ∃ c, s.data.toList[i] = c := ⟨_, rfl⟩
            have hsc : s[i]'hlt = c := by rw [← hc]; rfl
            obtain ⟨z, hz⟩ : ∃ z : Int, (c.toNat : Int) = z := ⟨_, rfl⟩
            have hci : ((s[i]'hlt).toNat : Int) = z := by rw [hsc, hz]
            have hz0 : 0 ≤ z := by omega
            have hz1 : z < 256 := by have := c.toNat_lt; omega
            have l0 : (0 : Int) ≤ (i : Int) := by omega
            have l1 : (i : Int) < (s.size : Int) := by omega
            obtain ⟨i1, hi1⟩ : ∃ i1, i + 1 = i1 := ⟨_, rfl⟩
            have wk : IntKind.i64.wrap ((i : Int) + 1) = (i1 : Int) := by rw [show (i : Int) + 1 = (i1 : Int) by omega]; exact IntWalk.i64_in _ (by omega)
            have HI1 := Lib.hid hi1
            have hdc : digB c = decide (48 ≤ z ∧ z ≤ 57) := by
              show digN (c.toNat : Int) = _
              rw [hz]; rfl
            have hvn := val_next s.data.toList i hll
            rw [hc] at hvn
            have hall : (s.data.toList.take (i + 1)).all digB = digB c := by
              rw [List.take_add_one, List.getElem?_eq_getElem hll, Option.toList_some, List.all_append, had, Bool.true_and, hc]
              simp
            have hbad : digB c = false → s.data.toList.all digB = false := fun h => by
              rw [Bool.eq_false_iff]
              intro h2
              have := List.all_eq_true.1 h2 c (by rw [← hc]; exact List.getElem_mem hll)
              rw [h] at this; cases this
            obtain ⟨v, hvv⟩ : ∃ v, valL (s.data.toList.take i) = v := ⟨_, rfl⟩
            rw [hvv] at hv hvn ⊢
            by_cases h1 : z < 48
            · have HR := Lib.hid (HNO.out (hbad (by rw [hdc, decide_eq_false (by omega)])))
              clear hi hv had hp6 hi6 hll hc hsc hz hdc hvn hall hbad hvv hi1
              go_wp2
              go_ret
              exact ⟨by rw [HR.out]; rfl, HB.out⟩
            · by_cases h2 : 57 < z
              · have HR := Lib.hid (HNO.out (hbad (by rw [hdc, decide_eq_false (by omega)])))
                clear hi hv had hp6 hi6 hll hc hsc hz hdc hvn hall hbad hvv hi1
                go_wp2
                go_ret
                exact ⟨by rw [HR.out]; rfl, HB.out⟩
              · have hdg : digB c = true := by rw [hdc, decide_eq_true (by omega)]
                rw [hdg] at hall
                obtain ⟨v1, hv1⟩ : ∃ v1, valL (s.data.toList.take (i + 1)) = v1 := ⟨_, rfl⟩
                rw [hv1] at hvn
                have wm : IntKind.i64.wrap (10 * (v : Int)) = 10 * (v : Int) := IntWalk.i64_in _ (by omega)
                have ws : IntKind.u8.wrap (z - 48) = z - 48 := IntWalk.u8_in _ (by omega)
                have wc : IntKind.i64.wrap (z - 48) = z - 48 := IntWalk.i64_in _ (by omega)
                have wa : IntKind.i64.wrap (10 * (v : Int) + (z - 48)) = (v1 : Int) := by
                  rw [show 10 * (v : Int) + (z - 48) = (v1 : Int) by omega]; exact IntWalk.i64_in _ (by omega)
                have hpw : v1 < 10 ^ (i + 1) := by rw [Nat.pow_succ]; omega
                rw [← hv1] at hpw
                have HPW := Lib.hid hpw
                have HALL := Lib.hid hall
                have HV1 := Lib.hid hv1
                clear hi hv had hp6 hi6 hll hc hsc hz hdc hvn hall hbad hvv hi1 hdg hpw hv1
                go_wp2
                go_roundg gk
                case measure => exact Nat.lt_succ_self _
                case rel => exact ⟨i1, rfl, by have := HI1.out; have := HI.out; omega, rfl, by rw [← HI1.out, HV1.out], by rw [← HI1.out]; exact HPW.out, by rw [← HI1.out]; exact HALL.out⟩
  · rw [hnone (.inl h4)]
    have l4 : (k != 4) = true := by rw [bne_iff_ne]; exact h4
    clear hnone h4
    go_enter Tryz.func55, Tryz.ntmps55
    go_wp2
    go_ret
    exact ⟨rfl, HB.out⟩

theorem docnameB (s : ByteArray) (b : Bool) (hb : nameB s = b) (hs : s.size ≤ 1000000) (w : World) :
    Calls Tryz.prog 32 #[.string s] w fun e w' => e = .returned (.bool b) ∧ Below w.heap.size w w' := by
  subst hb; exact docname_any s w hs
theorem rinnB (n : Int) (b : Bool) (hb : inN n = b) (w : World) : Calls Tryz.prog 33 #[.int .i64 n] w fun e w' => e = .returned (.bool b) ∧ Below w.heap.size w w' := by
  subst hb
  refine (rinn_any n w).mono ?_
  rintro e w' ⟨he, rfl⟩
  exact ⟨he, Below.refl _ _⟩
theorem rdigB (n : Int) (hb : inN n = true) (w : World) : Calls Tryz.prog 34 #[.int .i64 n] w fun e w' => e = .returned (.string (bb (Lib.itoa n))) ∧ Below w.heap.size w w' := by
  have := of_decide_eq_true hb
  exact rDigits_int n this.1 (by omega) w
theorem bbApp (a b : Tx) : bb (a ++ b) = bb a ++ bb b := by
  apply ByteArray.ext
  simp [bb]
theorem addEmp (a : ByteArray) : a ++ (⟨#[]⟩ : ByteArray) = a := by
  apply ByteArray.ext
  simp
theorem bbData (n : ByteArray) : bb n.data.toList = n := by
  apply ByteArray.ext
  simp [bb]
set_option maxHeartbeats 2000000 in
theorem dt_name (kd : Int) (n : ByteArray) (K V : Int) (kb : Bool) (w : World) (hs : n.size ≤ 1000000) (h1 : nameB n = false) :
    Calls Tryz.prog 13 #[.agg #[.int .i64 kd, .string n, .int .i64 K, .int .i64 V, .bool kb]] w fun e w' => e = .returned (.string ⟨#[]⟩) ∧ Below w.heap.size w w' := by
  have HB0 := Lib.hid (Below.refl w.heap.size w)
  have HM0 := Lib.hid (Below.refl w.heap.size w)
  have HSZ := Lib.hid hs
  clear hs
  go_enter Tryz.func13, Tryz.ntmps13
  go_wp2_with fail
  obtain ⟨W0, hW0⟩ : ∃ W0, w.alloc (.cells #[.int .i64 kd, .string n, .int .i64 K, .int .i64 V, .bool kb] 24) = W0 := ⟨_, rfl⟩
  have hb0 : Below w.heap.size w W0 := by rw [← hW0]; exact (Below.refl _ _).alloc (Nat.le_refl _) _
  have HB1 := Lib.hid hb0
  have hk0 : Blk W0 w.heap.size 24 (cmCells (kd, n, K, V, kb)) := by rw [← hW0]; exact Blk.new _ _ _
  have HK := Lib.hid hk0
  rw [hW0]
  clear hW0 hk0 hb0 HM0
  obtain ⟨y0, y1, y2, y3, y4⟩ := cm_results (kd, n, K, V, kb) HK.out
  simp only at y0 y1 y2 y3 y4
  go_wp2_with fail
  refine (docnameB n false h1 HSZ.out _).mono ?_
  rintro e w2 ⟨rfl, hb2⟩
  have HB2 := Lib.hid (HB1.out.trans (hb2.mono HB1.out.size))
  have HK := Lib.hid (HK.out.below hb2 (Blk.lt HK.out))
  clear hb2 y0 y1 y2 y3 y4
  go_wp2
  go_ret
  exact ⟨rfl, HB2.out⟩
set_option maxHeartbeats 2000000 in
theorem dt_k (kd : Int) (n : ByteArray) (K V : Int) (kb : Bool) (w : World) (hs : n.size ≤ 1000000) (h1 : nameB n = true) (h2 : inN K = false) :
    Calls Tryz.prog 13 #[.agg #[.int .i64 kd, .string n, .int .i64 K, .int .i64 V, .bool kb]] w fun e w' => e = .returned (.string ⟨#[]⟩) ∧ Below w.heap.size w w' := by
  have HB0 := Lib.hid (Below.refl w.heap.size w)
  have HM0 := Lib.hid (Below.refl w.heap.size w)
  have HSZ := Lib.hid hs
  clear hs
  go_enter Tryz.func13, Tryz.ntmps13
  go_wp2_with fail
  obtain ⟨W0, hW0⟩ : ∃ W0, w.alloc (.cells #[.int .i64 kd, .string n, .int .i64 K, .int .i64 V, .bool kb] 24) = W0 := ⟨_, rfl⟩
  have hb0 : Below w.heap.size w W0 := by rw [← hW0]; exact (Below.refl _ _).alloc (Nat.le_refl _) _
  have HB1 := Lib.hid hb0
  have hk0 : Blk W0 w.heap.size 24 (cmCells (kd, n, K, V, kb)) := by rw [← hW0]; exact Blk.new _ _ _
  have HK := Lib.hid hk0
  rw [hW0]
  clear hW0 hk0 hb0 HM0
  obtain ⟨y0, y1, y2, y3, y4⟩ := cm_results (kd, n, K, V, kb) HK.out
  simp only at y0 y1 y2 y3 y4
  go_wp2_with fail
  refine (docnameB n true h1 HSZ.out _).mono ?_
  rintro e w2 ⟨rfl, hb2⟩
  have HB2 := Lib.hid (HB1.out.trans (hb2.mono HB1.out.size))
  have HK := Lib.hid (HK.out.below hb2 (Blk.lt HK.out))
  clear hb2 y0 y1 y2 y3 y4
  obtain ⟨y0, y1, y2, y3, y4⟩ := cm_results (kd, n, K, V, kb) HK.out
  simp only at y0 y1 y2 y3 y4
  go_wp2_with fail
  refine (rinnB K false h2 _).mono ?_
  rintro e w3 ⟨rfl, hb3⟩
  have HB3 := Lib.hid (HB2.out.trans (hb3.mono HB2.out.size))
  have HK := Lib.hid (HK.out.below hb3 (Blk.lt HK.out))
  clear hb3 y0 y1 y2 y3 y4
  go_wp2
  go_ret
  exact ⟨rfl, HB3.out⟩
set_option maxHeartbeats 2000000 in
theorem dt_v (kd : Int) (n : ByteArray) (K V : Int) (kb : Bool) (w : World) (hs : n.size ≤ 1000000) (h1 : nameB n = true) (h2 : inN K = true) (h3 : inN V = false) :
    Calls Tryz.prog 13 #[.agg #[.int .i64 kd, .string n, .int .i64 K, .int .i64 V, .bool kb]] w fun e w' => e = .returned (.string ⟨#[]⟩) ∧ Below w.heap.size w w' := by
  have HB0 := Lib.hid (Below.refl w.heap.size w)
  have HM0 := Lib.hid (Below.refl w.heap.size w)
  have HSZ := Lib.hid hs
  clear hs
  go_enter Tryz.func13, Tryz.ntmps13
  go_wp2_with fail
  obtain ⟨W0, hW0⟩ : ∃ W0, w.alloc (.cells #[.int .i64 kd, .string n, .int .i64 K, .int .i64 V, .bool kb] 24) = W0 := ⟨_, rfl⟩
  have hb0 : Below w.heap.size w W0 := by rw [← hW0]; exact (Below.refl _ _).alloc (Nat.le_refl _) _
  have HB1 := Lib.hid hb0
  have hk0 : Blk W0 w.heap.size 24 (cmCells (kd, n, K, V, kb)) := by rw [← hW0]; exact Blk.new _ _ _
  have HK := Lib.hid hk0
  rw [hW0]
  clear hW0 hk0 hb0 HM0
  obtain ⟨y0, y1, y2, y3, y4⟩ := cm_results (kd, n, K, V, kb) HK.out
  simp only at y0 y1 y2 y3 y4
  go_wp2_with fail
  refine (docnameB n true h1 HSZ.out _).mono ?_
  rintro e w2 ⟨rfl, hb2⟩
  have HB2 := Lib.hid (HB1.out.trans (hb2.mono HB1.out.size))
  have HK := Lib.hid (HK.out.below hb2 (Blk.lt HK.out))
  clear hb2 y0 y1 y2 y3 y4
  obtain ⟨y0, y1, y2, y3, y4⟩ := cm_results (kd, n, K, V, kb) HK.out
  simp only at y0 y1 y2 y3 y4
  go_wp2_with fail
  refine (rinnB K true h2 _).mono ?_
  rintro e w3 ⟨rfl, hb3⟩
  have HB3 := Lib.hid (HB2.out.trans (hb3.mono HB2.out.size))
  have HK := Lib.hid (HK.out.below hb3 (Blk.lt HK.out))
  clear hb3 y0 y1 y2 y3 y4
  obtain ⟨y0, y1, y2, y3, y4⟩ := cm_results (kd, n, K, V, kb) HK.out
  simp only at y0 y1 y2 y3 y4
  go_wp2_with fail
  refine (rinnB V false h3 _).mono ?_
  rintro e w4 ⟨rfl, hb4⟩
  have HB4 := Lib.hid (HB3.out.trans (hb4.mono HB3.out.size))
  have HK := Lib.hid (HK.out.below hb4 (Blk.lt HK.out))
  clear hb4 y0 y1 y2 y3 y4
  go_wp2
  go_ret
  exact ⟨rfl, HB4.out⟩
set_option maxHeartbeats 2000000 in
theorem dt_nk (kd : Int) (n : ByteArray) (K V : Int) (w : World) (hs : n.size ≤ 1000000) (h1 : nameB n = true) (h2 : inN K = true) (h3 : inN V = true) (h4 : K ≠ 0) :
    Calls Tryz.prog 13 #[.agg #[.int .i64 kd, .string n, .int .i64 K, .int .i64 V, .bool false]] w fun e w' => e = .returned (.string ⟨#[]⟩) ∧ Below w.heap.size w w' := by
  have k0 : (K != 0) = true := by rw [bne_iff_ne]; exact h4
  have k1 : decide (K ≠ 0) = true := decide_eq_true h4
  have HB0 := Lib.hid (Below.refl w.heap.size w)
  have HM0 := Lib.hid (Below.refl w.heap.size w)
  have HSZ := Lib.hid hs
  clear hs
  go_enter Tryz.func13, Tryz.ntmps13
  go_wp2_with fail
  obtain ⟨W0, hW0⟩ : ∃ W0, w.alloc (.cells #[.int .i64 kd, .string n, .int .i64 K, .int .i64 V, .bool false] 24) = W0 := ⟨_, rfl⟩
  have hb0 : Below w.heap.size w W0 := by rw [← hW0]; exact (Below.refl _ _).alloc (Nat.le_refl _) _
  have HB1 := Lib.hid hb0
  have hk0 : Blk W0 w.heap.size 24 (cmCells (kd, n, K, V, false)) := by rw [← hW0]; exact Blk.new _ _ _
  have HK := Lib.hid hk0
  rw [hW0]
  clear hW0 hk0 hb0 HM0
  obtain ⟨y0, y1, y2, y3, y4⟩ := cm_results (kd, n, K, V, false) HK.out
  simp only at y0 y1 y2 y3 y4
  go_wp2_with fail
  refine (docnameB n true h1 HSZ.out _).mono ?_
  rintro e w2 ⟨rfl, hb2⟩
  have HB2 := Lib.hid (HB1.out.trans (hb2.mono HB1.out.size))
  have HK := Lib.hid (HK.out.below hb2 (Blk.lt HK.out))
  clear hb2 y0 y1 y2 y3 y4
  obtain ⟨y0, y1, y2, y3, y4⟩ := cm_results (kd, n, K, V, false) HK.out
  simp only at y0 y1 y2 y3 y4
  go_wp2_with fail
  refine (rinnB K true h2 _).mono ?_
  rintro e w3 ⟨rfl, hb3⟩
  have HB3 := Lib.hid (HB2.out.trans (hb3.mono HB2.out.size))
  have HK := Lib.hid (HK.out.below hb3 (Blk.lt HK.out))
  clear hb3 y0 y1 y2 y3 y4
  obtain ⟨y0, y1, y2, y3, y4⟩ := cm_results (kd, n, K, V, false) HK.out
  simp only at y0 y1 y2 y3 y4
  go_wp2_with fail
  refine (rinnB V true h3 _).mono ?_
  rintro e w4 ⟨rfl, hb4⟩
  have HB4 := Lib.hid (HB3.out.trans (hb4.mono HB3.out.size))
  have HK := Lib.hid (HK.out.below hb4 (Blk.lt HK.out))
  clear hb4 y0 y1 y2 y3 y4
  obtain ⟨y0, y1, y2, y3, y4⟩ := cm_results (kd, n, K, V, false) HK.out
  simp only at y0 y1 y2 y3 y4
  go_wp2
  go_ret
  exact ⟨rfl, HB4.out⟩
set_option maxHeartbeats 2000000 in
theorem dt_nv (kd : Int) (n : ByteArray) (K V : Int) (w : World) (hs : n.size ≤ 1000000) (h1 : nameB n = true) (h2 : inN K = true) (h3 : inN V = true) (h4 : V ≠ 0) (h5 : kd ≠ 2) :
    Calls Tryz.prog 13 #[.agg #[.int .i64 kd, .string n, .int .i64 K, .int .i64 V, .bool true]] w fun e w' => e = .returned (.string ⟨#[]⟩) ∧ Below w.heap.size w w' := by
  have v0 : (V != 0) = true := by rw [bne_iff_ne]; exact h4
  have d2 : (kd != 2) = true := by rw [bne_iff_ne]; exact h5
  have HB0 := Lib.hid (Below.refl w.heap.size w)
  have HM0 := Lib.hid (Below.refl w.heap.size w)
  have HSZ := Lib.hid hs
  clear hs
  go_enter Tryz.func13, Tryz.ntmps13
  go_wp2_with fail
  obtain ⟨W0, hW0⟩ : ∃ W0, w.alloc (.cells #[.int .i64 kd, .string n, .int .i64 K, .int .i64 V, .bool true] 24) = W0 := ⟨_, rfl⟩
  have hb0 : Below w.heap.size w W0 := by rw [← hW0]; exact (Below.refl _ _).alloc (Nat.le_refl _) _
  have HB1 := Lib.hid hb0
  have hk0 : Blk W0 w.heap.size 24 (cmCells (kd, n, K, V, true)) := by rw [← hW0]; exact Blk.new _ _ _
  have HK := Lib.hid hk0
  rw [hW0]
  clear hW0 hk0 hb0 HM0
  obtain ⟨y0, y1, y2, y3, y4⟩ := cm_results (kd, n, K, V, true) HK.out
  simp only at y0 y1 y2 y3 y4
  go_wp2_with fail
  refine (docnameB n true h1 HSZ.out _).mono ?_
  rintro e w2 ⟨rfl, hb2⟩
  have HB2 := Lib.hid (HB1.out.trans (hb2.mono HB1.out.size))
  have HK := Lib.hid (HK.out.below hb2 (Blk.lt HK.out))
  clear hb2 y0 y1 y2 y3 y4
  obtain ⟨y0, y1, y2, y3, y4⟩ := cm_results (kd, n, K, V, true) HK.out
  simp only at y0 y1 y2 y3 y4
  go_wp2_with fail
  refine (rinnB K true h2 _).mono ?_
  rintro e w3 ⟨rfl, hb3⟩
  have HB3 := Lib.hid (HB2.out.trans (hb3.mono HB2.out.size))
  have HK := Lib.hid (HK.out.below hb3 (Blk.lt HK.out))
  clear hb3 y0 y1 y2 y3 y4
  obtain ⟨y0, y1, y2, y3, y4⟩ := cm_results (kd, n, K, V, true) HK.out
  simp only at y0 y1 y2 y3 y4
  go_wp2_with fail
  refine (rinnB V true h3 _).mono ?_
  rintro e w4 ⟨rfl, hb4⟩
  have HB4 := Lib.hid (HB3.out.trans (hb4.mono HB3.out.size))
  have HK := Lib.hid (HK.out.below hb4 (Blk.lt HK.out))
  clear hb4 y0 y1 y2 y3 y4
  obtain ⟨y0, y1, y2, y3, y4⟩ := cm_results (kd, n, K, V, true) HK.out
  simp only at y0 y1 y2 y3 y4
  go_wp2
  go_ret
  exact ⟨rfl, HB4.out⟩
set_option maxHeartbeats 2000000 in
theorem dt_nv0 (kd : Int) (n : ByteArray) (V : Int) (w : World) (hs : n.size ≤ 1000000) (h1 : nameB n = true) (h2 : inN 0 = true) (h3 : inN V = true) (h4 : V ≠ 0) (h5 : kd ≠ 2) :
    Calls Tryz.prog 13 #[.agg #[.int .i64 kd, .string n, .int .i64 0, .int .i64 V, .bool false]] w fun e w' => e = .returned (.string ⟨#[]⟩) ∧ Below w.heap.size w w' := by
  have v0 : (V != 0) = true := by rw [bne_iff_ne]; exact h4
  have d2 : (kd != 2) = true := by rw [bne_iff_ne]; exact h5
  have HB0 := Lib.hid (Below.refl w.heap.size w)
  have HM0 := Lib.hid (Below.refl w.heap.size w)
  have HSZ := Lib.hid hs
  clear hs
  go_enter Tryz.func13, Tryz.ntmps13
  go_wp2_with fail
  obtain ⟨W0, hW0⟩ : ∃ W0, w.alloc (.cells #[.int .i64 kd, .string n, .int .i64 0, .int .i64 V, .bool false] 24) = W0 := ⟨_, rfl⟩
  have hb0 : Below w.heap.size w W0 := by rw [← hW0]; exact (Below.refl _ _).alloc (Nat.le_refl _) _
  have HB1 := Lib.hid hb0
  have hk0 : Blk W0 w.heap.size 24 (cmCells (kd, n, 0, V, false)) := by rw [← hW0]; exact Blk.new _ _ _
  have HK := Lib.hid hk0
  rw [hW0]
  clear hW0 hk0 hb0 HM0
  obtain ⟨y0, y1, y2, y3, y4⟩ := cm_results (kd, n, 0, V, false) HK.out
  simp only at y0 y1 y2 y3 y4
  go_wp2_with fail
  refine (docnameB n true h1 HSZ.out _).mono ?_
  rintro e w2 ⟨rfl, hb2⟩
  have HB2 := Lib.hid (HB1.out.trans (hb2.mono HB1.out.size))
  have HK := Lib.hid (HK.out.below hb2 (Blk.lt HK.out))
  clear hb2 y0 y1 y2 y3 y4
  obtain ⟨y0, y1, y2, y3, y4⟩ := cm_results (kd, n, 0, V, false) HK.out
  simp only at y0 y1 y2 y3 y4
  go_wp2_with fail
  refine (rinnB 0 true h2 _).mono ?_
  rintro e w3 ⟨rfl, hb3⟩
  have HB3 := Lib.hid (HB2.out.trans (hb3.mono HB2.out.size))
  have HK := Lib.hid (HK.out.below hb3 (Blk.lt HK.out))
  clear hb3 y0 y1 y2 y3 y4
  obtain ⟨y0, y1, y2, y3, y4⟩ := cm_results (kd, n, 0, V, false) HK.out
  simp only at y0 y1 y2 y3 y4
  go_wp2_with fail
  refine (rinnB V true h3 _).mono ?_
  rintro e w4 ⟨rfl, hb4⟩
  have HB4 := Lib.hid (HB3.out.trans (hb4.mono HB3.out.size))
  have HK := Lib.hid (HK.out.below hb4 (Blk.lt HK.out))
  clear hb4 y0 y1 y2 y3 y4
  obtain ⟨y0, y1, y2, y3, y4⟩ := cm_results (kd, n, 0, V, false) HK.out
  simp only at y0 y1 y2 y3 y4
  go_wp2
  go_ret
  exact ⟨rfl, HB4.out⟩
set_option maxHeartbeats 2000000 in
theorem dg_get (n : ByteArray) (K : Int) (w : World) (hs : n.size ≤ 1000000) (h1 : nameB n = true) (h2 : inN K = true) (h3 : inN 0 = true) :
    Calls Tryz.prog 13 #[.agg #[.int .i64 1, .string n, .int .i64 K, .int .i64 0, .bool true]] w fun e w' => e = .returned (.string (⟨#[115, 101, 108, 101, 99, 116, 32, 42, 32, 102, 114, 111, 109, 32]⟩ ++ n ++ (⟨#[32, 119, 104, 101, 114, 101, 32, 107, 32, 61, 32]⟩ ++ bb (Lib.itoa K)))) ∧ Below w.heap.size w w' := by
  have lz : (Lib.itoa K).length ≤ 6 := by obtain ⟨_, _, _, _, _, _, lz⟩ := itoa_in K h2; exact lz
  have q0 : ¬ (9223372036854775807 < 11 + (Lib.itoa K).length) := by omega
  have q1 : ¬ (9223372036854775807 < 14 + n.size) := by omega
  have q2 : ¬ (9223372036854775807 < 14 + n.size + (11 + (Lib.itoa K).length)) := by omega
  clear lz
  have HB0 := Lib.hid (Below.refl w.heap.size w)
  have HM0 := Lib.hid (Below.refl w.heap.size w)
  have HSZ := Lib.hid hs
  clear hs
  go_enter Tryz.func13, Tryz.ntmps13
  go_wp2_with fail
  obtain ⟨W0, hW0⟩ : ∃ W0, w.alloc (.cells #[.int .i64 1, .string n, .int .i64 K, .int .i64 0, .bool true] 24) = W0 := ⟨_, rfl⟩
  have hb0 : Below w.heap.size w W0 := by rw [← hW0]; exact (Below.refl _ _).alloc (Nat.le_refl _) _
  have HB1 := Lib.hid hb0
  have hk0 : Blk W0 w.heap.size 24 (cmCells (1, n, K, 0, true)) := by rw [← hW0]; exact Blk.new _ _ _
  have HK := Lib.hid hk0
  rw [hW0]
  clear hW0 hk0 hb0 HM0
  obtain ⟨y0, y1, y2, y3, y4⟩ := cm_results (1, n, K, 0, true) HK.out
  simp only at y0 y1 y2 y3 y4
  go_wp2_with fail
  refine (docnameB n true h1 HSZ.out _).mono ?_
  rintro e w2 ⟨rfl, hb2⟩
  have HB2 := Lib.hid (HB1.out.trans (hb2.mono HB1.out.size))
  have HK := Lib.hid (HK.out.below hb2 (Blk.lt HK.out))
  clear hb2 y0 y1 y2 y3 y4
  obtain ⟨y0, y1, y2, y3, y4⟩ := cm_results (1, n, K, 0, true) HK.out
  simp only at y0 y1 y2 y3 y4
  go_wp2_with fail
  refine (rinnB K true h2 _).mono ?_
  rintro e w3 ⟨rfl, hb3⟩
  have HB3 := Lib.hid (HB2.out.trans (hb3.mono HB2.out.size))
  have HK := Lib.hid (HK.out.below hb3 (Blk.lt HK.out))
  clear hb3 y0 y1 y2 y3 y4
  obtain ⟨y0, y1, y2, y3, y4⟩ := cm_results (1, n, K, 0, true) HK.out
  simp only at y0 y1 y2 y3 y4
  go_wp2_with fail
  refine (rinnB 0 true h3 _).mono ?_
  rintro e w4 ⟨rfl, hb4⟩
  have HB4 := Lib.hid (HB3.out.trans (hb4.mono HB3.out.size))
  have HK := Lib.hid (HK.out.below hb4 (Blk.lt HK.out))
  clear hb4 y0 y1 y2 y3 y4
  obtain ⟨y0, y1, y2, y3, y4⟩ := cm_results (1, n, K, 0, true) HK.out
  simp only at y0 y1 y2 y3 y4
  go_wp2_with fail
  refine (rdigB K h2 _).mono ?_
  rintro e w5 ⟨rfl, hb5⟩
  have HB5 := Lib.hid (HB4.out.trans (hb5.mono HB4.out.size))
  have HK := Lib.hid (HK.out.below hb5 (Blk.lt HK.out))
  clear hb5 y0 y1 y2 y3 y4
  obtain ⟨y0, y1, y2, y3, y4⟩ := cm_results (1, n, K, 0, true) HK.out
  simp only at y0 y1 y2 y3 y4
  go_wp2
  go_ret
  exact ⟨rfl, HB5.out⟩
set_option maxHeartbeats 2000000 in
theorem dg_all (n : ByteArray) (w : World) (hs : n.size ≤ 1000000) (h1 : nameB n = true) (h2 : inN 0 = true) (h3 : inN 0 = true) :
    Calls Tryz.prog 13 #[.agg #[.int .i64 1, .string n, .int .i64 0, .int .i64 0, .bool false]] w fun e w' => e = .returned (.string (⟨#[115, 101, 108, 101, 99, 116, 32, 42, 32, 102, 114, 111, 109, 32]⟩ ++ n ++ (⟨#[]⟩ : ByteArray))) ∧ Below w.heap.size w w' := by
  have lz : (Lib.itoa 0).length ≤ 6 := by obtain ⟨_, _, _, _, _, _, lz⟩ := itoa_in 0 h2; exact lz
  have q0 : ¬ (9223372036854775807 < 11 + (Lib.itoa 0).length) := by omega
  have q1 : ¬ (9223372036854775807 < 14 + n.size) := by omega
  have q2 : ¬ (9223372036854775807 < 14 + n.size + (11 + (Lib.itoa 0).length)) := by omega
  clear lz
  have HB0 := Lib.hid (Below.refl w.heap.size w)
  have HM0 := Lib.hid (Below.refl w.heap.size w)
  have HSZ := Lib.hid hs
  clear hs
  go_enter Tryz.func13, Tryz.ntmps13
  go_wp2_with fail
  obtain ⟨W0, hW0⟩ : ∃ W0, w.alloc (.cells #[.int .i64 1, .string n, .int .i64 0, .int .i64 0, .bool false] 24) = W0 := ⟨_, rfl⟩
  have hb0 : Below w.heap.size w W0 := by rw [← hW0]; exact (Below.refl _ _).alloc (Nat.le_refl _) _
  have HB1 := Lib.hid hb0
  have hk0 : Blk W0 w.heap.size 24 (cmCells (1, n, 0, 0, false)) := by rw [← hW0]; exact Blk.new _ _ _
  have HK := Lib.hid hk0
  rw [hW0]
  clear hW0 hk0 hb0 HM0
  obtain ⟨y0, y1, y2, y3, y4⟩ := cm_results (1, n, 0, 0, false) HK.out
  simp only at y0 y1 y2 y3 y4
  go_wp2_with fail
  refine (docnameB n true h1 HSZ.out _).mono ?_
  rintro e w2 ⟨rfl, hb2⟩
  have HB2 := Lib.hid (HB1.out.trans (hb2.mono HB1.out.size))
  have HK := Lib.hid (HK.out.below hb2 (Blk.lt HK.out))
  clear hb2 y0 y1 y2 y3 y4
  obtain ⟨y0, y1, y2, y3, y4⟩ := cm_results (1, n, 0, 0, false) HK.out
  simp only at y0 y1 y2 y3 y4
  go_wp2_with fail
  refine (rinnB 0 true h2 _).mono ?_
  rintro e w3 ⟨rfl, hb3⟩
  have HB3 := Lib.hid (HB2.out.trans (hb3.mono HB2.out.size))
  have HK := Lib.hid (HK.out.below hb3 (Blk.lt HK.out))
  clear hb3 y0 y1 y2 y3 y4
  obtain ⟨y0, y1, y2, y3, y4⟩ := cm_results (1, n, 0, 0, false) HK.out
  simp only at y0 y1 y2 y3 y4
  go_wp2_with fail
  refine (rinnB 0 true h3 _).mono ?_
  rintro e w4 ⟨rfl, hb4⟩
  have HB4 := Lib.hid (HB3.out.trans (hb4.mono HB3.out.size))
  have HK := Lib.hid (HK.out.below hb4 (Blk.lt HK.out))
  clear hb4 y0 y1 y2 y3 y4
  obtain ⟨y0, y1, y2, y3, y4⟩ := cm_results (1, n, 0, 0, false) HK.out
  simp only at y0 y1 y2 y3 y4
  go_wp2_with fail
  refine (rdigB 0 h2 _).mono ?_
  rintro e w5 ⟨rfl, hb5⟩
  have HB5 := Lib.hid (HB4.out.trans (hb5.mono HB4.out.size))
  have HK := Lib.hid (HK.out.below hb5 (Blk.lt HK.out))
  clear hb5 y0 y1 y2 y3 y4
  obtain ⟨y0, y1, y2, y3, y4⟩ := cm_results (1, n, 0, 0, false) HK.out
  simp only at y0 y1 y2 y3 y4
  go_wp2
  go_ret
  exact ⟨rfl, HB5.out⟩
set_option maxHeartbeats 2000000 in
theorem dg_put0 (n : ByteArray) (V : Int) (w : World) (hs : n.size ≤ 1000000) (h1 : nameB n = true) (h2 : inN 0 = true) (h3 : inN V = true) :
    Calls Tryz.prog 13 #[.agg #[.int .i64 2, .string n, .int .i64 0, .int .i64 V, .bool false]] w fun e w' => e = .returned (.string ⟨#[]⟩) ∧ Below w.heap.size w w' := by
  have lz : (Lib.itoa 0).length ≤ 6 := by obtain ⟨_, _, _, _, _, _, lz⟩ := itoa_in 0 h2; exact lz
  have q0 : ¬ (9223372036854775807 < 11 + (Lib.itoa 0).length) := by omega
  have q1 : ¬ (9223372036854775807 < 12 + n.size) := by omega
  have q2 : ¬ (9223372036854775807 < 12 + n.size + (11 + (Lib.itoa 0).length)) := by omega
  clear lz
  have HB0 := Lib.hid (Below.refl w.heap.size w)
  have HM0 := Lib.hid (Below.refl w.heap.size w)
  have HSZ := Lib.hid hs
  clear hs
  go_enter Tryz.func13, Tryz.ntmps13
  go_wp2_with fail
  obtain ⟨W0, hW0⟩ : ∃ W0, w.alloc (.cells #[.int .i64 2, .string n, .int .i64 0, .int .i64 V, .bool false] 24) = W0 := ⟨_, rfl⟩
  have hb0 : Below w.heap.size w W0 := by rw [← hW0]; exact (Below.refl _ _).alloc (Nat.le_refl _) _
  have HB1 := Lib.hid hb0
  have hk0 : Blk W0 w.heap.size 24 (cmCells (2, n, 0, V, false)) := by rw [← hW0]; exact Blk.new _ _ _
  have HK := Lib.hid hk0
  rw [hW0]
  clear hW0 hk0 hb0 HM0
  obtain ⟨y0, y1, y2, y3, y4⟩ := cm_results (2, n, 0, V, false) HK.out
  simp only at y0 y1 y2 y3 y4
  go_wp2_with fail
  refine (docnameB n true h1 HSZ.out _).mono ?_
  rintro e w2 ⟨rfl, hb2⟩
  have HB2 := Lib.hid (HB1.out.trans (hb2.mono HB1.out.size))
  have HK := Lib.hid (HK.out.below hb2 (Blk.lt HK.out))
  clear hb2 y0 y1 y2 y3 y4
  obtain ⟨y0, y1, y2, y3, y4⟩ := cm_results (2, n, 0, V, false) HK.out
  simp only at y0 y1 y2 y3 y4
  go_wp2_with fail
  refine (rinnB 0 true h2 _).mono ?_
  rintro e w3 ⟨rfl, hb3⟩
  have HB3 := Lib.hid (HB2.out.trans (hb3.mono HB2.out.size))
  have HK := Lib.hid (HK.out.below hb3 (Blk.lt HK.out))
  clear hb3 y0 y1 y2 y3 y4
  obtain ⟨y0, y1, y2, y3, y4⟩ := cm_results (2, n, 0, V, false) HK.out
  simp only at y0 y1 y2 y3 y4
  go_wp2_with fail
  refine (rinnB V true h3 _).mono ?_
  rintro e w4 ⟨rfl, hb4⟩
  have HB4 := Lib.hid (HB3.out.trans (hb4.mono HB3.out.size))
  have HK := Lib.hid (HK.out.below hb4 (Blk.lt HK.out))
  clear hb4 y0 y1 y2 y3 y4
  obtain ⟨y0, y1, y2, y3, y4⟩ := cm_results (2, n, 0, V, false) HK.out
  simp only at y0 y1 y2 y3 y4
  go_wp2_with fail
  refine (rdigB 0 h2 _).mono ?_
  rintro e w5 ⟨rfl, hb5⟩
  have HB5 := Lib.hid (HB4.out.trans (hb5.mono HB4.out.size))
  have HK := Lib.hid (HK.out.below hb5 (Blk.lt HK.out))
  clear hb5 y0 y1 y2 y3 y4
  obtain ⟨y0, y1, y2, y3, y4⟩ := cm_results (2, n, 0, V, false) HK.out
  simp only at y0 y1 y2 y3 y4
  go_wp2
  go_ret
  exact ⟨rfl, HB5.out⟩
set_option maxHeartbeats 2000000 in
theorem dg_add (n : ByteArray) (K : Int) (w : World) (hs : n.size ≤ 1000000) (h1 : nameB n = true) (h2 : inN K = true) (h3 : inN 0 = true) :
    Calls Tryz.prog 13 #[.agg #[.int .i64 3, .string n, .int .i64 K, .int .i64 0, .bool true]] w fun e w' => e = .returned (.string (⟨#[117, 112, 100, 97, 116, 101, 32]⟩ ++ n ++ ⟨#[32, 115, 101, 116, 32, 118, 32, 61, 32, 118, 32, 43, 32, 49]⟩ ++ (⟨#[32, 119, 104, 101, 114, 101, 32, 107, 32, 61, 32]⟩ ++ bb (Lib.itoa K)))) ∧ Below w.heap.size w w' := by
  have lz : (Lib.itoa K).length ≤ 6 := by obtain ⟨_, _, _, _, _, _, lz⟩ := itoa_in K h2; exact lz
  have q0 : ¬ (9223372036854775807 < 11 + (Lib.itoa K).length) := by omega
  have q1 : ¬ (9223372036854775807 < 7 + n.size) := by omega
  have q2 : ¬ (9223372036854775807 < 7 + n.size + (11 + (Lib.itoa K).length)) := by omega
  have q3 : ¬ (9223372036854775807 < 7 + n.size + 14) := by omega
  have q4 : ¬ (9223372036854775807 < 7 + n.size + 14 + (11 + (Lib.itoa K).length)) := by omega
  clear lz
  have HB0 := Lib.hid (Below.refl w.heap.size w)
  have HM0 := Lib.hid (Below.refl w.heap.size w)
  have HSZ := Lib.hid hs
  clear hs
  go_enter Tryz.func13, Tryz.ntmps13
  go_wp2_with fail
  obtain ⟨W0, hW0⟩ : ∃ W0, w.alloc (.cells #[.int .i64 3, .string n, .int .i64 K, .int .i64 0, .bool true] 24) = W0 := ⟨_, rfl⟩
  have hb0 : Below w.heap.size w W0 := by rw [← hW0]; exact (Below.refl _ _).alloc (Nat.le_refl _) _
  have HB1 := Lib.hid hb0
  have hk0 : Blk W0 w.heap.size 24 (cmCells (3, n, K, 0, true)) := by rw [← hW0]; exact Blk.new _ _ _
  have HK := Lib.hid hk0
  rw [hW0]
  clear hW0 hk0 hb0 HM0
  obtain ⟨y0, y1, y2, y3, y4⟩ := cm_results (3, n, K, 0, true) HK.out
  simp only at y0 y1 y2 y3 y4
  go_wp2_with fail
  refine (docnameB n true h1 HSZ.out _).mono ?_
  rintro e w2 ⟨rfl, hb2⟩
  have HB2 := Lib.hid (HB1.out.trans (hb2.mono HB1.out.size))
  have HK := Lib.hid (HK.out.below hb2 (Blk.lt HK.out))
  clear hb2 y0 y1 y2 y3 y4
  obtain ⟨y0, y1, y2, y3, y4⟩ := cm_results (3, n, K, 0, true) HK.out
  simp only at y0 y1 y2 y3 y4
  go_wp2_with fail
  refine (rinnB K true h2 _).mono ?_
  rintro e w3 ⟨rfl, hb3⟩
  have HB3 := Lib.hid (HB2.out.trans (hb3.mono HB2.out.size))
  have HK := Lib.hid (HK.out.below hb3 (Blk.lt HK.out))
  clear hb3 y0 y1 y2 y3 y4
  obtain ⟨y0, y1, y2, y3, y4⟩ := cm_results (3, n, K, 0, true) HK.out
  simp only at y0 y1 y2 y3 y4
  go_wp2_with fail
  refine (rinnB 0 true h3 _).mono ?_
  rintro e w4 ⟨rfl, hb4⟩
  have HB4 := Lib.hid (HB3.out.trans (hb4.mono HB3.out.size))
  have HK := Lib.hid (HK.out.below hb4 (Blk.lt HK.out))
  clear hb4 y0 y1 y2 y3 y4
  obtain ⟨y0, y1, y2, y3, y4⟩ := cm_results (3, n, K, 0, true) HK.out
  simp only at y0 y1 y2 y3 y4
  go_wp2_with fail
  refine (rdigB K h2 _).mono ?_
  rintro e w5 ⟨rfl, hb5⟩
  have HB5 := Lib.hid (HB4.out.trans (hb5.mono HB4.out.size))
  have HK := Lib.hid (HK.out.below hb5 (Blk.lt HK.out))
  clear hb5 y0 y1 y2 y3 y4
  obtain ⟨y0, y1, y2, y3, y4⟩ := cm_results (3, n, K, 0, true) HK.out
  simp only at y0 y1 y2 y3 y4
  go_wp2
  go_ret
  exact ⟨rfl, HB5.out⟩
set_option maxHeartbeats 2000000 in
theorem dg_add0 (n : ByteArray) (w : World) (hs : n.size ≤ 1000000) (h1 : nameB n = true) (h2 : inN 0 = true) (h3 : inN 0 = true) :
    Calls Tryz.prog 13 #[.agg #[.int .i64 3, .string n, .int .i64 0, .int .i64 0, .bool false]] w fun e w' => e = .returned (.string ⟨#[]⟩) ∧ Below w.heap.size w w' := by
  have lz : (Lib.itoa 0).length ≤ 6 := by obtain ⟨_, _, _, _, _, _, lz⟩ := itoa_in 0 h2; exact lz
  have q0 : ¬ (9223372036854775807 < 11 + (Lib.itoa 0).length) := by omega
  have q1 : ¬ (9223372036854775807 < 7 + n.size) := by omega
  have q2 : ¬ (9223372036854775807 < 7 + n.size + (11 + (Lib.itoa 0).length)) := by omega
  have q3 : ¬ (9223372036854775807 < 7 + n.size + 14) := by omega
  have q4 : ¬ (9223372036854775807 < 7 + n.size + 14 + (11 + (Lib.itoa 0).length)) := by omega
  clear lz
  have HB0 := Lib.hid (Below.refl w.heap.size w)
  have HM0 := Lib.hid (Below.refl w.heap.size w)
  have HSZ := Lib.hid hs
  clear hs
  go_enter Tryz.func13, Tryz.ntmps13
  go_wp2_with fail
  obtain ⟨W0, hW0⟩ : ∃ W0, w.alloc (.cells #[.int .i64 3, .string n, .int .i64 0, .int .i64 0, .bool false] 24) = W0 := ⟨_, rfl⟩
  have hb0 : Below w.heap.size w W0 := by rw [← hW0]; exact (Below.refl _ _).alloc (Nat.le_refl _) _
  have HB1 := Lib.hid hb0
  have hk0 : Blk W0 w.heap.size 24 (cmCells (3, n, 0, 0, false)) := by rw [← hW0]; exact Blk.new _ _ _
  have HK := Lib.hid hk0
  rw [hW0]
  clear hW0 hk0 hb0 HM0
  obtain ⟨y0, y1, y2, y3, y4⟩ := cm_results (3, n, 0, 0, false) HK.out
  simp only at y0 y1 y2 y3 y4
  go_wp2_with fail
  refine (docnameB n true h1 HSZ.out _).mono ?_
  rintro e w2 ⟨rfl, hb2⟩
  have HB2 := Lib.hid (HB1.out.trans (hb2.mono HB1.out.size))
  have HK := Lib.hid (HK.out.below hb2 (Blk.lt HK.out))
  clear hb2 y0 y1 y2 y3 y4
  obtain ⟨y0, y1, y2, y3, y4⟩ := cm_results (3, n, 0, 0, false) HK.out
  simp only at y0 y1 y2 y3 y4
  go_wp2_with fail
  refine (rinnB 0 true h2 _).mono ?_
  rintro e w3 ⟨rfl, hb3⟩
  have HB3 := Lib.hid (HB2.out.trans (hb3.mono HB2.out.size))
  have HK := Lib.hid (HK.out.below hb3 (Blk.lt HK.out))
  clear hb3 y0 y1 y2 y3 y4
  obtain ⟨y0, y1, y2, y3, y4⟩ := cm_results (3, n, 0, 0, false) HK.out
  simp only at y0 y1 y2 y3 y4
  go_wp2_with fail
  refine (rinnB 0 true h3 _).mono ?_
  rintro e w4 ⟨rfl, hb4⟩
  have HB4 := Lib.hid (HB3.out.trans (hb4.mono HB3.out.size))
  have HK := Lib.hid (HK.out.below hb4 (Blk.lt HK.out))
  clear hb4 y0 y1 y2 y3 y4
  obtain ⟨y0, y1, y2, y3, y4⟩ := cm_results (3, n, 0, 0, false) HK.out
  simp only at y0 y1 y2 y3 y4
  go_wp2_with fail
  refine (rdigB 0 h2 _).mono ?_
  rintro e w5 ⟨rfl, hb5⟩
  have HB5 := Lib.hid (HB4.out.trans (hb5.mono HB4.out.size))
  have HK := Lib.hid (HK.out.below hb5 (Blk.lt HK.out))
  clear hb5 y0 y1 y2 y3 y4
  obtain ⟨y0, y1, y2, y3, y4⟩ := cm_results (3, n, 0, 0, false) HK.out
  simp only at y0 y1 y2 y3 y4
  go_wp2
  go_ret
  exact ⟨rfl, HB5.out⟩
set_option maxHeartbeats 2000000 in
theorem dg_del (n : ByteArray) (K : Int) (w : World) (hs : n.size ≤ 1000000) (h1 : nameB n = true) (h2 : inN K = true) (h3 : inN 0 = true) :
    Calls Tryz.prog 13 #[.agg #[.int .i64 4, .string n, .int .i64 K, .int .i64 0, .bool true]] w fun e w' => e = .returned (.string (⟨#[100, 101, 108, 101, 116, 101, 32, 102, 114, 111, 109, 32]⟩ ++ n ++ (⟨#[32, 119, 104, 101, 114, 101, 32, 107, 32, 61, 32]⟩ ++ bb (Lib.itoa K)))) ∧ Below w.heap.size w w' := by
  have lz : (Lib.itoa K).length ≤ 6 := by obtain ⟨_, _, _, _, _, _, lz⟩ := itoa_in K h2; exact lz
  have q0 : ¬ (9223372036854775807 < 11 + (Lib.itoa K).length) := by omega
  have q1 : ¬ (9223372036854775807 < 12 + n.size) := by omega
  have q2 : ¬ (9223372036854775807 < 12 + n.size + (11 + (Lib.itoa K).length)) := by omega
  clear lz
  have HB0 := Lib.hid (Below.refl w.heap.size w)
  have HM0 := Lib.hid (Below.refl w.heap.size w)
  have HSZ := Lib.hid hs
  clear hs
  go_enter Tryz.func13, Tryz.ntmps13
  go_wp2_with fail
  obtain ⟨W0, hW0⟩ : ∃ W0, w.alloc (.cells #[.int .i64 4, .string n, .int .i64 K, .int .i64 0, .bool true] 24) = W0 := ⟨_, rfl⟩
  have hb0 : Below w.heap.size w W0 := by rw [← hW0]; exact (Below.refl _ _).alloc (Nat.le_refl _) _
  have HB1 := Lib.hid hb0
  have hk0 : Blk W0 w.heap.size 24 (cmCells (4, n, K, 0, true)) := by rw [← hW0]; exact Blk.new _ _ _
  have HK := Lib.hid hk0
  rw [hW0]
  clear hW0 hk0 hb0 HM0
  obtain ⟨y0, y1, y2, y3, y4⟩ := cm_results (4, n, K, 0, true) HK.out
  simp only at y0 y1 y2 y3 y4
  go_wp2_with fail
  refine (docnameB n true h1 HSZ.out _).mono ?_
  rintro e w2 ⟨rfl, hb2⟩
  have HB2 := Lib.hid (HB1.out.trans (hb2.mono HB1.out.size))
  have HK := Lib.hid (HK.out.below hb2 (Blk.lt HK.out))
  clear hb2 y0 y1 y2 y3 y4
  obtain ⟨y0, y1, y2, y3, y4⟩ := cm_results (4, n, K, 0, true) HK.out
  simp only at y0 y1 y2 y3 y4
  go_wp2_with fail
  refine (rinnB K true h2 _).mono ?_
  rintro e w3 ⟨rfl, hb3⟩
  have HB3 := Lib.hid (HB2.out.trans (hb3.mono HB2.out.size))
  have HK := Lib.hid (HK.out.below hb3 (Blk.lt HK.out))
  clear hb3 y0 y1 y2 y3 y4
  obtain ⟨y0, y1, y2, y3, y4⟩ := cm_results (4, n, K, 0, true) HK.out
  simp only at y0 y1 y2 y3 y4
  go_wp2_with fail
  refine (rinnB 0 true h3 _).mono ?_
  rintro e w4 ⟨rfl, hb4⟩
  have HB4 := Lib.hid (HB3.out.trans (hb4.mono HB3.out.size))
  have HK := Lib.hid (HK.out.below hb4 (Blk.lt HK.out))
  clear hb4 y0 y1 y2 y3 y4
  obtain ⟨y0, y1, y2, y3, y4⟩ := cm_results (4, n, K, 0, true) HK.out
  simp only at y0 y1 y2 y3 y4
  go_wp2_with fail
  refine (rdigB K h2 _).mono ?_
  rintro e w5 ⟨rfl, hb5⟩
  have HB5 := Lib.hid (HB4.out.trans (hb5.mono HB4.out.size))
  have HK := Lib.hid (HK.out.below hb5 (Blk.lt HK.out))
  clear hb5 y0 y1 y2 y3 y4
  obtain ⟨y0, y1, y2, y3, y4⟩ := cm_results (4, n, K, 0, true) HK.out
  simp only at y0 y1 y2 y3 y4
  go_wp2
  go_ret
  exact ⟨rfl, HB5.out⟩
set_option maxHeartbeats 2000000 in
theorem dg_dela (n : ByteArray) (w : World) (hs : n.size ≤ 1000000) (h1 : nameB n = true) (h2 : inN 0 = true) (h3 : inN 0 = true) :
    Calls Tryz.prog 13 #[.agg #[.int .i64 4, .string n, .int .i64 0, .int .i64 0, .bool false]] w fun e w' => e = .returned (.string (⟨#[100, 101, 108, 101, 116, 101, 32, 102, 114, 111, 109, 32]⟩ ++ n ++ (⟨#[]⟩ : ByteArray))) ∧ Below w.heap.size w w' := by
  have lz : (Lib.itoa 0).length ≤ 6 := by obtain ⟨_, _, _, _, _, _, lz⟩ := itoa_in 0 h2; exact lz
  have q0 : ¬ (9223372036854775807 < 11 + (Lib.itoa 0).length) := by omega
  have q1 : ¬ (9223372036854775807 < 12 + n.size) := by omega
  have q2 : ¬ (9223372036854775807 < 12 + n.size + (11 + (Lib.itoa 0).length)) := by omega
  clear lz
  have HB0 := Lib.hid (Below.refl w.heap.size w)
  have HM0 := Lib.hid (Below.refl w.heap.size w)
  have HSZ := Lib.hid hs
  clear hs
  go_enter Tryz.func13, Tryz.ntmps13
  go_wp2_with fail
  obtain ⟨W0, hW0⟩ : ∃ W0, w.alloc (.cells #[.int .i64 4, .string n, .int .i64 0, .int .i64 0, .bool false] 24) = W0 := ⟨_, rfl⟩
  have hb0 : Below w.heap.size w W0 := by rw [← hW0]; exact (Below.refl _ _).alloc (Nat.le_refl _) _
  have HB1 := Lib.hid hb0
  have hk0 : Blk W0 w.heap.size 24 (cmCells (4, n, 0, 0, false)) := by rw [← hW0]; exact Blk.new _ _ _
  have HK := Lib.hid hk0
  rw [hW0]
  clear hW0 hk0 hb0 HM0
  obtain ⟨y0, y1, y2, y3, y4⟩ := cm_results (4, n, 0, 0, false) HK.out
  simp only at y0 y1 y2 y3 y4
  go_wp2_with fail
  refine (docnameB n true h1 HSZ.out _).mono ?_
  rintro e w2 ⟨rfl, hb2⟩
  have HB2 := Lib.hid (HB1.out.trans (hb2.mono HB1.out.size))
  have HK := Lib.hid (HK.out.below hb2 (Blk.lt HK.out))
  clear hb2 y0 y1 y2 y3 y4
  obtain ⟨y0, y1, y2, y3, y4⟩ := cm_results (4, n, 0, 0, false) HK.out
  simp only at y0 y1 y2 y3 y4
  go_wp2_with fail
  refine (rinnB 0 true h2 _).mono ?_
  rintro e w3 ⟨rfl, hb3⟩
  have HB3 := Lib.hid (HB2.out.trans (hb3.mono HB2.out.size))
  have HK := Lib.hid (HK.out.below hb3 (Blk.lt HK.out))
  clear hb3 y0 y1 y2 y3 y4
  obtain ⟨y0, y1, y2, y3, y4⟩ := cm_results (4, n, 0, 0, false) HK.out
  simp only at y0 y1 y2 y3 y4
  go_wp2_with fail
  refine (rinnB 0 true h3 _).mono ?_
  rintro e w4 ⟨rfl, hb4⟩
  have HB4 := Lib.hid (HB3.out.trans (hb4.mono HB3.out.size))
  have HK := Lib.hid (HK.out.below hb4 (Blk.lt HK.out))
  clear hb4 y0 y1 y2 y3 y4
  obtain ⟨y0, y1, y2, y3, y4⟩ := cm_results (4, n, 0, 0, false) HK.out
  simp only at y0 y1 y2 y3 y4
  go_wp2_with fail
  refine (rdigB 0 h2 _).mono ?_
  rintro e w5 ⟨rfl, hb5⟩
  have HB5 := Lib.hid (HB4.out.trans (hb5.mono HB4.out.size))
  have HK := Lib.hid (HK.out.below hb5 (Blk.lt HK.out))
  clear hb5 y0 y1 y2 y3 y4
  obtain ⟨y0, y1, y2, y3, y4⟩ := cm_results (4, n, 0, 0, false) HK.out
  simp only at y0 y1 y2 y3 y4
  go_wp2
  go_ret
  exact ⟨rfl, HB5.out⟩
set_option maxHeartbeats 2000000 in
theorem dg_new (n : ByteArray) (w : World) (hs : n.size ≤ 1000000) (h1 : nameB n = true) (h2 : inN 0 = true) (h3 : inN 0 = true) :
    Calls Tryz.prog 13 #[.agg #[.int .i64 5, .string n, .int .i64 0, .int .i64 0, .bool false]] w fun e w' => e = .returned (.string (⟨#[99, 114, 101, 97, 116, 101, 32, 116, 97, 98, 108, 101, 32]⟩ ++ n)) ∧ Below w.heap.size w w' := by
  have lz : (Lib.itoa 0).length ≤ 6 := by obtain ⟨_, _, _, _, _, _, lz⟩ := itoa_in 0 h2; exact lz
  have q0 : ¬ (9223372036854775807 < 11 + (Lib.itoa 0).length) := by omega
  have q1 : ¬ (9223372036854775807 < 13 + n.size) := by omega
  have q2 : ¬ (9223372036854775807 < 13 + n.size + (11 + (Lib.itoa 0).length)) := by omega
  clear lz
  have HB0 := Lib.hid (Below.refl w.heap.size w)
  have HM0 := Lib.hid (Below.refl w.heap.size w)
  have HSZ := Lib.hid hs
  clear hs
  go_enter Tryz.func13, Tryz.ntmps13
  go_wp2_with fail
  obtain ⟨W0, hW0⟩ : ∃ W0, w.alloc (.cells #[.int .i64 5, .string n, .int .i64 0, .int .i64 0, .bool false] 24) = W0 := ⟨_, rfl⟩
  have hb0 : Below w.heap.size w W0 := by rw [← hW0]; exact (Below.refl _ _).alloc (Nat.le_refl _) _
  have HB1 := Lib.hid hb0
  have hk0 : Blk W0 w.heap.size 24 (cmCells (5, n, 0, 0, false)) := by rw [← hW0]; exact Blk.new _ _ _
  have HK := Lib.hid hk0
  rw [hW0]
  clear hW0 hk0 hb0 HM0
  obtain ⟨y0, y1, y2, y3, y4⟩ := cm_results (5, n, 0, 0, false) HK.out
  simp only at y0 y1 y2 y3 y4
  go_wp2_with fail
  refine (docnameB n true h1 HSZ.out _).mono ?_
  rintro e w2 ⟨rfl, hb2⟩
  have HB2 := Lib.hid (HB1.out.trans (hb2.mono HB1.out.size))
  have HK := Lib.hid (HK.out.below hb2 (Blk.lt HK.out))
  clear hb2 y0 y1 y2 y3 y4
  obtain ⟨y0, y1, y2, y3, y4⟩ := cm_results (5, n, 0, 0, false) HK.out
  simp only at y0 y1 y2 y3 y4
  go_wp2_with fail
  refine (rinnB 0 true h2 _).mono ?_
  rintro e w3 ⟨rfl, hb3⟩
  have HB3 := Lib.hid (HB2.out.trans (hb3.mono HB2.out.size))
  have HK := Lib.hid (HK.out.below hb3 (Blk.lt HK.out))
  clear hb3 y0 y1 y2 y3 y4
  obtain ⟨y0, y1, y2, y3, y4⟩ := cm_results (5, n, 0, 0, false) HK.out
  simp only at y0 y1 y2 y3 y4
  go_wp2_with fail
  refine (rinnB 0 true h3 _).mono ?_
  rintro e w4 ⟨rfl, hb4⟩
  have HB4 := Lib.hid (HB3.out.trans (hb4.mono HB3.out.size))
  have HK := Lib.hid (HK.out.below hb4 (Blk.lt HK.out))
  clear hb4 y0 y1 y2 y3 y4
  obtain ⟨y0, y1, y2, y3, y4⟩ := cm_results (5, n, 0, 0, false) HK.out
  simp only at y0 y1 y2 y3 y4
  go_wp2_with fail
  refine (rdigB 0 h2 _).mono ?_
  rintro e w5 ⟨rfl, hb5⟩
  have HB5 := Lib.hid (HB4.out.trans (hb5.mono HB4.out.size))
  have HK := Lib.hid (HK.out.below hb5 (Blk.lt HK.out))
  clear hb5 y0 y1 y2 y3 y4
  obtain ⟨y0, y1, y2, y3, y4⟩ := cm_results (5, n, 0, 0, false) HK.out
  simp only at y0 y1 y2 y3 y4
  go_wp2
  go_ret
  exact ⟨rfl, HB5.out⟩
set_option maxHeartbeats 2000000 in
theorem dg_newk (n : ByteArray) (K : Int) (w : World) (hs : n.size ≤ 1000000) (h1 : nameB n = true) (h2 : inN K = true) (h3 : inN 0 = true) :
    Calls Tryz.prog 13 #[.agg #[.int .i64 5, .string n, .int .i64 K, .int .i64 0, .bool true]] w fun e w' => e = .returned (.string ⟨#[]⟩) ∧ Below w.heap.size w w' := by
  have lz : (Lib.itoa K).length ≤ 6 := by obtain ⟨_, _, _, _, _, _, lz⟩ := itoa_in K h2; exact lz
  have q0 : ¬ (9223372036854775807 < 11 + (Lib.itoa K).length) := by omega
  have q1 : ¬ (9223372036854775807 < 13 + n.size) := by omega
  have q2 : ¬ (9223372036854775807 < 13 + n.size + (11 + (Lib.itoa K).length)) := by omega
  clear lz
  have HB0 := Lib.hid (Below.refl w.heap.size w)
  have HM0 := Lib.hid (Below.refl w.heap.size w)
  have HSZ := Lib.hid hs
  clear hs
  go_enter Tryz.func13, Tryz.ntmps13
  go_wp2_with fail
  obtain ⟨W0, hW0⟩ : ∃ W0, w.alloc (.cells #[.int .i64 5, .string n, .int .i64 K, .int .i64 0, .bool true] 24) = W0 := ⟨_, rfl⟩
  have hb0 : Below w.heap.size w W0 := by rw [← hW0]; exact (Below.refl _ _).alloc (Nat.le_refl _) _
  have HB1 := Lib.hid hb0
  have hk0 : Blk W0 w.heap.size 24 (cmCells (5, n, K, 0, true)) := by rw [← hW0]; exact Blk.new _ _ _
  have HK := Lib.hid hk0
  rw [hW0]
  clear hW0 hk0 hb0 HM0
  obtain ⟨y0, y1, y2, y3, y4⟩ := cm_results (5, n, K, 0, true) HK.out
  simp only at y0 y1 y2 y3 y4
  go_wp2_with fail
  refine (docnameB n true h1 HSZ.out _).mono ?_
  rintro e w2 ⟨rfl, hb2⟩
  have HB2 := Lib.hid (HB1.out.trans (hb2.mono HB1.out.size))
  have HK := Lib.hid (HK.out.below hb2 (Blk.lt HK.out))
  clear hb2 y0 y1 y2 y3 y4
  obtain ⟨y0, y1, y2, y3, y4⟩ := cm_results (5, n, K, 0, true) HK.out
  simp only at y0 y1 y2 y3 y4
  go_wp2_with fail
  refine (rinnB K true h2 _).mono ?_
  rintro e w3 ⟨rfl, hb3⟩
  have HB3 := Lib.hid (HB2.out.trans (hb3.mono HB2.out.size))
  have HK := Lib.hid (HK.out.below hb3 (Blk.lt HK.out))
  clear hb3 y0 y1 y2 y3 y4
  obtain ⟨y0, y1, y2, y3, y4⟩ := cm_results (5, n, K, 0, true) HK.out
  simp only at y0 y1 y2 y3 y4
  go_wp2_with fail
  refine (rinnB 0 true h3 _).mono ?_
  rintro e w4 ⟨rfl, hb4⟩
  have HB4 := Lib.hid (HB3.out.trans (hb4.mono HB3.out.size))
  have HK := Lib.hid (HK.out.below hb4 (Blk.lt HK.out))
  clear hb4 y0 y1 y2 y3 y4
  obtain ⟨y0, y1, y2, y3, y4⟩ := cm_results (5, n, K, 0, true) HK.out
  simp only at y0 y1 y2 y3 y4
  go_wp2_with fail
  refine (rdigB K h2 _).mono ?_
  rintro e w5 ⟨rfl, hb5⟩
  have HB5 := Lib.hid (HB4.out.trans (hb5.mono HB4.out.size))
  have HK := Lib.hid (HK.out.below hb5 (Blk.lt HK.out))
  clear hb5 y0 y1 y2 y3 y4
  obtain ⟨y0, y1, y2, y3, y4⟩ := cm_results (5, n, K, 0, true) HK.out
  simp only at y0 y1 y2 y3 y4
  go_wp2
  go_ret
  exact ⟨rfl, HB5.out⟩
set_option maxHeartbeats 2000000 in
theorem dg_no (kd : Int) (n : ByteArray) (K : Int) (w : World) (hs : n.size ≤ 1000000) (h1 : nameB n = true) (h2 : inN K = true) (h3 : inN 0 = true) (d1 : kd ≠ 1) (d2 : kd ≠ 2) (d3 : kd ≠ 3) (d4 : kd ≠ 4) (d5 : kd ≠ 5) :
    Calls Tryz.prog 13 #[.agg #[.int .i64 kd, .string n, .int .i64 K, .int .i64 0, .bool true]] w fun e w' => e = .returned (.string ⟨#[]⟩) ∧ Below w.heap.size w w' := by
  have n1 : (kd == 1) = false := beq_eq_false_iff_ne.2 d1
  have n2 : (kd == 2) = false := beq_eq_false_iff_ne.2 d2
  have n3 : (kd == 3) = false := beq_eq_false_iff_ne.2 d3
  have n4 : (kd == 4) = false := beq_eq_false_iff_ne.2 d4
  have n5 : (kd == 5) = false := beq_eq_false_iff_ne.2 d5
  have m2 : (kd != 2) = true := by rw [bne_iff_ne]; exact d2
  have lz : (Lib.itoa K).length ≤ 6 := by obtain ⟨_, _, _, _, _, _, lz⟩ := itoa_in K h2; exact lz
  have q0 : ¬ (9223372036854775807 < 11 + (Lib.itoa K).length) := by omega
  have q1 : ¬ (9223372036854775807 < 14 + n.size) := by omega
  have q2 : ¬ (9223372036854775807 < 14 + n.size + (11 + (Lib.itoa K).length)) := by omega
  clear lz
  have HB0 := Lib.hid (Below.refl w.heap.size w)
  have HM0 := Lib.hid (Below.refl w.heap.size w)
  have HSZ := Lib.hid hs
  clear hs
  go_enter Tryz.func13, Tryz.ntmps13
  go_wp2_with fail
  obtain ⟨W0, hW0⟩ : ∃ W0, w.alloc (.cells #[.int .i64 kd, .string n, .int .i64 K, .int .i64 0, .bool true] 24) = W0 := ⟨_, rfl⟩
  have hb0 : Below w.heap.size w W0 := by rw [← hW0]; exact (Below.refl _ _).alloc (Nat.le_refl _) _
  have HB1 := Lib.hid hb0
  have hk0 : Blk W0 w.heap.size 24 (cmCells (kd, n, K, 0, true)) := by rw [← hW0]; exact Blk.new _ _ _
  have HK := Lib.hid hk0
  rw [hW0]
  clear hW0 hk0 hb0 HM0
  obtain ⟨y0, y1, y2, y3, y4⟩ := cm_results (kd, n, K, 0, true) HK.out
  simp only at y0 y1 y2 y3 y4
  go_wp2_with fail
  refine (docnameB n true h1 HSZ.out _).mono ?_
  rintro e w2 ⟨rfl, hb2⟩
  have HB2 := Lib.hid (HB1.out.trans (hb2.mono HB1.out.size))
  have HK := Lib.hid (HK.out.below hb2 (Blk.lt HK.out))
  clear hb2 y0 y1 y2 y3 y4
  obtain ⟨y0, y1, y2, y3, y4⟩ := cm_results (kd, n, K, 0, true) HK.out
  simp only at y0 y1 y2 y3 y4
  go_wp2_with fail
  refine (rinnB K true h2 _).mono ?_
  rintro e w3 ⟨rfl, hb3⟩
  have HB3 := Lib.hid (HB2.out.trans (hb3.mono HB2.out.size))
  have HK := Lib.hid (HK.out.below hb3 (Blk.lt HK.out))
  clear hb3 y0 y1 y2 y3 y4
  obtain ⟨y0, y1, y2, y3, y4⟩ := cm_results (kd, n, K, 0, true) HK.out
  simp only at y0 y1 y2 y3 y4
  go_wp2_with fail
  refine (rinnB 0 true h3 _).mono ?_
  rintro e w4 ⟨rfl, hb4⟩
  have HB4 := Lib.hid (HB3.out.trans (hb4.mono HB3.out.size))
  have HK := Lib.hid (HK.out.below hb4 (Blk.lt HK.out))
  clear hb4 y0 y1 y2 y3 y4
  obtain ⟨y0, y1, y2, y3, y4⟩ := cm_results (kd, n, K, 0, true) HK.out
  simp only at y0 y1 y2 y3 y4
  go_wp2_with fail
  refine (rdigB K h2 _).mono ?_
  rintro e w5 ⟨rfl, hb5⟩
  have HB5 := Lib.hid (HB4.out.trans (hb5.mono HB4.out.size))
  have HK := Lib.hid (HK.out.below hb5 (Blk.lt HK.out))
  clear hb5 y0 y1 y2 y3 y4
  obtain ⟨y0, y1, y2, y3, y4⟩ := cm_results (kd, n, K, 0, true) HK.out
  simp only at y0 y1 y2 y3 y4
  go_wp2
  go_ret
  exact ⟨rfl, HB5.out⟩
set_option maxHeartbeats 2000000 in
theorem dg_no0 (kd : Int) (n : ByteArray) (w : World) (hs : n.size ≤ 1000000) (h1 : nameB n = true) (h2 : inN 0 = true) (h3 : inN 0 = true) (d1 : kd ≠ 1) (d2 : kd ≠ 2) (d3 : kd ≠ 3) (d4 : kd ≠ 4) (d5 : kd ≠ 5) :
    Calls Tryz.prog 13 #[.agg #[.int .i64 kd, .string n, .int .i64 0, .int .i64 0, .bool false]] w fun e w' => e = .returned (.string ⟨#[]⟩) ∧ Below w.heap.size w w' := by
  have n1 : (kd == 1) = false := beq_eq_false_iff_ne.2 d1
  have n2 : (kd == 2) = false := beq_eq_false_iff_ne.2 d2
  have n3 : (kd == 3) = false := beq_eq_false_iff_ne.2 d3
  have n4 : (kd == 4) = false := beq_eq_false_iff_ne.2 d4
  have n5 : (kd == 5) = false := beq_eq_false_iff_ne.2 d5
  have m2 : (kd != 2) = true := by rw [bne_iff_ne]; exact d2
  have lz : (Lib.itoa 0).length ≤ 6 := by obtain ⟨_, _, _, _, _, _, lz⟩ := itoa_in 0 h2; exact lz
  have q0 : ¬ (9223372036854775807 < 11 + (Lib.itoa 0).length) := by omega
  have q1 : ¬ (9223372036854775807 < 14 + n.size) := by omega
  have q2 : ¬ (9223372036854775807 < 14 + n.size + (11 + (Lib.itoa 0).length)) := by omega
  clear lz
  have HB0 := Lib.hid (Below.refl w.heap.size w)
  have HM0 := Lib.hid (Below.refl w.heap.size w)
  have HSZ := Lib.hid hs
  clear hs
  go_enter Tryz.func13, Tryz.ntmps13
  go_wp2_with fail
  obtain ⟨W0, hW0⟩ : ∃ W0, w.alloc (.cells #[.int .i64 kd, .string n, .int .i64 0, .int .i64 0, .bool false] 24) = W0 := ⟨_, rfl⟩
  have hb0 : Below w.heap.size w W0 := by rw [← hW0]; exact (Below.refl _ _).alloc (Nat.le_refl _) _
  have HB1 := Lib.hid hb0
  have hk0 : Blk W0 w.heap.size 24 (cmCells (kd, n, 0, 0, false)) := by rw [← hW0]; exact Blk.new _ _ _
  have HK := Lib.hid hk0
  rw [hW0]
  clear hW0 hk0 hb0 HM0
  obtain ⟨y0, y1, y2, y3, y4⟩ := cm_results (kd, n, 0, 0, false) HK.out
  simp only at y0 y1 y2 y3 y4
  go_wp2_with fail
  refine (docnameB n true h1 HSZ.out _).mono ?_
  rintro e w2 ⟨rfl, hb2⟩
  have HB2 := Lib.hid (HB1.out.trans (hb2.mono HB1.out.size))
  have HK := Lib.hid (HK.out.below hb2 (Blk.lt HK.out))
  clear hb2 y0 y1 y2 y3 y4
  obtain ⟨y0, y1, y2, y3, y4⟩ := cm_results (kd, n, 0, 0, false) HK.out
  simp only at y0 y1 y2 y3 y4
  go_wp2_with fail
  refine (rinnB 0 true h2 _).mono ?_
  rintro e w3 ⟨rfl, hb3⟩
  have HB3 := Lib.hid (HB2.out.trans (hb3.mono HB2.out.size))
  have HK := Lib.hid (HK.out.below hb3 (Blk.lt HK.out))
  clear hb3 y0 y1 y2 y3 y4
  obtain ⟨y0, y1, y2, y3, y4⟩ := cm_results (kd, n, 0, 0, false) HK.out
  simp only at y0 y1 y2 y3 y4
  go_wp2_with fail
  refine (rinnB 0 true h3 _).mono ?_
  rintro e w4 ⟨rfl, hb4⟩
  have HB4 := Lib.hid (HB3.out.trans (hb4.mono HB3.out.size))
  have HK := Lib.hid (HK.out.below hb4 (Blk.lt HK.out))
  clear hb4 y0 y1 y2 y3 y4
  obtain ⟨y0, y1, y2, y3, y4⟩ := cm_results (kd, n, 0, 0, false) HK.out
  simp only at y0 y1 y2 y3 y4
  go_wp2_with fail
  refine (rdigB 0 h2 _).mono ?_
  rintro e w5 ⟨rfl, hb5⟩
  have HB5 := Lib.hid (HB4.out.trans (hb5.mono HB4.out.size))
  have HK := Lib.hid (HK.out.below hb5 (Blk.lt HK.out))
  clear hb5 y0 y1 y2 y3 y4
  obtain ⟨y0, y1, y2, y3, y4⟩ := cm_results (kd, n, 0, 0, false) HK.out
  simp only at y0 y1 y2 y3 y4
  go_wp2
  go_ret
  exact ⟨rfl, HB5.out⟩
set_option maxHeartbeats 2000000 in
theorem dg_put (n : ByteArray) (K V : Int) (w : World) (hs : n.size ≤ 1000000) (h1 : nameB n = true) (h2 : inN K = true) (h3 : inN V = true) :
    Calls Tryz.prog 13 #[.agg #[.int .i64 2, .string n, .int .i64 K, .int .i64 V, .bool true]] w fun e w' => e = .returned (.string (⟨#[105, 110, 115, 101, 114, 116, 32, 105, 110, 116, 111, 32]⟩ ++ n ++ ⟨#[32, 118, 97, 108, 117, 101, 115, 32, 40, 32]⟩ ++ bb (Lib.itoa K) ++ ⟨#[32, 44, 32]⟩ ++ bb (Lib.itoa V) ++ ⟨#[32, 41]⟩)) ∧ Below w.heap.size w w' := by
  have lz : (Lib.itoa K).length ≤ 6 := by obtain ⟨_, _, _, _, _, _, lz⟩ := itoa_in K h2; exact lz
  have lv : (Lib.itoa V).length ≤ 6 := by obtain ⟨_, _, _, _, _, _, lz⟩ := itoa_in V h3; exact lz
  have q0 : ¬ (9223372036854775807 < 11 + (Lib.itoa K).length) := by omega
  have q1 : ¬ (9223372036854775807 < 12 + n.size) := by omega
  have q2 : ¬ (9223372036854775807 < 12 + n.size + 10) := by omega
  have q3 : ¬ (9223372036854775807 < 12 + n.size + 10 + (Lib.itoa K).length) := by omega
  have q4 : ¬ (9223372036854775807 < 12 + n.size + 10 + (Lib.itoa K).length + 3) := by omega
  have q5 : ¬ (9223372036854775807 < 12 + n.size + 10 + (Lib.itoa K).length + 3 + (Lib.itoa V).length) := by omega
  have q6 : ¬ (9223372036854775807 < 12 + n.size + 10 + (Lib.itoa K).length + 3 + (Lib.itoa V).length + 2) := by omega
  clear lz lv
  have HB0 := Lib.hid (Below.refl w.heap.size w)
  have HM0 := Lib.hid (Below.refl w.heap.size w)
  have HSZ := Lib.hid hs
  clear hs
  go_enter Tryz.func13, Tryz.ntmps13
  go_wp2_with fail
  obtain ⟨W0, hW0⟩ : ∃ W0, w.alloc (.cells #[.int .i64 2, .string n, .int .i64 K, .int .i64 V, .bool true] 24) = W0 := ⟨_, rfl⟩
  have hb0 : Below w.heap.size w W0 := by rw [← hW0]; exact (Below.refl _ _).alloc (Nat.le_refl _) _
  have HB1 := Lib.hid hb0
  have hk0 : Blk W0 w.heap.size 24 (cmCells (2, n, K, V, true)) := by rw [← hW0]; exact Blk.new _ _ _
  have HK := Lib.hid hk0
  rw [hW0]
  clear hW0 hk0 hb0 HM0
  obtain ⟨y0, y1, y2, y3, y4⟩ := cm_results (2, n, K, V, true) HK.out
  simp only at y0 y1 y2 y3 y4
  go_wp2_with fail
  refine (docnameB n true h1 HSZ.out _).mono ?_
  rintro e w2 ⟨rfl, hb2⟩
  have HB2 := Lib.hid (HB1.out.trans (hb2.mono HB1.out.size))
  have HK := Lib.hid (HK.out.below hb2 (Blk.lt HK.out))
  clear hb2 y0 y1 y2 y3 y4
  obtain ⟨y0, y1, y2, y3, y4⟩ := cm_results (2, n, K, V, true) HK.out
  simp only at y0 y1 y2 y3 y4
  go_wp2_with fail
  refine (rinnB K true h2 _).mono ?_
  rintro e w3 ⟨rfl, hb3⟩
  have HB3 := Lib.hid (HB2.out.trans (hb3.mono HB2.out.size))
  have HK := Lib.hid (HK.out.below hb3 (Blk.lt HK.out))
  clear hb3 y0 y1 y2 y3 y4
  obtain ⟨y0, y1, y2, y3, y4⟩ := cm_results (2, n, K, V, true) HK.out
  simp only at y0 y1 y2 y3 y4
  go_wp2_with fail
  refine (rinnB V true h3 _).mono ?_
  rintro e w4 ⟨rfl, hb4⟩
  have HB4 := Lib.hid (HB3.out.trans (hb4.mono HB3.out.size))
  have HK := Lib.hid (HK.out.below hb4 (Blk.lt HK.out))
  clear hb4 y0 y1 y2 y3 y4
  obtain ⟨y0, y1, y2, y3, y4⟩ := cm_results (2, n, K, V, true) HK.out
  simp only at y0 y1 y2 y3 y4
  go_wp2_with fail
  refine (rdigB K h2 _).mono ?_
  rintro e w5 ⟨rfl, hb5⟩
  have HB5 := Lib.hid (HB4.out.trans (hb5.mono HB4.out.size))
  have HK := Lib.hid (HK.out.below hb5 (Blk.lt HK.out))
  clear hb5 y0 y1 y2 y3 y4
  obtain ⟨y0, y1, y2, y3, y4⟩ := cm_results (2, n, K, V, true) HK.out
  simp only at y0 y1 y2 y3 y4
  go_wp2_with fail
  refine wp_region_held_drew (S := (fun w' => Below w5.heap.size w5 w')) (by kernel_rfl) ?_ (fun hS => ?_)
  · exact (Below.refl _ _).drew
  try dsimp only at hS
  refine wpAnyH_take (i := 0) (v := ?_) rfl (by kernel_rfl) (by kernel_rfl) (by kernel_rfl) (fun _ _ _ h => h) (Or.inl ⟨by kernel_rfl, ?_⟩) hS ?_
  rotate_left
  · intro wz hSz; try dsimp only at hSz
    obtain ⟨x0, x1, x2, x3, x4⟩ := cm_results (2, n, K, V, true) (HK.out.below hSz (Blk.lt HK.out))
    simp only at x0 x1 x2 x3 x4
    go_simp
    all_goals with_reducible rfl
  try simp only [Act.put, List.getElem_toArray, List.getElem_cons_succ, List.getElem_cons_zero, List.setIfInBounds_toArray, List.set_cons_zero, List.set_cons_succ]
  refine wpAnyH_take (i := 1) (v := ?_) rfl (by kernel_rfl) (by kernel_rfl) (by kernel_rfl) (fun _ _ _ h => h) (Or.inl ⟨by kernel_rfl, ?_⟩) hS ?_
  rotate_left
  · intro wz hSz; try dsimp only at hSz
    obtain ⟨x0, x1, x2, x3, x4⟩ := cm_results (2, n, K, V, true) (HK.out.below hSz (Blk.lt HK.out))
    simp only at x0 x1 x2 x3 x4
    go_simp
    all_goals with_reducible rfl
  try simp only [Act.put, List.getElem_toArray, List.getElem_cons_succ, List.getElem_cons_zero, List.setIfInBounds_toArray, List.set_cons_zero, List.set_cons_succ]
  refine wpAnyH_take (i := 2) (v := ?_) rfl (by kernel_rfl) (by kernel_rfl) (by kernel_rfl) (fun _ _ _ h => h) (Or.inl ⟨by kernel_rfl, ?_⟩) hS ?_
  rotate_left
  · intro wz hSz; try dsimp only at hSz
    obtain ⟨x0, x1, x2, x3, x4⟩ := cm_results (2, n, K, V, true) (HK.out.below hSz (Blk.lt HK.out))
    simp only at x0 x1 x2 x3 x4
    go_simp
    all_goals with_reducible rfl
  try simp only [Act.put, List.getElem_toArray, List.getElem_cons_succ, List.getElem_cons_zero, List.setIfInBounds_toArray, List.set_cons_zero, List.set_cons_succ]
  refine wpAnyH_take (i := 3) (v := ?_) rfl (by kernel_rfl) (by kernel_rfl) (by kernel_rfl) (fun _ _ _ h => h) (Or.inl ⟨by kernel_rfl, ?_⟩) hS ?_
  rotate_left
  · intro wz hSz; try dsimp only at hSz
    obtain ⟨x0, x1, x2, x3, x4⟩ := cm_results (2, n, K, V, true) (HK.out.below hSz (Blk.lt HK.out))
    simp only at x0 x1 x2 x3 x4
    go_simp
    all_goals with_reducible rfl
  try simp only [Act.put, List.getElem_toArray, List.getElem_cons_succ, List.getElem_cons_zero, List.setIfInBounds_toArray, List.set_cons_zero, List.set_cons_succ]
  refine wpAnyH_take (i := 4) (v := ?_) rfl (by kernel_rfl) (by kernel_rfl) (by kernel_rfl) (fun _ _ _ h => h) (Or.inl ⟨by kernel_rfl, ?_⟩) hS ?_
  rotate_left
  · intro wz hSz; try dsimp only at hSz
    obtain ⟨x0, x1, x2, x3, x4⟩ := cm_results (2, n, K, V, true) (HK.out.below hSz (Blk.lt HK.out))
    simp only at x0 x1 x2 x3 x4
    go_simp
    all_goals with_reducible rfl
  try simp only [Act.put, List.getElem_toArray, List.getElem_cons_succ, List.getElem_cons_zero, List.setIfInBounds_toArray, List.set_cons_zero, List.set_cons_succ]
  refine wpAnyH_take (i := 5) (v := ?_) rfl (by kernel_rfl) (by kernel_rfl) (by kernel_rfl) (fun _ _ _ h => h) (Or.inl ⟨by kernel_rfl, ?_⟩) hS ?_
  rotate_left
  · intro wz hSz; try dsimp only at hSz
    obtain ⟨x0, x1, x2, x3, x4⟩ := cm_results (2, n, K, V, true) (HK.out.below hSz (Blk.lt HK.out))
    simp only at x0 x1 x2 x3 x4
    go_simp
    all_goals with_reducible rfl
  try simp only [Act.put, List.getElem_toArray, List.getElem_cons_succ, List.getElem_cons_zero, List.setIfInBounds_toArray, List.set_cons_zero, List.set_cons_succ]
  refine wpAnyH_take (i := 9) (v := ?_) rfl (by kernel_rfl) (by kernel_rfl) (by kernel_rfl) (fun _ _ _ h => h) (Or.inl ⟨by kernel_rfl, ?_⟩) hS ?_
  rotate_left
  · intro wz hSz; try dsimp only at hSz
    obtain ⟨x0, x1, x2, x3, x4⟩ := cm_results (2, n, K, V, true) (HK.out.below hSz (Blk.lt HK.out))
    simp only at x0 x1 x2 x3 x4
    go_simp
    all_goals with_reducible rfl
  try simp only [Act.put, List.getElem_toArray, List.getElem_cons_succ, List.getElem_cons_zero, List.setIfInBounds_toArray, List.set_cons_zero, List.set_cons_succ]
  refine wpAnyH_take (i := 10) (v := ?_) rfl (by kernel_rfl) (by kernel_rfl) (by kernel_rfl) (fun _ _ _ h => h) (Or.inl ⟨by kernel_rfl, ?_⟩) hS ?_
  rotate_left
  · intro wz hSz; try dsimp only at hSz
    obtain ⟨x0, x1, x2, x3, x4⟩ := cm_results (2, n, K, V, true) (HK.out.below hSz (Blk.lt HK.out))
    simp only at x0 x1 x2 x3 x4
    go_simp
    all_goals with_reducible rfl
  try simp only [Act.put, List.getElem_toArray, List.getElem_cons_succ, List.getElem_cons_zero, List.setIfInBounds_toArray, List.set_cons_zero, List.set_cons_succ]
  refine wpAnyH_ready (rs := [6]) (by kernel_rfl) (by simp) (AllReadyH.cons rfl (fun K hK => ?_) AllReadyH.nil)
  go_simp
  refine (rdigB _ h2 _).mono ?_; rintro e w8 ⟨rfl, hbq⟩
  refine hK.out _ _ ?_ (fun hSn => ?_)
  · exact hS.trans (hbq.mono hS.size)
  clear hK K hS hbq
  have hS := hSn
  clear hSn
  try dsimp only at hS
  try simp only [Act.put, List.getElem_toArray, List.getElem_cons_succ, List.getElem_cons_zero, List.setIfInBounds_toArray, List.set_cons_zero, List.set_cons_succ]
  refine wpAnyH_take (i := 7) (v := ?_) rfl (by kernel_rfl) (by kernel_rfl) (by kernel_rfl) (fun _ _ _ h => h) (Or.inl ⟨by kernel_rfl, ?_⟩) hS ?_
  rotate_left
  · intro wz hSz; try dsimp only at hSz
    obtain ⟨x0, x1, x2, x3, x4⟩ := cm_results (2, n, K, V, true) (HK.out.below hSz (Blk.lt HK.out))
    simp only at x0 x1 x2 x3 x4
    go_simp
    all_goals with_reducible rfl
  try simp only [Act.put, List.getElem_toArray, List.getElem_cons_succ, List.getElem_cons_zero, List.setIfInBounds_toArray, List.set_cons_zero, List.set_cons_succ]
  refine wpAnyH_take (i := 8) (v := ?_) rfl (by kernel_rfl) (by kernel_rfl) (by kernel_rfl) (fun _ _ _ h => h) (Or.inl ⟨by kernel_rfl, ?_⟩) hS ?_
  rotate_left
  · intro wz hSz; try dsimp only at hSz
    obtain ⟨x0, x1, x2, x3, x4⟩ := cm_results (2, n, K, V, true) (HK.out.below hSz (Blk.lt HK.out))
    simp only at x0 x1 x2 x3 x4
    go_simp
    all_goals with_reducible rfl
  try simp only [Act.put, List.getElem_toArray, List.getElem_cons_succ, List.getElem_cons_zero, List.setIfInBounds_toArray, List.set_cons_zero, List.set_cons_succ]
  refine wpAnyH_ready (rs := [11]) (by kernel_rfl) (by simp) (AllReadyH.cons rfl (fun K hK => ?_) AllReadyH.nil)
  go_simp
  refine (rdigB _ h3 _).mono ?_; rintro e w9 ⟨rfl, hbq⟩
  refine hK.out _ _ ?_ (fun hSn => ?_)
  · exact hS.trans (hbq.mono hS.size)
  clear hK K hS hbq
  have hS := hSn
  clear hSn
  try dsimp only at hS
  try simp only [Act.put, List.getElem_toArray, List.getElem_cons_succ, List.getElem_cons_zero, List.setIfInBounds_toArray, List.set_cons_zero, List.set_cons_succ]
  refine wpAnyH_take (i := 12) (v := ?_) rfl (by kernel_rfl) (by kernel_rfl) (by kernel_rfl) (fun _ _ _ h => h) (Or.inl ⟨by kernel_rfl, ?_⟩) hS ?_
  rotate_left
  · intro wz hSz; try dsimp only at hSz
    obtain ⟨x0, x1, x2, x3, x4⟩ := cm_results (2, n, K, V, true) (HK.out.below hSz (Blk.lt HK.out))
    simp only at x0 x1 x2 x3 x4
    go_simp
    all_goals with_reducible rfl
  try simp only [Act.put, List.getElem_toArray, List.getElem_cons_succ, List.getElem_cons_zero, List.setIfInBounds_toArray, List.set_cons_zero, List.set_cons_succ]
  refine wpAnyH_take (i := 13) (v := ?_) rfl (by kernel_rfl) (by kernel_rfl) (by kernel_rfl) (fun _ _ _ h => h) (Or.inl ⟨by kernel_rfl, ?_⟩) hS ?_
  rotate_left
  · intro wz hSz; try dsimp only at hSz
    obtain ⟨x0, x1, x2, x3, x4⟩ := cm_results (2, n, K, V, true) (HK.out.below hSz (Blk.lt HK.out))
    simp only at x0 x1 x2 x3 x4
    go_simp
    all_goals with_reducible rfl
  try simp only [Act.put, List.getElem_toArray, List.getElem_cons_succ, List.getElem_cons_zero, List.setIfInBounds_toArray, List.set_cons_zero, List.set_cons_succ]
  refine wpAnyH_take (i := 14) (v := ?_) rfl (by kernel_rfl) (by kernel_rfl) (by kernel_rfl) (fun _ _ _ h => h) (Or.inl ⟨by kernel_rfl, ?_⟩) hS ?_
  rotate_left
  · intro wz hSz; try dsimp only at hSz
    obtain ⟨x0, x1, x2, x3, x4⟩ := cm_results (2, n, K, V, true) (HK.out.below hSz (Blk.lt HK.out))
    simp only at x0 x1 x2 x3 x4
    go_simp
    all_goals with_reducible rfl
  try simp only [Act.put, List.getElem_toArray, List.getElem_cons_succ, List.getElem_cons_zero, List.setIfInBounds_toArray, List.set_cons_zero, List.set_cons_succ]
  refine wpAnyH_done (by kernel_rfl) ?_ _
  go_wp2
  go_ret
  exact ⟨rfl, HB5.out.trans (hS.mono HB5.out.size)⟩
theorem doctext_any (kd : Int) (n : ByteArray) (K V : Int) (kb : Bool) (w : World) (hs : n.size ≤ 1000000) :
    Calls Tryz.prog 13 #[.agg #[.int .i64 kd, .string n, .int .i64 K, .int .i64 V, .bool kb]] w fun e w' => e = .returned (.string (bb (textR (kd, n, K, V, kb)))) ∧ Below w.heap.size w w' := by
  have key : ∀ T : ByteArray, bb (textR (kd, n, K, V, kb)) = T → (Calls Tryz.prog 13 #[.agg #[.int .i64 kd, .string n, .int .i64 K, .int .i64 V, .bool kb]] w fun e w' => e = .returned (.string T) ∧ Below w.heap.size w w') → (Calls Tryz.prog 13 #[.agg #[.int .i64 kd, .string n, .int .i64 K, .int .i64 V, .bool kb]] w fun e w' => e = .returned (.string (bb (textR (kd, n, K, V, kb)))) ∧ Below w.heap.size w w') := fun T h => by rw [h]; exact id
  cases h1 : nameB n with
  | false => exact key _ (by simp [textR, okC, h1, bb]) (dt_name kd n K V kb w hs h1)
  | true =>
    cases h2 : inN K with
    | false => exact key _ (by simp [textR, okC, h1, h2, bb]) (dt_k kd n K V kb w hs h1 h2)
    | true =>
      cases h3 : inN V with
      | false => exact key _ (by simp [textR, okC, h1, h2, h3, bb]) (dt_v kd n K V kb w hs h1 h2 h3)
      | true =>
        cases kb with
        | false =>
          by_cases h4 : K = 0
          · subst h4
            by_cases d2 : kd = 2
            · subst d2; exact key _ (by simp [textR, okC, h1, h2, h3, bb]) (dg_put0 n V w hs h1 h2 h3)
            · by_cases hv : V = 0
              · subst hv
                by_cases d1 : kd = 1
                · subst d1; exact key _ (by rw [show textR (1, n, 0, 0, false) = [115, 101, 108, 101, 99, 116, 32, 42, 32, 102, 114, 111, 109, 32] ++ n.data.toList by simp [textR, okC, h1, h2]]; rw [bbApp, bbData]; exact (addEmp _).symm) (dg_all n w hs h1 h2 h3)
                · by_cases d3 : kd = 3
                  · subst d3; exact key _ (by simp [textR, okC, h1, h2, h3, bb]) (dg_add0 n w hs h1 h2 h3)
                  · by_cases d4 : kd = 4
                    · subst d4; exact key _ (by rw [show textR (4, n, 0, 0, false) = [100, 101, 108, 101, 116, 101, 32, 102, 114, 111, 109, 32] ++ n.data.toList by simp [textR, okC, h1, h2]]; rw [bbApp, bbData]; exact (addEmp _).symm) (dg_dela n w hs h1 h2 h3)
                    · by_cases d5 : kd = 5
                      · subst d5; exact key _ (by rw [show textR (5, n, 0, 0, false) = [99, 114, 101, 97, 116, 101, 32, 116, 97, 98, 108, 101, 32] ++ n.data.toList by simp [textR, okC, h1, h2]]; rw [bbApp, bbData]; all_goals rfl) (dg_new n w hs h1 h2 h3)
                      · exact key _ (by simp [textR, okC, h1, h2, h3, bb, d1, d2, d3, d4, d5]) (dg_no0 kd n w hs h1 h2 h3 d1 d2 d3 d4 d5)
              · exact key _ (by simp [textR, okC, h1, h2, h3, bb, d2, hv]) (dt_nv0 kd n V w hs h1 h2 h3 hv d2)
          · exact key _ (by simp [textR, okC, h1, h2, h3, bb, h4]) (dt_nk kd n K V w hs h1 h2 h3 h4)
        | true =>
          by_cases d2 : kd = 2
          · subst d2
            exact key _ (by rw [show textR (2, n, K, V, true) = [105, 110, 115, 101, 114, 116, 32, 105, 110, 116, 111, 32] ++ n.data.toList ++ [32, 118, 97, 108, 117, 101, 115, 32, 40, 32] ++ Lib.itoa K ++ [32, 44, 32] ++ Lib.itoa V ++ [32, 41] by simp [textR, okC, h1, h2, h3, digT]]; simp only [bbApp, bbData]; all_goals rfl) (dg_put n K V w hs h1 h2 h3)
          · by_cases hv : V = 0
            · subst hv
              by_cases d1 : kd = 1
              · subst d1; exact key _ (by rw [show textR (1, n, K, 0, true) = [115, 101, 108, 101, 99, 116, 32, 42, 32, 102, 114, 111, 109, 32] ++ n.data.toList ++ ([32, 119, 104, 101, 114, 101, 32, 107, 32, 61, 32] ++ Lib.itoa K) by simp [textR, okC, h1, h2, h3, digT]]; simp only [bbApp, bbData]; all_goals rfl) (dg_get n K w hs h1 h2 h3)
              · by_cases d3 : kd = 3
                · subst d3; exact key _ (by rw [show textR (3, n, K, 0, true) = [117, 112, 100, 97, 116, 101, 32] ++ n.data.toList ++ [32, 115, 101, 116, 32, 118, 32, 61, 32, 118, 32, 43, 32, 49] ++ ([32, 119, 104, 101, 114, 101, 32, 107, 32, 61, 32] ++ Lib.itoa K) by simp [textR, okC, h1, h2, h3, digT]]; simp only [bbApp, bbData]; all_goals rfl) (dg_add n K w hs h1 h2 h3)
                · by_cases d4 : kd = 4
                  · subst d4; exact key _ (by rw [show textR (4, n, K, 0, true) = [100, 101, 108, 101, 116, 101, 32, 102, 114, 111, 109, 32] ++ n.data.toList ++ ([32, 119, 104, 101, 114, 101, 32, 107, 32, 61, 32] ++ Lib.itoa K) by simp [textR, okC, h1, h2, h3, digT]]; simp only [bbApp, bbData]; all_goals rfl) (dg_del n K w hs h1 h2 h3)
                  · by_cases d5 : kd = 5
                    · subst d5; exact key _ (by simp [textR, okC, h1, h2, h3, bb]) (dg_newk n K w hs h1 h2 h3)
                    · exact key _ (by simp [textR, okC, h1, h2, h3, bb, d1, d2, d3, d4, d5]) (dg_no kd n K w hs h1 h2 h3 d1 d2 d3 d4 d5)
            · exact key _ (by simp [textR, okC, h1, h2, h3, bb, d2, hv]) (dt_nv kd n K V w hs h1 h2 h3 hv d2)

def BR (w : World) (v : Value) (f : List ByteArray) : Prop := ∃ g, v = .slice (some ⟨g, 0, none⟩) f.length f.length ∧ ∀ (i : Nat) (p : ByteArray), f[i]? = some p → w.cell? ⟨g, i, none⟩ = some (.string p)
theorem BR.below {w w' : World} {v : Value} {f : List ByteArray} (h : BR w v f) (hb : Below w.heap.size w w') : BR w' v f := by
  obtain ⟨g, e, hx⟩ := h
  exact ⟨g, e, fun i p hi => (hb.cell (p := ⟨g, i, none⟩) (World.block_lt_of_cell? w _ (hx i p hi))).trans (hx i p hi)⟩
def likeT (c : Cm) (p : ByteArray) (t : Tok) : Option Cm :=
  if p.data.toList = [84] then (if t.1 = 1 then (if nameB t.2.1 = true then some (c.1, t.2.1, c.2.2.1, c.2.2.2.1, c.2.2.2.2) else none) else none)
  else if p.data.toList = [75] then (if numD t < 0 then none else some (c.1, c.2.1, numD t, c.2.2.2.1, true))
  else if p.data.toList = [86] then (if numD t < 0 then none else some (c.1, c.2.1, c.2.2.1, numD t, c.2.2.2.2))
  else if p.data.toList = [49] then (if t.1 = 4 then (if t.2.1.data.toList = [49] then some c else none) else none)
  else (if t.1 = (if (p.data.toList.headD 0).toNat < 97 then 5 else 1) then (if t.2.1 = p then some c else none) else none)
def likeGo : Cm → List ByteArray → List Tok → Option Cm
  | c, [], [] => some c
  | c, p :: f, t :: l => (match likeT c p t with | some d => likeGo d f l | none => none)
  | _, _, _ => none
def likeL (f : List ByteArray) (l : List Tok) : Option Cm := if l.length = f.length then likeGo cmdZ f l else none
def LikeP (R : Option Cm) (w : World) (e : Ending) (w' : World) : Prop := e = .returned (.tuple #[cmV (R.getD cmdZ), .bool R.isSome]) ∧ Below w.heap.size w w'
theorem likeGo_at {c : Cm} {f : List ByteArray} {l : List Tok} {i : Nat} {p : ByteArray} {t : Tok} (hf : f[i]? = some p) (hl : l[i]? = some t) :
    likeGo c (f.drop i) (l.drop i) = (match likeT c p t with | some d => likeGo d (f.drop (i + 1)) (l.drop (i + 1)) | none => none) := by
  obtain ⟨h1, h2⟩ := List.getElem?_eq_some_iff.1 hf
  obtain ⟨h3, h4⟩ := List.getElem?_eq_some_iff.1 hl
  rw [List.drop_eq_getElem_cons h1, List.drop_eq_getElem_cons h3, h2, h4]; rfl
set_option maxHeartbeats 3000000 in
theorem like_any (v u : Value) (l : List Tok) (f : List ByteArray) (w : World) (hT : TR w v l) (hF : BR w u f) (hl : l.length ≤ 1000000) (hz : ∀ t ∈ l, t.2.1.size ≤ 1000000) (hp : ∀ p ∈ f, 0 < p.size) :
    Calls Tryz.prog 29 #[v, u] w (LikeP (likeL f l) w) := by
  obtain ⟨R, hR⟩ : ∃ R, likeL f l = R := ⟨_, rfl⟩
  rw [hR]
  unfold likeL at hR
  have z1 : (⟨#[84]⟩ : ByteArray).toList = [84] := by rw [Lib.toList_data]
  have z2 : (⟨#[75]⟩ : ByteArray).toList = [75] := by rw [Lib.toList_data]
  have z3 : (⟨#[86]⟩ : ByteArray).toList = [86] := by rw [Lib.toList_data]
  have z4 : (⟨#[49]⟩ : ByteArray).toList = [49] := by rw [Lib.toList_data]
  have hb1 : Below w.heap.size w ((w.alloc (.cells #[.int .i64 0, .string ⟨#[]⟩, .int .i64 0, .int .i64 0, .bool false] 24)).alloc (.cells #[.int .i64 0, .string ⟨#[]⟩, .int .i64 0, .int .i64 0, .bool false] 24)) := ((Below.refl _ _).alloc (Nat.le_refl _) _).alloc (by simp) _
  obtain ⟨W1, hW1⟩ : ∃ W1, (w.alloc (.cells #[.int .i64 0, .string ⟨#[]⟩, .int .i64 0, .int .i64 0, .bool false] 24)).alloc (.cells #[.int .i64 0, .string ⟨#[]⟩, .int .i64 0, .int .i64 0, .bool false] 24) = W1 := ⟨_, rfl⟩
  have hZ : Blk W1 w.heap.size 24 (cmCells cmdZ) := by rw [← hW1]; exact (Blk.new _ _ _).alloc _
  have hC : Blk W1 (w.heap.size + 1) 24 (cmCells cmdZ) := by rw [← hW1]; exact Blk.newAt _ _ _ _ (by simp)
  rw [hW1] at hb1
  have HZ := Lib.hid hZ
  have HC := Lib.hid hC
  have HB1 := Lib.hid hb1
  have HT := Lib.hid hT
  have HF := Lib.hid hF
  have HL := Lib.hid hl
  have HZS := Lib.hid hz
  have HP := Lib.hid hp
  obtain ⟨a, cap, rfl⟩ := hT.form
  obtain ⟨gf, rfl, _⟩ := hF
  by_cases hll : l.length = f.length
  · rw [if_pos hll] at hR
    have ne : ((l.length : Int) != (f.length : Int)) = false := by rw [bne_eq_false_iff_eq]; omega
    have HLL := Lib.hid hll
    have HR := Lib.hid hR
    have HW1 := Lib.hid hW1
    clear hll hR hZ hC hb1 hT hl hz hp hW1
    go_enter Tryz.func29, Tryz.ntmps29
    go_wp2_with fail
    rw [HW1.out]
    clear HW1
    go_loopg [7] l.length (fun gk u7 wx => ∃ (i : Nat) (c : Cm), u7 = .int .i64 (i : Int) ∧ i + gk = l.length ∧ Blk wx (w.heap.size + 1) 24 (cmCells c) ∧ Blk wx w.heap.size 24 (cmCells cmdZ) ∧ Below w.heap.size w wx ∧ likeGo c (f.drop i) (l.drop i) = R)
    case atStart => exact ⟨0, cmdZ, rfl, by omega, HC.out, HZ.out, HB1.out, HR.out⟩
    case round =>
      obtain ⟨i, c, rfl, hi, hG, hZ, hB, hr⟩ := hrel
      have HG := Lib.hid hG
      have HZR := Lib.hid hZ
      have HB := Lib.hid hB
      have HI := Lib.hid hi
      cases gk with
      | zero =>
        have l1 : ¬ ((i : Int) < (l.length : Int)) := by omega
        have hRc : R = some c := by
          rw [← hr, List.drop_of_length_le (by have := HLL.out; omega), List.drop_of_length_le (by omega)]; rfl
        subst hRc
        obtain ⟨c0, c1, c2, c3, c4⟩ := c
        obtain ⟨y0, y1, y2, y3, y4⟩ := cm_results _ hG
        obtain ⟨z0, z1', z2', z3', z4'⟩ := cm_results cmdZ hZ
        have fz0 := hZ.frozen 0
        have fz1 := hZ.frozen 1
        have fz2 := hZ.frozen 2
        have fz3 := hZ.frozen 3
        have fz4 := hZ.frozen 4
        clear hi hG hZ hB hr
        go_wp2
        have hfin := cm_set5 c0 c1 c2 c3 c4 HZR.out
        have hbfin := bel_set5 c0 c1 c2 c3 c4 HB.out (Nat.le_refl w.heap.size)
        obtain ⟨k0, k1, k2, k3, k4⟩ := cm_results _ hfin
        refine bodyPost_ret (v := .tuple #[cmV (c0, c1, c2, c3, c4), .bool true]) (by simp [results, Tryz.results29, go_sem, k0, k1, k2, k3, k4]) rfl ?_
        exact ⟨rfl, hbfin⟩
      | succ gk =>
        have hlt : i < l.length := by omega
        have hlt2 : i < f.length := by have := HLL.out; omega
        obtain ⟨b2, o2, cp2, he2, hcp2, hx2⟩ := (HT.out.below hB).inv l.length rfl (by omega)
        injection he2 with ea2 _ ec2
        subst ea2 ec2
        obtain ⟨gf2, hgf, hxf⟩ := HF.out.below hB
        injection hgf with hgf _ _
        injection hgf with hgf
        injection hgf with hgf _ _
        subst hgf
        obtain ⟨p, hp⟩ : ∃ p, f[i] = p := ⟨_, rfl⟩
        obtain ⟨t, ht⟩ : ∃ t, l[i] = t := ⟨_, rfl⟩
        have hfp : f[i]? = some p := by rw [List.getElem?_eq_getElem hlt2, hp]
        have hlt' : l[i]? = some t := by rw [List.getElem?_eq_getElem hlt, ht]
        rw [likeGo_at hfp hlt'] at hr
        have x0 := hxf i p hfp
        obtain ⟨y0, y1, y2⟩ := hx2 i t hlt'
        have HX := Lib.hid (fun (W : World) (hW : Below wr.heap.size wr W) => (show W.cell? ⟨gf, i, none⟩ = some (.string p) ∧ W.cell? ⟨b2, o2 + i * 3, none⟩ = some (.int .i64 t.1) ∧ W.cell? ⟨b2, o2 + i * 3 + 1, none⟩ = some (.string t.2.1) ∧ W.cell? ⟨b2, o2 + i * 3 + 2, none⟩ = some (.int .i64 t.2.2) from
          ⟨(hW.cell (p := ⟨gf, i, none⟩) (World.block_lt_of_cell? wr _ x0)).trans x0, (hW.cell (p := ⟨b2, o2 + i * 3, none⟩) (World.block_lt_of_cell? wr _ y0)).trans y0, (hW.cell (p := ⟨b2, o2 + i * 3 + 1, none⟩) (World.block_lt_of_cell? wr _ y1)).trans y1, (hW.cell (p := ⟨b2, o2 + i * 3 + 2, none⟩) (World.block_lt_of_cell? wr _ y2)).trans y2⟩))
        have hps : 0 < p.size := HP.out p (List.mem_of_getElem? hfp)
        have hts : t.2.1.size ≤ 1000000 := HZS.out t (List.mem_of_getElem? hlt')
        have HTS := Lib.hid hts
        have l0 : (0 : Int) ≤ (i : Int) := by omega
        have l1 : (i : Int) < (l.length : Int) := by omega
        have l2 : (i : Int) < (f.length : Int) := by omega
        obtain ⟨i1, hi1⟩ : ∃ i1, i + 1 = i1 := ⟨_, rfl⟩
        have wk : IntKind.i64.wrap ((i : Int) + 1) = (i1 : Int) := by rw [show (i : Int) + 1 = (i1 : Int) by omega]; exact IntWalk.i64_in _ (by have := HL.out; omega)
        rw [hi1] at hr
        have HI1 := Lib.hid hi1
        obtain ⟨tk, tt, ta⟩ := t
        obtain ⟨c0, c1, c2, c3, c4⟩ := c
        simp only at y0 y1 y2 HX HTS
        obtain ⟨rc, hrc⟩ : ∃ rc, w.heap.size = rc := ⟨_, rfl⟩
        have HRC := Lib.hid hrc
        have HGL := Lib.hid hG.lt
        have HZL := Lib.hid hZ.lt
        clear hi hlt hlt2 hx2 hxf hp ht hfp hlt' hi1 hts hrc
        by_cases a1 : p.data.toList = [84]
        · have e1 : (p.toList == [84]) = true := by rw [Lib.toList_data, beq_iff_eq]; exact a1
          by_cases b1 : tk = 1
          · subst b1
            cases b2 : nameB tt with
            | false =>
              have hN : likeT (c0, c1, c2, c3, c4) p (1, tt, ta) = none := by unfold likeT; rw [if_pos a1]; rw [if_pos rfl, if_neg (by rw [b2]; decide)]
              rw [hN] at hr
              simp only at hr
              subst hr
              clear hN hG hZ hB
              obtain ⟨z0, z1', z2', z3', z4'⟩ := cm_results cmdZ HZR.out
              have fz0 := HZR.out.frozen 0
              have fz1 := HZR.out.frozen 1
              have fz2 := HZR.out.frozen 2
              have fz3 := HZR.out.frozen 3
              have fz4 := HZR.out.frozen 4
              have HND := Lib.hid (docnameB tt false b2 HTS.out wr)
              clear b2 a1 hps z0 z1' z2' z3' z4' fz0 fz1 fz2 fz3 fz4
              go_wp2_with fail
              refine HND.out.mono ?_
              rintro e w3 ⟨rfl, hb3⟩
              have HB3 := Lib.hid (HB.out.trans (hb3.mono HB.out.size))
              have HZ3 := Lib.hid (HZR.out.below hb3 HZL.out)
              clear hb3 x0 y0 y1 y2
              obtain ⟨z0, z1', z2', z3', z4'⟩ := cm_results cmdZ HZ3.out
              have fz0 := HZ3.out.frozen 0
              have fz1 := HZ3.out.frozen 1
              have fz2 := HZ3.out.frozen 2
              have fz3 := HZ3.out.frozen 3
              have fz4 := HZ3.out.frozen 4
              skip
              go_wp2
              have hfin := cm_set5 0 ⟨#[]⟩ 0 0 false (HZ3.out)
              have hbfin := bel_set5 0 ⟨#[]⟩ 0 0 false (HB3.out) (Nat.le_refl w.heap.size)
              obtain ⟨k0, k1, k2, k3, k4⟩ := cm_results _ hfin
              refine bodyPost_ret (v := .tuple #[cmV cmdZ, .bool false]) (by simp [results, Tryz.results29, go_sem, k0, k1, k2, k3, k4, cmdZ]) rfl ?_
              exact ⟨rfl, hbfin⟩
            | true =>
              have hN : likeT (c0, c1, c2, c3, c4) p (1, tt, ta) = some (c0, tt, c2, c3, c4) := by unfold likeT; rw [if_pos a1]; rw [if_pos rfl, if_pos b2]
              rw [hN] at hr
              simp only at hr
              have HR2 := Lib.hid hr
              clear hN hG hZ hB hr
              have HND := Lib.hid (docnameB tt true b2 HTS.out wr)
              clear b2 a1 hps
              go_wp2_with fail
              refine HND.out.mono ?_
              rintro e w3 ⟨rfl, hb3⟩
              have HB3 := Lib.hid (HB.out.trans (hb3.mono HB.out.size))
              have HZ3 := Lib.hid (HZR.out.below hb3 HZL.out)
              have HG3 := Lib.hid (HG.out.below hb3 HGL.out)
              clear x0 y0 y1 y2
              obtain ⟨x0, y0, y1, y2⟩ := HX.out w3 hb3
              clear hb3
              obtain ⟨g0, g1, g2, g3, g4⟩ := cm_results (c0, c1, c2, c3, c4) HG3.out
              have fg0 := HG3.out.frozen 0
              have fg1 := HG3.out.frozen 1
              have fg2 := HG3.out.frozen 2
              have fg3 := HG3.out.frozen 3
              have fg4 := HG3.out.frozen 4
              go_wp2
              go_roundg gk
              case measure => exact Nat.lt_succ_self _
              case rel => exact ⟨i1, (c0, tt, c2, c3, c4), rfl, by have := HI.out; have := HI1.out; omega, HG3.out.set_ 1 _, HZ3.out.far (by show w.heap.size ≠ w.heap.size + 1; omega) _, HB3.out.setCell (p := ⟨w.heap.size + 1, 1, none⟩) (Nat.le_succ _) _, HR2.out⟩
          · have b2 : (tk != 1) = true := by rw [bne_iff_ne]; exact b1
            have hN : likeT (c0, c1, c2, c3, c4) p (tk, tt, ta) = none := by unfold likeT; rw [if_pos a1]; exact if_neg b1
            rw [hN] at hr
            simp only at hr
            subst hr
            clear hN hG hZ hB
            obtain ⟨z0, z1', z2', z3', z4'⟩ := cm_results cmdZ HZR.out
            have fz0 := HZR.out.frozen 0
            have fz1 := HZR.out.frozen 1
            have fz2 := HZR.out.frozen 2
            have fz3 := HZR.out.frozen 3
            have fz4 := HZR.out.frozen 4
            clear a1 hps
            go_wp2
            have hfin := cm_set5 0 ⟨#[]⟩ 0 0 false (HZR.out)
            have hbfin := bel_set5 0 ⟨#[]⟩ 0 0 false (HB.out) (Nat.le_refl w.heap.size)
            obtain ⟨k0, k1, k2, k3, k4⟩ := cm_results _ hfin
            refine bodyPost_ret (v := .tuple #[cmV cmdZ, .bool false]) (by simp [results, Tryz.results29, go_sem, k0, k1, k2, k3, k4, cmdZ]) rfl ?_
            exact ⟨rfl, hbfin⟩
        have e1 : (p.toList == [84]) = false := by rw [Lib.toList_data, beq_eq_false_iff_ne]; exact a1
        by_cases a2 : p.data.toList = [75]
        · have e2 : (p.toList == [75]) = true := by rw [Lib.toList_data, beq_iff_eq]; exact a2
          have HDG := Lib.hid (rdigs_any (tk, tt, ta) wr)
          obtain ⟨q, hq⟩ : ∃ q, numD (tk, tt, ta) = q := ⟨_, rfl⟩
          rw [hq] at HDG
          by_cases b1 : q < 0
          · skip
            have hN : likeT (c0, c1, c2, c3, c4) p (tk, tt, ta) = none := by unfold likeT; rw [if_neg a1, if_pos a2]; rw [hq]; exact if_pos b1
            rw [hN] at hr
            simp only at hr
            subst hr
            clear hN hG hZ hB
            clear hq a2 hps
            go_wp2_with fail
            refine HDG.out.mono ?_
            rintro e w3 ⟨rfl, hb3⟩
            have HB3 := Lib.hid (HB.out.trans (hb3.mono HB.out.size))
            have HZ3 := Lib.hid (HZR.out.below hb3 HZL.out)
            have HG3 := Lib.hid (HG.out.below hb3 HGL.out)
            clear x0 y0 y1 y2
            obtain ⟨x0, y0, y1, y2⟩ := HX.out w3 hb3
            clear hb3
            obtain ⟨g0, g1, g2, g3, g4⟩ := cm_results (c0, c1, c2, c3, c4) HG3.out
            have fg0 := HG3.out.frozen 0
            have fg1 := HG3.out.frozen 1
            have fg2 := HG3.out.frozen 2
            have fg3 := HG3.out.frozen 3
            have fg4 := HG3.out.frozen 4
            have HZ4 := Lib.hid ((HZ3.out.far (p := ⟨w.heap.size + 1, 2, none⟩) (by show w.heap.size ≠ w.heap.size + 1; omega) (.int .i64 q)).far (p := ⟨w.heap.size + 1, 4, none⟩) (by show w.heap.size ≠ w.heap.size + 1; omega) (.bool true))
            have HB4 := Lib.hid ((HB3.out.setCell (p := ⟨w.heap.size + 1, 2, none⟩) (Nat.le_succ _) (.int .i64 q)).setCell (p := ⟨w.heap.size + 1, 4, none⟩) (Nat.le_succ _) (.bool true))
            obtain ⟨z0, z1', z2', z3', z4'⟩ := cm_results cmdZ HZ3.out
            have fz0 := HZ3.out.frozen 0
            have fz1 := HZ3.out.frozen 1
            have fz2 := HZ3.out.frozen 2
            have fz3 := HZ3.out.frozen 3
            have fz4 := HZ3.out.frozen 4
            go_wp2
            have hfin := cm_set5 0 ⟨#[]⟩ 0 0 false (HZ4.out)
            have hbfin := bel_set5 0 ⟨#[]⟩ 0 0 false (HB4.out) (Nat.le_refl w.heap.size)
            obtain ⟨k0, k1, k2, k3, k4⟩ := cm_results _ hfin
            refine bodyPost_ret (v := .tuple #[cmV cmdZ, .bool false]) (by simp [results, Tryz.results29, go_sem, k0, k1, k2, k3, k4, cmdZ]) rfl ?_
            exact ⟨rfl, hbfin⟩
          · skip
            have hN : likeT (c0, c1, c2, c3, c4) p (tk, tt, ta) = some (c0, c1, q, c3, true) := by unfold likeT; rw [if_neg a1, if_pos a2]; rw [hq]; exact if_neg b1
            rw [hN] at hr
            simp only at hr
            have HR2 := Lib.hid hr
            clear hN hG hZ hB hr
            clear hq a2 hps
            go_wp2_with fail
            refine HDG.out.mono ?_
            rintro e w3 ⟨rfl, hb3⟩
            have HB3 := Lib.hid (HB.out.trans (hb3.mono HB.out.size))
            have HZ3 := Lib.hid (HZR.out.below hb3 HZL.out)
            have HG3 := Lib.hid (HG.out.below hb3 HGL.out)
            clear x0 y0 y1 y2
            obtain ⟨x0, y0, y1, y2⟩ := HX.out w3 hb3
            clear hb3
            obtain ⟨g0, g1, g2, g3, g4⟩ := cm_results (c0, c1, c2, c3, c4) HG3.out
            have fg0 := HG3.out.frozen 0
            have fg1 := HG3.out.frozen 1
            have fg2 := HG3.out.frozen 2
            have fg3 := HG3.out.frozen 3
            have fg4 := HG3.out.frozen 4
            go_wp2
            go_roundg gk
            case measure => exact Nat.lt_succ_self _
            case rel => exact ⟨i1, (c0, c1, q, c3, true), rfl, by have := HI.out; have := HI1.out; omega, (HG3.out.set_ 2 (.int .i64 q)).set_ 4 (.bool true), (HZ3.out.far (p := ⟨w.heap.size + 1, 2, none⟩) (by show w.heap.size ≠ w.heap.size + 1; omega) (.int .i64 q)).far (p := ⟨w.heap.size + 1, 4, none⟩) (by show w.heap.size ≠ w.heap.size + 1; omega) (.bool true), (HB3.out.setCell (p := ⟨w.heap.size + 1, 2, none⟩) (Nat.le_succ _) (.int .i64 q)).setCell (p := ⟨w.heap.size + 1, 4, none⟩) (Nat.le_succ _) (.bool true), HR2.out⟩
        have e2 : (p.toList == [75]) = false := by rw [Lib.toList_data, beq_eq_false_iff_ne]; exact a2
        by_cases a3 : p.data.toList = [86]
        · have e3 : (p.toList == [86]) = true := by rw [Lib.toList_data, beq_iff_eq]; exact a3
          have HDG := Lib.hid (rdigs_any (tk, tt, ta) wr)
          obtain ⟨q, hq⟩ : ∃ q, numD (tk, tt, ta) = q := ⟨_, rfl⟩
          rw [hq] at HDG
          by_cases b1 : q < 0
          · skip
            have hN : likeT (c0, c1, c2, c3, c4) p (tk, tt, ta) = none := by unfold likeT; rw [if_neg a1, if_neg a2, if_pos a3]; rw [hq]; exact if_pos b1
            rw [hN] at hr
            simp only at hr
            subst hr
            clear hN hG hZ hB
            clear hq a3 hps
            go_wp2_with fail
            refine HDG.out.mono ?_
            rintro e w3 ⟨rfl, hb3⟩
            have HB3 := Lib.hid (HB.out.trans (hb3.mono HB.out.size))
            have HZ3 := Lib.hid (HZR.out.below hb3 HZL.out)
            have HG3 := Lib.hid (HG.out.below hb3 HGL.out)
            clear x0 y0 y1 y2
            obtain ⟨x0, y0, y1, y2⟩ := HX.out w3 hb3
            clear hb3
            obtain ⟨g0, g1, g2, g3, g4⟩ := cm_results (c0, c1, c2, c3, c4) HG3.out
            have fg0 := HG3.out.frozen 0
            have fg1 := HG3.out.frozen 1
            have fg2 := HG3.out.frozen 2
            have fg3 := HG3.out.frozen 3
            have fg4 := HG3.out.frozen 4
            have HZ4 := Lib.hid (HZ3.out.far (p := ⟨w.heap.size + 1, 3, none⟩) (by show w.heap.size ≠ w.heap.size + 1; omega) (.int .i64 q))
            have HB4 := Lib.hid (HB3.out.setCell (p := ⟨w.heap.size + 1, 3, none⟩) (Nat.le_succ _) (.int .i64 q))
            obtain ⟨z0, z1', z2', z3', z4'⟩ := cm_results cmdZ HZ3.out
            have fz0 := HZ3.out.frozen 0
            have fz1 := HZ3.out.frozen 1
            have fz2 := HZ3.out.frozen 2
            have fz3 := HZ3.out.frozen 3
            have fz4 := HZ3.out.frozen 4
            go_wp2
            have hfin := cm_set5 0 ⟨#[]⟩ 0 0 false (HZ4.out)
            have hbfin := bel_set5 0 ⟨#[]⟩ 0 0 false (HB4.out) (Nat.le_refl w.heap.size)
            obtain ⟨k0, k1, k2, k3, k4⟩ := cm_results _ hfin
            refine bodyPost_ret (v := .tuple #[cmV cmdZ, .bool false]) (by simp [results, Tryz.results29, go_sem, k0, k1, k2, k3, k4, cmdZ]) rfl ?_
            exact ⟨rfl, hbfin⟩
          · skip
            have hN : likeT (c0, c1, c2, c3, c4) p (tk, tt, ta) = some (c0, c1, c2, q, c4) := by unfold likeT; rw [if_neg a1, if_neg a2, if_pos a3]; rw [hq]; exact if_neg b1
            rw [hN] at hr
            simp only at hr
            have HR2 := Lib.hid hr
            clear hN hG hZ hB hr
            clear hq a3 hps
            go_wp2_with fail
            refine HDG.out.mono ?_
            rintro e w3 ⟨rfl, hb3⟩
            have HB3 := Lib.hid (HB.out.trans (hb3.mono HB.out.size))
            have HZ3 := Lib.hid (HZR.out.below hb3 HZL.out)
            have HG3 := Lib.hid (HG.out.below hb3 HGL.out)
            clear x0 y0 y1 y2
            obtain ⟨x0, y0, y1, y2⟩ := HX.out w3 hb3
            clear hb3
            obtain ⟨g0, g1, g2, g3, g4⟩ := cm_results (c0, c1, c2, c3, c4) HG3.out
            have fg0 := HG3.out.frozen 0
            have fg1 := HG3.out.frozen 1
            have fg2 := HG3.out.frozen 2
            have fg3 := HG3.out.frozen 3
            have fg4 := HG3.out.frozen 4
            go_wp2
            go_roundg gk
            case measure => exact Nat.lt_succ_self _
            case rel => exact ⟨i1, (c0, c1, c2, q, c4), rfl, by have := HI.out; have := HI1.out; omega, HG3.out.set_ 3 (.int .i64 q), HZ3.out.far (p := ⟨w.heap.size + 1, 3, none⟩) (by show w.heap.size ≠ w.heap.size + 1; omega) (.int .i64 q), HB3.out.setCell (p := ⟨w.heap.size + 1, 3, none⟩) (Nat.le_succ _) (.int .i64 q), HR2.out⟩
        have e3 : (p.toList == [86]) = false := by rw [Lib.toList_data, beq_eq_false_iff_ne]; exact a3
        by_cases a4 : p.data.toList = [49]
        · have e4 : (p.toList == [49]) = true := by rw [Lib.toList_data, beq_iff_eq]; exact a4
          by_cases b1 : tk = 4
          · subst b1
            by_cases b2 : tt.data.toList = [49]
            · have b3 : (tt.toList != [49]) = false := by rw [Lib.toList_data, bne_eq_false_iff_eq]; exact b2
              have b4 : (tt.toList == [49]) = true := by rw [Lib.toList_data, beq_iff_eq]; exact b2
              have hN : likeT (c0, c1, c2, c3, c4) p (4, tt, ta) = some (c0, c1, c2, c3, c4) := by unfold likeT; rw [if_neg a1, if_neg a2, if_neg a3, if_pos a4]; rw [if_pos rfl]; exact if_pos b2
              rw [hN] at hr
              simp only at hr
              have HR2 := Lib.hid hr
              clear hN hG hZ hB hr
              clear a4 b2 hps
              go_wp2
              go_roundg gk
              case measure => exact Nat.lt_succ_self _
              case rel => exact ⟨i1, (c0, c1, c2, c3, c4), rfl, by have := HI.out; have := HI1.out; omega, HG.out, HZR.out, HB.out, HR2.out⟩
            · have b3 : (tt.toList != [49]) = true := by rw [Lib.toList_data, bne_iff_ne]; exact b2
              have b4 : (tt.toList == [49]) = false := by rw [Lib.toList_data, beq_eq_false_iff_ne]; exact b2
              have hN : likeT (c0, c1, c2, c3, c4) p (4, tt, ta) = none := by unfold likeT; rw [if_neg a1, if_neg a2, if_neg a3, if_pos a4]; rw [if_pos rfl]; exact if_neg b2
              rw [hN] at hr
              simp only at hr
              subst hr
              clear hN hG hZ hB
              obtain ⟨z0, z1', z2', z3', z4'⟩ := cm_results cmdZ HZR.out
              have fz0 := HZR.out.frozen 0
              have fz1 := HZR.out.frozen 1
              have fz2 := HZR.out.frozen 2
              have fz3 := HZR.out.frozen 3
              have fz4 := HZR.out.frozen 4
              clear a4 b2 hps
              go_wp2
              have hfin := cm_set5 0 ⟨#[]⟩ 0 0 false (HZR.out)
              have hbfin := bel_set5 0 ⟨#[]⟩ 0 0 false (HB.out) (Nat.le_refl w.heap.size)
              obtain ⟨k0, k1, k2, k3, k4⟩ := cm_results _ hfin
              refine bodyPost_ret (v := .tuple #[cmV cmdZ, .bool false]) (by simp [results, Tryz.results29, go_sem, k0, k1, k2, k3, k4, cmdZ]) rfl ?_
              exact ⟨rfl, hbfin⟩
          · have b2 : (tk != 4) = true := by rw [bne_iff_ne]; exact b1
            have hN : likeT (c0, c1, c2, c3, c4) p (tk, tt, ta) = none := by unfold likeT; rw [if_neg a1, if_neg a2, if_neg a3, if_pos a4]; exact if_neg b1
            rw [hN] at hr
            simp only at hr
            subst hr
            clear hN hG hZ hB
            obtain ⟨z0, z1', z2', z3', z4'⟩ := cm_results cmdZ HZR.out
            have fz0 := HZR.out.frozen 0
            have fz1 := HZR.out.frozen 1
            have fz2 := HZR.out.frozen 2
            have fz3 := HZR.out.frozen 3
            have fz4 := HZR.out.frozen 4
            clear a4 hps
            go_wp2
            have hfin := cm_set5 0 ⟨#[]⟩ 0 0 false (HZR.out)
            have hbfin := bel_set5 0 ⟨#[]⟩ 0 0 false (HB.out) (Nat.le_refl w.heap.size)
            obtain ⟨k0, k1, k2, k3, k4⟩ := cm_results _ hfin
            refine bodyPost_ret (v := .tuple #[cmV cmdZ, .bool false]) (by simp [results, Tryz.results29, go_sem, k0, k1, k2, k3, k4, cmdZ]) rfl ?_
            exact ⟨rfl, hbfin⟩
        have e4 : (p.toList == [49]) = false := by rw [Lib.toList_data, beq_eq_false_iff_ne]; exact a4
        have hp0 : (0 : Int) < (p.size : Int) := by omega
        obtain ⟨z, hz⟩ : ∃ z : Int, ((p[0]'hps).toNat : Int) = z := ⟨_, rfl⟩
        have hhd : (p.data.toList.headD 0).toNat = (p[0]'hps).toNat := by
          have hl0 : 0 < p.data.toList.length := by rw [← Lib.size_eq]; exact hps
          have : p.data.toList.headD 0 = p.data.toList[0]'hl0 := by rw [List.headD_eq_head?_getD, List.head?_eq_getElem?, List.getElem?_eq_getElem hl0]; rfl
          rw [this]; rfl
        by_cases hz1 : z < 97
        · have hkd : (if (p.data.toList.headD 0).toNat < 97 then (5 : Int) else 1) = 5 := by rw [hhd]; exact if_pos (by omega)
          by_cases b1 : tk = 5
          · subst b1
            have kb : ((5 : Int) != 5) = false := rfl
            by_cases b2 : tt = p
            · subst b2
              have b3 : (tt.toList != tt.toList) = false := by rw [bne_eq_false_iff_eq]
              have hN : likeT (c0, c1, c2, c3, c4) tt (5, tt, ta) = some (c0, c1, c2, c3, c4) := by unfold likeT; rw [if_neg a1, if_neg a2, if_neg a3, if_neg a4]; rw [hkd, if_pos rfl]; exact if_pos rfl
              rw [hN] at hr
              simp only at hr
              have HR2 := Lib.hid hr
              clear hN hG hZ hB hr
              clear a1 a2 a3 a4 hkd hhd
              go_wp2_with fail
              go_quiet (fail)
              go_wp2
              go_roundg gk
              case measure => exact Nat.lt_succ_self _
              case rel => exact ⟨i1, (c0, c1, c2, c3, c4), rfl, by have := HI.out; have := HI1.out; omega, HG.out.drewN _, HZR.out.drewN _, HB.out.trans (belN _ _ _), HR2.out⟩
            · have b3 : (tt.toList != p.toList) = true := by rw [Lib.toList_data, Lib.toList_data, bne_iff_ne]; exact fun h => b2 (by apply ByteArray.ext; exact Array.ext' h)
              have b4 : (tt.toList == p.toList) = false := by rw [Lib.toList_data, Lib.toList_data, beq_eq_false_iff_ne]; exact fun h => b2 (by apply ByteArray.ext; exact Array.ext' h)
              have hN : likeT (c0, c1, c2, c3, c4) p (5, tt, ta) = none := by unfold likeT; rw [if_neg a1, if_neg a2, if_neg a3, if_neg a4]; rw [hkd, if_pos rfl]; exact if_neg b2
              rw [hN] at hr
              simp only at hr
              subst hr
              clear hN hG hZ hB
              clear a1 a2 a3 a4 hkd hhd
              go_wp2_with fail
              go_quiet (fail)
              have HZ3 := Lib.hid (HZR.out.drewN nq)
              have HB3 := Lib.hid (HB.out.trans (belN _ _ nq))
              obtain ⟨z0, z1', z2', z3', z4'⟩ := cm_results cmdZ HZ3.out
              have fz0 := HZ3.out.frozen 0
              have fz1 := HZ3.out.frozen 1
              have fz2 := HZ3.out.frozen 2
              have fz3 := HZ3.out.frozen 3
              have fz4 := HZ3.out.frozen 4
              go_wp2
              have hfin := cm_set5 0 ⟨#[]⟩ 0 0 false (HZ3.out)
              have hbfin := bel_set5 0 ⟨#[]⟩ 0 0 false (HB3.out) (Nat.le_refl w.heap.size)
              obtain ⟨k0, k1, k2, k3, k4⟩ := cm_results _ hfin
              refine bodyPost_ret (v := .tuple #[cmV cmdZ, .bool false]) (by simp [results, Tryz.results29, go_sem, k0, k1, k2, k3, k4, cmdZ]) rfl ?_
              exact ⟨rfl, hbfin⟩
          · have b2 : (tk != 5) = true := by rw [bne_iff_ne]; exact b1
            have b3 : decide (tk = 5) = false := decide_eq_false b1
            have hN : likeT (c0, c1, c2, c3, c4) p (tk, tt, ta) = none := by unfold likeT; rw [if_neg a1, if_neg a2, if_neg a3, if_neg a4]; rw [hkd]; exact if_neg b1
            rw [hN] at hr
            simp only at hr
            subst hr
            clear hN hG hZ hB
            clear a1 a2 a3 a4 hkd hhd
            go_wp2_with fail
            go_quiet (fail)
            have HZ3 := Lib.hid (HZR.out.drewN nq)
            have HB3 := Lib.hid (HB.out.trans (belN _ _ nq))
            obtain ⟨z0, z1', z2', z3', z4'⟩ := cm_results cmdZ HZ3.out
            have fz0 := HZ3.out.frozen 0
            have fz1 := HZ3.out.frozen 1
            have fz2 := HZ3.out.frozen 2
            have fz3 := HZ3.out.frozen 3
            have fz4 := HZ3.out.frozen 4
            go_wp2
            have hfin := cm_set5 0 ⟨#[]⟩ 0 0 false (HZ3.out)
            have hbfin := bel_set5 0 ⟨#[]⟩ 0 0 false (HB3.out) (Nat.le_refl w.heap.size)
            obtain ⟨k0, k1, k2, k3, k4⟩ := cm_results _ hfin
            refine bodyPost_ret (v := .tuple #[cmV cmdZ, .bool false]) (by simp [results, Tryz.results29, go_sem, k0, k1, k2, k3, k4, cmdZ]) rfl ?_
            exact ⟨rfl, hbfin⟩
        · have hkd : (if (p.data.toList.headD 0).toNat < 97 then (5 : Int) else 1) = 1 := by rw [hhd]; exact if_neg (by omega)
          by_cases b1 : tk = 1
          · subst b1
            have kb : ((1 : Int) != 1) = false := rfl
            by_cases b2 : tt = p
            · subst b2
              have b3 : (tt.toList != tt.toList) = false := by rw [bne_eq_false_iff_eq]
              have hN : likeT (c0, c1, c2, c3, c4) tt (1, tt, ta) = some (c0, c1, c2, c3, c4) := by unfold likeT; rw [if_neg a1, if_neg a2, if_neg a3, if_neg a4]; rw [hkd, if_pos rfl]; exact if_pos rfl
              rw [hN] at hr
              simp only at hr
              have HR2 := Lib.hid hr
              clear hN hG hZ hB hr
              clear a1 a2 a3 a4 hkd hhd
              go_wp2_with fail
              go_quiet (fail)
              go_wp2
              go_roundg gk
              case measure => exact Nat.lt_succ_self _
              case rel => exact ⟨i1, (c0, c1, c2, c3, c4), rfl, by have := HI.out; have := HI1.out; omega, HG.out.drewN _, HZR.out.drewN _, HB.out.trans (belN _ _ _), HR2.out⟩
            · have b3 : (tt.toList != p.toList) = true := by rw [Lib.toList_data, Lib.toList_data, bne_iff_ne]; exact fun h => b2 (by apply ByteArray.ext; exact Array.ext' h)
              have b4 : (tt.toList == p.toList) = false := by rw [Lib.toList_data, Lib.toList_data, beq_eq_false_iff_ne]; exact fun h => b2 (by apply ByteArray.ext; exact Array.ext' h)
              have hN : likeT (c0, c1, c2, c3, c4) p (1, tt, ta) = none := by unfold likeT; rw [if_neg a1, if_neg a2, if_neg a3, if_neg a4]; rw [hkd, if_pos rfl]; exact if_neg b2
              rw [hN] at hr
              simp only at hr
              subst hr
              clear hN hG hZ hB
              clear a1 a2 a3 a4 hkd hhd
              go_wp2_with fail
              go_quiet (fail)
              have HZ3 := Lib.hid (HZR.out.drewN nq)
              have HB3 := Lib.hid (HB.out.trans (belN _ _ nq))
              obtain ⟨z0, z1', z2', z3', z4'⟩ := cm_results cmdZ HZ3.out
              have fz0 := HZ3.out.frozen 0
              have fz1 := HZ3.out.frozen 1
              have fz2 := HZ3.out.frozen 2
              have fz3 := HZ3.out.frozen 3
              have fz4 := HZ3.out.frozen 4
              go_wp2
              have hfin := cm_set5 0 ⟨#[]⟩ 0 0 false (HZ3.out)
              have hbfin := bel_set5 0 ⟨#[]⟩ 0 0 false (HB3.out) (Nat.le_refl w.heap.size)
              obtain ⟨k0, k1, k2, k3, k4⟩ := cm_results _ hfin
              refine bodyPost_ret (v := .tuple #[cmV cmdZ, .bool false]) (by simp [results, Tryz.results29, go_sem, k0, k1, k2, k3, k4, cmdZ]) rfl ?_
              exact ⟨rfl, hbfin⟩
          · have b2 : (tk != 1) = true := by rw [bne_iff_ne]; exact b1
            have b3 : decide (tk = 1) = false := decide_eq_false b1
            have hN : likeT (c0, c1, c2, c3, c4) p (tk, tt, ta) = none := by unfold likeT; rw [if_neg a1, if_neg a2, if_neg a3, if_neg a4]; rw [hkd]; exact if_neg b1
            rw [hN] at hr
            simp only at hr
            subst hr
            clear hN hG hZ hB
            clear a1 a2 a3 a4 hkd hhd
            go_wp2_with fail
            go_quiet (fail)
            have HZ3 := Lib.hid (HZR.out.drewN nq)
            have HB3 := Lib.hid (HB.out.trans (belN _ _ nq))
            obtain ⟨z0, z1', z2', z3', z4'⟩ := cm_results cmdZ HZ3.out
            have fz0 := HZ3.out.frozen 0
            have fz1 := HZ3.out.frozen 1
            have fz2 := HZ3.out.frozen 2
            have fz3 := HZ3.out.frozen 3
            have fz4 := HZ3.out.frozen 4
            go_wp2
            have hfin := cm_set5 0 ⟨#[]⟩ 0 0 false (HZ3.out)
            have hbfin := bel_set5 0 ⟨#[]⟩ 0 0 false (HB3.out) (Nat.le_refl w.heap.size)
            obtain ⟨k0, k1, k2, k3, k4⟩ := cm_results _ hfin
            refine bodyPost_ret (v := .tuple #[cmV cmdZ, .bool false]) (by simp [results, Tryz.results29, go_sem, k0, k1, k2, k3, k4, cmdZ]) rfl ?_
            exact ⟨rfl, hbfin⟩
  · rw [if_neg hll] at hR
    have ne : ((l.length : Int) != (f.length : Int)) = true := by rw [bne_iff_ne]; omega
    subst hR
    obtain ⟨z0, z1', z2', z3', z4'⟩ := cm_results cmdZ HZ.out
    have fz0 := HZ.out.frozen 0
    have fz1 := HZ.out.frozen 1
    have fz2 := HZ.out.frozen 2
    have fz3 := HZ.out.frozen 3
    have fz4 := HZ.out.frozen 4
    obtain ⟨g0, g1, g2, g3, g4⟩ := cm_results cmdZ HC.out
    have HW1 := Lib.hid hW1
    clear hll hZ hC hb1 hT hl hz hp hW1
    go_enter Tryz.func29, Tryz.ntmps29
    go_wp2
    rw [HW1.out]
    refine bodyPost_ret (v := .tuple #[cmV cmdZ, .bool false]) (by simp [results, Tryz.results29, go_sem, z0, z1', z2', z3', z4', cmdZ]) rfl ?_
    exact ⟨rfl, HB1.out⟩
end Go.Proofs.YtjloookjlnmgdaaGreatDoor
