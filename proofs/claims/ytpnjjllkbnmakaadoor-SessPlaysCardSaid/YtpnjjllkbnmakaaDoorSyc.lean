/- Package sess, its code: what an ask tells; which rule holds. Conditions: few keys; what is laid. -/
import Derived.Test.YtpnjjllkbnmakaaDoorSyb
namespace Go.Proofs.YtpnjjllkbnmakaaDoor.SE
open Go.ChangeShapes Go.WideShapes Go.ChangeAt Go.RowKit
open Go.Proofs.YtpnjjllkbnmakaaDoor.SL
set_option maxRecDepth 100000
set_option linter.unusedVariables false
set_option linter.unusedSimpArgs false

theorem light_any (v : Value) (a : Ak) (w : World) {z9 : Nat} (hA : AkR z9 w v a) (hl1 : a.ks.length ≤ 9223372036854775807) (hl2 : a.vs.length ≤ 9223372036854775807) :
    Calls Tryd.prog 8 #[v] w fun e w' => e = .returned (.bool (decide (Lt a))) ∧ Below w.heap.size w w' := by
  obtain ⟨n, po, sq, kv, vv, av, nv, fv, m, wh, pid, sec, rfl, hk, hv, hz, ⟨A3, n3, c3, rfl⟩, ⟨A4, n4, c4, rfl⟩, ⟨A5, n5, c5, rfl⟩⟩ := hA
  obtain ⟨A1, c1, rfl⟩ := hk.ts.form
  obtain ⟨A2, c2, rfl⟩ := hv.ts.form
  obtain ⟨ak, hak⟩ : ∃ x, a.k = x := ⟨_, rfl⟩
  obtain ⟨ac, hac⟩ : ∃ x, a.c = x := ⟨_, rfl⟩
  obtain ⟨n1, hn1⟩ : ∃ x, a.ks.length = x := ⟨_, rfl⟩
  obtain ⟨n2, hn2⟩ : ∃ x, a.vs.length = x := ⟨_, rfl⟩
  rw [hak, hac, hn1, hn2]
  rw [hn1] at hk
  rw [hn2] at hv
  obtain ⟨W1, hW1⟩ : ∃ W, w.alloc (.cells #[.int .u8 ak, .string n, .string po, .string sq, .slice A1 n1 c1, .slice A2 n2 c2, .slice A3 n3 c3, .slice A4 n4 c4, .slice A5 n5 c5, nV m, .int .u8 wh, .bool ac, nV pid, nV sec] 32) = W := ⟨_, rfl⟩
  obtain ⟨q, hq⟩ : ∃ b, w.heap.size = b := ⟨_, rfl⟩
  have hb1 : Below w.heap.size w W1 := by rw [← hW1]; exact (Below.refl _ _).alloc (Nat.le_refl _) _
  have k1 : Bk W1 q 32 #[.int .u8 ak, .string n, .string po, .string sq, .slice A1 n1 c1, .slice A2 n2 c2, .slice A3 n3 c3, .slice A4 n4 c4, .slice A5 n5 c5, nV m, .int .u8 wh, .bool ac, nV pid, nV sec] := by rw [← hW1, ← hq]; exact Bk.new _ _ _
  have x0 := k1.cell 0
  have x1 := k1.cell 1
  have x2 := k1.cell 2
  have x3 := k1.cell 3
  have x4 := k1.cell 4
  have x5 := k1.cell 5
  have x6 := k1.cell 6
  have x7 := k1.cell 7
  have x8 := k1.cell 8
  have x9 := k1.cell 9
  have x10 := k1.cell 10
  have x11 := k1.cell 11
  have x12 := k1.cell 12
  have x13 := k1.cell 13
  simp at x0 x1 x2 x3 x4 x5 x6 x7 x8 x9 x10 x11 x12 x13
  have hA1 : AkR z9 W1 (.agg #[.int .u8 ak, .string n, .string po, .string sq, .slice A1 n1 c1, .slice A2 n2 c2, .slice A3 n3 c3, .slice A4 n4 c4, .slice A5 n5 c5, nV m, .int .u8 wh, .bool ac, nV pid, nV sec]) a := ⟨n, po, sq, _, _, _, _, _, m, wh, pid, sec, by rw [hak, hac], hk.below hb1, hv.below hb1, hz, ⟨_, _, _, rfl⟩, ⟨_, _, _, rfl⟩, ⟨_, _, _, rfl⟩⟩
  have HB1 := Lib.hid hb1
  obtain ⟨R, hR⟩ : ∃ R, decide (Lt a) = R := ⟨_, rfl⟩
  have hR2 : decide (n1 ≤ 30 ∧ n2 ≤ 30) = R := by rw [← hR, ← hn1, ← hn2]; rfl
  rw [hR]
  clear hA1 hk hv hz k1 hb1 hR
  by_cases h1 : n1 ≤ 30
  · have l1 : (n1 : Int) ≤ 30 := by omega
    by_cases h2 : n2 ≤ 30
    · have l2 : (n2 : Int) ≤ 30 := by omega
      have : R = true := by rw [← hR2]; simp [h1, h2]
      subst this
      clear hR2 h1 h2
      go_enter Tryd.func8, Tryd.ntmps8
      go_wp2
      go_ret
      exact ⟨rfl, by first | exact HB1.out | (rw [← hq]; exact HB1.out)⟩
    · have l2 : ¬ (n2 : Int) ≤ 30 := by omega
      have : R = false := by rw [← hR2]; simp [h1, h2]
      subst this
      clear hR2 h1 h2
      go_enter Tryd.func8, Tryd.ntmps8
      go_wp2
      go_ret
      exact ⟨rfl, by first | exact HB1.out | (rw [← hq]; exact HB1.out)⟩
  · have l1 : ¬ (n1 : Int) ≤ 30 := by omega
    have : R = false := by rw [← hR2]; simp [h1]
    subst this
    clear hR2 h1
    go_enter Tryd.func8, Tryd.ntmps8
    go_wp2
    go_ret
    exact ⟨rfl, by first | exact HB1.out | (rw [← hq]; exact HB1.out)⟩
set_option maxHeartbeats 2000000 in
theorem valOf_any (v : Value) (a : Ak) (key : Tx) (w : World) {z9 : Nat} (hA : AkR z9 w v a) (hl : Lt a) :
    Calls Tryd.prog 28 #[v, .string key] w fun e w' => e = .returned (.string (valL key a.ks a.vs)) ∧ Below w.heap.size w w' := by
  obtain ⟨n, po, sq, kv, vv, av, nv, fv, m, wh, pid, sec, rfl, hk, hv, hz, ⟨A3, n3, c3, rfl⟩, ⟨A4, n4, c4, rfl⟩, ⟨A5, n5, c5, rfl⟩⟩ := hA
  obtain ⟨A1, c1, rfl⟩ := hk.ts.form
  obtain ⟨A2, c2, rfl⟩ := hv.ts.form
  obtain ⟨ak, hak⟩ : ∃ x, a.k = x := ⟨_, rfl⟩
  obtain ⟨ac, hac⟩ : ∃ x, a.c = x := ⟨_, rfl⟩
  obtain ⟨n1, hn1⟩ : ∃ x, a.ks.length = x := ⟨_, rfl⟩
  obtain ⟨n2, hn2⟩ : ∃ x, a.vs.length = x := ⟨_, rfl⟩
  rw [hak, hac, hn1, hn2]
  rw [hn1] at hk
  rw [hn2] at hv
  obtain ⟨W1, hW1⟩ : ∃ W, w.alloc (.cells #[.int .u8 ak, .string n, .string po, .string sq, .slice A1 n1 c1, .slice A2 n2 c2, .slice A3 n3 c3, .slice A4 n4 c4, .slice A5 n5 c5, nV m, .int .u8 wh, .bool ac, nV pid, nV sec] 32) = W := ⟨_, rfl⟩
  obtain ⟨q, hq⟩ : ∃ b, w.heap.size = b := ⟨_, rfl⟩
  have hb1 : Below w.heap.size w W1 := by rw [← hW1]; exact (Below.refl _ _).alloc (Nat.le_refl _) _
  have k1 : Bk W1 q 32 #[.int .u8 ak, .string n, .string po, .string sq, .slice A1 n1 c1, .slice A2 n2 c2, .slice A3 n3 c3, .slice A4 n4 c4, .slice A5 n5 c5, nV m, .int .u8 wh, .bool ac, nV pid, nV sec] := by rw [← hW1, ← hq]; exact Bk.new _ _ _
  have x0 := k1.cell 0
  have x1 := k1.cell 1
  have x2 := k1.cell 2
  have x3 := k1.cell 3
  have x4 := k1.cell 4
  have x5 := k1.cell 5
  have x6 := k1.cell 6
  have x7 := k1.cell 7
  have x8 := k1.cell 8
  have x9 := k1.cell 9
  have x10 := k1.cell 10
  have x11 := k1.cell 11
  have x12 := k1.cell 12
  have x13 := k1.cell 13
  simp at x0 x1 x2 x3 x4 x5 x6 x7 x8 x9 x10 x11 x12 x13
  have hA1 : AkR z9 W1 (.agg #[.int .u8 ak, .string n, .string po, .string sq, .slice A1 n1 c1, .slice A2 n2 c2, .slice A3 n3 c3, .slice A4 n4 c4, .slice A5 n5 c5, nV m, .int .u8 wh, .bool ac, nV pid, nV sec]) a := ⟨n, po, sq, _, _, _, _, _, m, wh, pid, sec, by rw [hak, hac], hk.below hb1, hv.below hb1, hz, ⟨_, _, _, rfl⟩, ⟨_, _, _, rfl⟩, ⟨_, _, _, rfl⟩⟩
  have HB1 := Lib.hid hb1
  have HI := Lib.hid (index_any _ a.ks key W1 (hk.below hb1).ts hl.1)
  rw [valL_ix]
  have hln : n1 ≤ 30 ∧ n2 ≤ 30 := by rw [← hn1, ← hn2]; exact hl
  have hix : ∀ i, ixL key a.ks = some i → i < n1 := fun i h => by rw [← hn1]; exact ixL_lt h
  unfold ixI at HI
  have hv1 := (hv.below hb1).ts
  clear hA1 hk hv hz k1 hb1 hl
  generalize ixL key a.ks = oi at *
  cases oi with
  | none =>
    have l1 : (-1 : Int) < 0 := by omega
    simp only at HI ⊢
    clear hix hv1 hln
    go_enter Tryd.func28, Tryd.ntmps28
    go_wp2_with (go_at_call 34; refine HI.out.mono ?_; rintro e w' ⟨rfl, rfl⟩)
    go_ret
    exact ⟨rfl, by first | exact HB1.out | (rw [← hq]; exact HB1.out)⟩
  | some i =>
    have hi := hix i rfl
    simp only at HI ⊢
    have l1 : ¬ (i : Int) < 0 := by omega
    by_cases h2 : i < n2
    · have l2 : ¬ (i : Int) ≥ (n2 : Int) := by omega
      have l2' : ¬ (n2 : Int) ≤ (i : Int) := by omega
      have l3 : (i : Int) < (n2 : Int) := by omega
      have l0 : (0 : Int) ≤ (i : Int) := by omega
      obtain ⟨b1, o1, q1, he1, hc1, hx1⟩ := hv1.inv (by omega)
      rw [hn2] at he1
      injection he1 with f1 _ f3
      subst f1 f3
      have hlt : i < a.vs.length := by omega
      have y1 := hx1 i _ (List.getElem?_eq_getElem hlt)
      rw [show a.vs.getD i e0 = a.vs[i] by rw [List.getD_eq_getElem?_getD, List.getElem?_eq_getElem hlt]; rfl]
      generalize a.vs[i] = y at *
      have hn3 : n2 ≤ c2 := by rw [← hn2]; exact hc1
      clear hix hln hx1 hlt hc1 hi hv1
      go_enter Tryd.func28, Tryd.ntmps28
      go_wp2_with (go_at_call 34; refine HI.out.mono ?_; rintro e w' ⟨rfl, rfl⟩)
      go_ret
      exact ⟨rfl, by first | exact HB1.out | (rw [← hq]; exact HB1.out)⟩
    · have l2 : (i : Int) ≥ (n2 : Int) := by omega
      have l2' : (n2 : Int) ≤ (i : Int) := by omega
      rw [show a.vs.getD i e0 = e0 by rw [List.getD_eq_getElem?_getD, List.getElem?_eq_none (by omega)]; rfl]
      clear hix hln hv1 hi
      go_enter Tryd.func28, Tryd.ntmps28
      go_wp2_with (go_at_call 34; refine HI.out.mono ?_; rintro e w' ⟨rfl, rfl⟩)
      go_ret
      exact ⟨rfl, by first | exact HB1.out | (rw [← hq]; exact HB1.out)⟩
theorem empty_tl (s : Tx) : (s.toList.isEmpty) = decide (s = e0) := by
  have h1 : (s.toList == e0.toList) = decide (s = e0) := tl_dec _ _
  have h2 : e0.toList = [] := by kernel_rfl
  rw [h2] at h1
  rw [← h1]
  cases s.toList <;> rfl
set_option maxHeartbeats 2000000 in
theorem first_any (v : Value) (a : Ak) (w : World) {z9 : Nat} (hA : AkR z9 w v a) (hl : Lt a) :
    Calls Tryd.prog 32 #[v] w fun e w' => e = .returned (nV (firN a)) ∧ Below w.heap.size w w' := by
  obtain ⟨n, po, sq, kv, vv, av, nv, fv, m, wh, pid, sec, rfl, hk, hv, hz, ⟨A3, n3, c3, rfl⟩, ⟨A4, n4, c4, rfl⟩, ⟨A5, n5, c5, rfl⟩⟩ := hA
  obtain ⟨A1, c1, rfl⟩ := hk.ts.form
  obtain ⟨A2, c2, rfl⟩ := hv.ts.form
  obtain ⟨ak, hak⟩ : ∃ x, a.k = x := ⟨_, rfl⟩
  obtain ⟨ac, hac⟩ : ∃ x, a.c = x := ⟨_, rfl⟩
  obtain ⟨n1, hn1⟩ : ∃ x, a.ks.length = x := ⟨_, rfl⟩
  obtain ⟨n2, hn2⟩ : ∃ x, a.vs.length = x := ⟨_, rfl⟩
  rw [hak, hac, hn1, hn2]
  rw [hn1] at hk
  rw [hn2] at hv
  obtain ⟨W1, hW1⟩ : ∃ W, w.alloc (.cells #[.int .u8 ak, .string n, .string po, .string sq, .slice A1 n1 c1, .slice A2 n2 c2, .slice A3 n3 c3, .slice A4 n4 c4, .slice A5 n5 c5, nV m, .int .u8 wh, .bool ac, nV pid, nV sec] 32) = W := ⟨_, rfl⟩
  obtain ⟨q, hq⟩ : ∃ b, w.heap.size = b := ⟨_, rfl⟩
  have hb1 : Below w.heap.size w W1 := by rw [← hW1]; exact (Below.refl _ _).alloc (Nat.le_refl _) _
  have k1 : Bk W1 q 32 #[.int .u8 ak, .string n, .string po, .string sq, .slice A1 n1 c1, .slice A2 n2 c2, .slice A3 n3 c3, .slice A4 n4 c4, .slice A5 n5 c5, nV m, .int .u8 wh, .bool ac, nV pid, nV sec] := by rw [← hW1, ← hq]; exact Bk.new _ _ _
  have x0 := k1.cell 0
  have x1 := k1.cell 1
  have x2 := k1.cell 2
  have x3 := k1.cell 3
  have x4 := k1.cell 4
  have x5 := k1.cell 5
  have x6 := k1.cell 6
  have x7 := k1.cell 7
  have x8 := k1.cell 8
  have x9 := k1.cell 9
  have x10 := k1.cell 10
  have x11 := k1.cell 11
  have x12 := k1.cell 12
  have x13 := k1.cell 13
  simp at x0 x1 x2 x3 x4 x5 x6 x7 x8 x9 x10 x11 x12 x13
  have hA1 : AkR z9 W1 (.agg #[.int .u8 ak, .string n, .string po, .string sq, .slice A1 n1 c1, .slice A2 n2 c2, .slice A3 n3 c3, .slice A4 n4 c4, .slice A5 n5 c5, nV m, .int .u8 wh, .bool ac, nV pid, nV sec]) a := ⟨n, po, sq, _, _, _, _, _, m, wh, pid, sec, by rw [hak, hac], hk.below hb1, hv.below hb1, hz, ⟨_, _, _, rfl⟩, ⟨_, _, _, rfl⟩, ⟨_, _, _, rfl⟩⟩
  have HB1 := Lib.hid hb1
  have HV := Lib.hid (valOf_any _ a userT W1 hA1 hl)
  have he := empty_tl a.user
  have hz2 : (!(a.user.toList.isEmpty)) = !decide (a.user = e0) := by rw [he]
  unfold firN
  rw [hac]
  change Hid (Calls _ _ _ _ fun e w' => e = .returned (.string a.user) ∧ _) at HV
  generalize a.user = us at *
  clear hA1 hk hv hz k1 hb1 hl
  cases ac with
  | true =>
    simp only [if_true]
    clear he hz2 HV
    go_enter Tryd.func32, Tryd.ntmps32
    go_wp2
    go_ret
    exact ⟨rfl, by first | exact HB1.out | (rw [← hq]; exact HB1.out)⟩
  | false =>
    simp only [Bool.false_eq_true, if_false]
    by_cases h : us = e0
    · rw [if_pos h]
      have h1 : us.toList.isEmpty = true := by rw [he]; simp [h]
      clear he hz2 h
      go_enter Tryd.func32, Tryd.ntmps32
      go_wp2_with (go_at_call 28; refine HV.out.mono ?_; rintro e w' ⟨rfl, hb2⟩; have HB2 := Lib.hid (HB1.out.trans (hb2.mono HB1.out.size)); clear hb2)
      go_ret
      exact ⟨rfl, by first | exact HB2.out | (rw [← hq]; exact HB2.out)⟩
    · rw [if_neg h]
      have h1 : us.toList.isEmpty = false := by rw [he]; simp [h]
      clear he hz2 h
      go_enter Tryd.func32, Tryd.ntmps32
      go_wp2_with (go_at_call 28; refine HV.out.mono ?_; rintro e w' ⟨rfl, hb2⟩; have HB2 := Lib.hid (HB1.out.trans (hb2.mono HB1.out.size)); clear hb2)
      go_ret
      exact ⟨rfl, by first | exact HB2.out | (rw [← hq]; exact HB2.out)⟩
set_option maxHeartbeats 4000000 in
theorem saidBy_any (v : Value) (a : Ak) (w : World) {z9 : Nat} (hA : AkR z9 w v a) (hl : Lt a) :
    Calls Tryd.prog 26 #[v] w fun e w' => e = .returned (nV (saidN a)) ∧ Below w.heap.size w w' := by
  obtain ⟨n, po, sq, kv, vv, av, nv, fv, m, wh, pid, sec, rfl, hk, hv, hz, ⟨A3, n3, c3, rfl⟩, ⟨A4, n4, c4, rfl⟩, ⟨A5, n5, c5, rfl⟩⟩ := hA
  obtain ⟨A1, c1, rfl⟩ := hk.ts.form
  obtain ⟨A2, c2, rfl⟩ := hv.ts.form
  obtain ⟨ak, hak⟩ : ∃ x, a.k = x := ⟨_, rfl⟩
  obtain ⟨ac, hac⟩ : ∃ x, a.c = x := ⟨_, rfl⟩
  obtain ⟨n1, hn1⟩ : ∃ x, a.ks.length = x := ⟨_, rfl⟩
  obtain ⟨n2, hn2⟩ : ∃ x, a.vs.length = x := ⟨_, rfl⟩
  rw [hak, hac, hn1, hn2]
  rw [hn1] at hk
  rw [hn2] at hv
  obtain ⟨W1, hW1⟩ : ∃ W, w.alloc (.cells #[.int .u8 ak, .string n, .string po, .string sq, .slice A1 n1 c1, .slice A2 n2 c2, .slice A3 n3 c3, .slice A4 n4 c4, .slice A5 n5 c5, nV m, .int .u8 wh, .bool ac, nV pid, nV sec] 32) = W := ⟨_, rfl⟩
  obtain ⟨q, hq⟩ : ∃ b, w.heap.size = b := ⟨_, rfl⟩
  have hb1 : Below w.heap.size w W1 := by rw [← hW1]; exact (Below.refl _ _).alloc (Nat.le_refl _) _
  have k1 : Bk W1 q 32 #[.int .u8 ak, .string n, .string po, .string sq, .slice A1 n1 c1, .slice A2 n2 c2, .slice A3 n3 c3, .slice A4 n4 c4, .slice A5 n5 c5, nV m, .int .u8 wh, .bool ac, nV pid, nV sec] := by rw [← hW1, ← hq]; exact Bk.new _ _ _
  have x0 := k1.cell 0
  have x1 := k1.cell 1
  have x2 := k1.cell 2
  have x3 := k1.cell 3
  have x4 := k1.cell 4
  have x5 := k1.cell 5
  have x6 := k1.cell 6
  have x7 := k1.cell 7
  have x8 := k1.cell 8
  have x9 := k1.cell 9
  have x10 := k1.cell 10
  have x11 := k1.cell 11
  have x12 := k1.cell 12
  have x13 := k1.cell 13
  simp at x0 x1 x2 x3 x4 x5 x6 x7 x8 x9 x10 x11 x12 x13
  have hA1 : AkR z9 W1 (.agg #[.int .u8 ak, .string n, .string po, .string sq, .slice A1 n1 c1, .slice A2 n2 c2, .slice A3 n3 c3, .slice A4 n4 c4, .slice A5 n5 c5, nV m, .int .u8 wh, .bool ac, nV pid, nV sec]) a := ⟨n, po, sq, _, _, _, _, _, m, wh, pid, sec, by rw [hak, hac], hk.below hb1, hv.below hb1, hz, ⟨_, _, _, rfl⟩, ⟨_, _, _, rfl⟩, ⟨_, _, _, rfl⟩⟩
  have HB1 := Lib.hid hb1
  have HF := Lib.hid (first_any _ a W1 hA1 hl)
  unfold saidN
  rw [hak]
  clear hA1 hk hv hz k1 hb1 hl
  by_cases g0 : ak = 0
  · rw [if_pos g0]
    subst g0
    go_enter Tryd.func26, Tryd.ntmps26
    go_wp2_with (go_at_call 32; refine HF.out.mono ?_; rintro e w' ⟨rfl, hb2⟩; have HB2 := Lib.hid (HB1.out.trans (hb2.mono HB1.out.size)); clear hb2)
    go_ret
    exact ⟨rfl, by first | exact HB2.out | (rw [← hq]; exact HB2.out)⟩
  rw [if_neg g0]
  clear HF
  unfold kndN
  by_cases g112 : ak = 112
  · rw [if_pos g112]
    subst g112
    clear g0
    go_enter Tryd.func26, Tryd.ntmps26
    go_wp2
    go_ret
    exact ⟨rfl, by first | exact HB1.out | (rw [← hq]; exact HB1.out)⟩
  rw [if_neg g112]
  by_cases g81 : ak = 81
  · rw [if_pos g81]
    subst g81
    clear g0 g112
    go_enter Tryd.func26, Tryd.ntmps26
    go_wp2
    go_ret
    exact ⟨rfl, by first | exact HB1.out | (rw [← hq]; exact HB1.out)⟩
  rw [if_neg g81]
  by_cases gE : ak = 80 ∨ ak = 66 ∨ ak = 68 ∨ ak = 69 ∨ ak = 67 ∨ ak = 72
  · rw [if_pos gE]
    clear g0 g112 g81
    rcases gE with rfl | rfl | rfl | rfl | rfl | rfl
    · go_enter Tryd.func26, Tryd.ntmps26
      go_wp2
      go_ret
      exact ⟨rfl, by first | exact HB1.out | (rw [← hq]; exact HB1.out)⟩
    · go_enter Tryd.func26, Tryd.ntmps26
      go_wp2
      go_ret
      exact ⟨rfl, by first | exact HB1.out | (rw [← hq]; exact HB1.out)⟩
    · go_enter Tryd.func26, Tryd.ntmps26
      go_wp2
      go_ret
      exact ⟨rfl, by first | exact HB1.out | (rw [← hq]; exact HB1.out)⟩
    · go_enter Tryd.func26, Tryd.ntmps26
      go_wp2
      go_ret
      exact ⟨rfl, by first | exact HB1.out | (rw [← hq]; exact HB1.out)⟩
    · go_enter Tryd.func26, Tryd.ntmps26
      go_wp2
      go_ret
      exact ⟨rfl, by first | exact HB1.out | (rw [← hq]; exact HB1.out)⟩
    · go_enter Tryd.func26, Tryd.ntmps26
      go_wp2
      go_ret
      exact ⟨rfl, by first | exact HB1.out | (rw [← hq]; exact HB1.out)⟩
  rw [if_neg gE]
  have g80 : ¬ ak = 80 := fun e => gE (.inl e)
  have g66 : ¬ ak = 66 := fun e => gE (.inr (.inl e))
  have g68 : ¬ ak = 68 := fun e => gE (.inr (.inr (.inl e)))
  have g69 : ¬ ak = 69 := fun e => gE (.inr (.inr (.inr (.inl e))))
  have g67 : ¬ ak = 67 := fun e => gE (.inr (.inr (.inr (.inr (.inl e)))))
  have g72 : ¬ ak = 72 := fun e => gE (.inr (.inr (.inr (.inr (.inr e)))))
  clear gE
  by_cases g83 : ak = 83
  · rw [if_pos g83]
    subst g83
    clear g0 g112 g81 g80 g66 g68 g69 g67 g72
    go_enter Tryd.func26, Tryd.ntmps26
    go_wp2
    go_ret
    exact ⟨rfl, by first | exact HB1.out | (rw [← hq]; exact HB1.out)⟩
  rw [if_neg g83]
  by_cases g88 : ak = 88
  · rw [if_pos g88]
    subst g88
    clear g0 g112 g81 g80 g66 g68 g69 g67 g72 g83
    go_enter Tryd.func26, Tryd.ntmps26
    go_wp2
    go_ret
    exact ⟨rfl, by first | exact HB1.out | (rw [← hq]; exact HB1.out)⟩
  rw [if_neg g88]
  have g0b : (ak == 0) = false := by simp [g0]
  have g112b : (ak == 112) = false := by simp [g112]
  have g81b : (ak == 81) = false := by simp [g81]
  have g80b : (ak == 80) = false := by simp [g80]
  have g66b : (ak == 66) = false := by simp [g66]
  have g68b : (ak == 68) = false := by simp [g68]
  have g69b : (ak == 69) = false := by simp [g69]
  have g67b : (ak == 67) = false := by simp [g67]
  have g72b : (ak == 72) = false := by simp [g72]
  have g83b : (ak == 83) = false := by simp [g83]
  have g88b : (ak == 88) = false := by simp [g88]
  go_enter Tryd.func26, Tryd.ntmps26
  go_wp2
  go_ret
  exact ⟨rfl, by first | exact HB1.out | (rw [← hq]; exact HB1.out)⟩
theorem ruleL_drop (n : Int) : ∀ (l : List R4) (k : Nat), k < l.length → ∃ r, l[k]? = some r ∧ ((k + 1 = l.length ∨ r.1 = n) → ruleL n (l.drop k) = r) ∧ ((k + 1 < l.length ∧ r.1 ≠ n) → ruleL n (l.drop k) = ruleL n (l.drop (k + 1))) := by
  intro l k hk
  refine ⟨l[k], List.getElem?_eq_getElem hk, ?_, ?_⟩
  · intro h
    rw [List.drop_eq_getElem_cons hk]
    rcases Nat.lt_or_ge (k + 1) l.length with h1 | h1
    · rw [List.drop_eq_getElem_cons h1]
      rcases h with h | h
      · omega
      · rw [ruleL, if_pos h]
    · rw [List.drop_of_length_le h1]; rfl
  · rintro ⟨h1, h2⟩
    rw [List.drop_eq_getElem_cons hk, List.drop_eq_getElem_cons h1, ruleL, if_neg h2]
set_option maxHeartbeats 4000000 in
theorem ruleOf_any (p : Nat) (hp : p < 7) (n : Int) (w : World) {z9 : Nat} (hr : Ru z9 w) :
    Calls Tryd.prog 25 #[nV (p : Int), nV n] w fun e w' => e = .returned (.agg #[nV (ruleP p n).1, nV (ruleP p n).2.1, nV (ruleP p n).2.2.1, nV (ruleP p n).2.2.2]) ∧ Below w.heap.size w w' := by
  obtain ⟨l, hl⟩ : ∃ l, rulesT.getD p [] = l := ⟨_, rfl⟩
  have hlp := rules_at p hp
  have hne := (rule_ok _ (List.mem_of_getElem? hlp)).1
  rw [hl] at hlp hne
  have hll : l.length ≤ 5 := (show ∀ l ∈ rulesT, l.length ≤ 5 by decide) l (List.mem_of_getElem? hlp)
  have hl0 := List.length_pos_iff.2 hne
  unfold ruleP
  rw [hl]
  obtain ⟨R, hR⟩ : ∃ R, ruleL n l = R := ⟨_, rfl⟩
  rw [hR]
  obtain ⟨W1, hW1⟩ : ∃ W, w.alloc (.cells #[nV 0, nV 0, nV 0, nV 0] 52) = W := ⟨_, rfl⟩
  obtain ⟨q, hq⟩ : ∃ b, w.heap.size = b := ⟨_, rfl⟩
  have hb1 : Below w.heap.size w W1 := by rw [← hW1]; exact (Below.refl _ _).alloc (Nat.le_refl _) _
  have k1 : Bk W1 q 52 #[nV 0, nV 0, nV 0, nV 0] := by rw [← hW1, ← hq]; exact Bk.new _ _ _
  have z0 := k1.cell 0
  have z1 := k1.cell 1
  have z2 := k1.cell 2
  have z3 := k1.cell 3
  simp at z0 z1 z2 z3
  have zf := k1.frozen 0
  have zf1 := k1.frozen 1
  have zf2 := k1.frozen 2
  have zf3 := k1.frozen 3
  have zg := k1.lt
  obtain ⟨g, o, cap, _, h1, h2, h3⟩ := (hr.below hb1).2 p l hlp
  have HX := Lib.hid h3
  have HP := Lib.hid hlp
  have HB1 := Lib.hid hb1
  have HK := Lib.hid k1
  have HR := Lib.hid hR
  have HQ := Lib.hid hq
  obtain ⟨N, hN⟩ : ∃ N, l.length = N := ⟨_, rfl⟩
  rw [hN] at h1 h2 hll hl0
  have HN := Lib.hid hN
  have l0 : (0 : Int) ≤ (p : Int) := by omega
  have l1 : (p : Int) < 7 := by omega
  have wN : IntKind.i64.wrap ((N : Int) - 1) = (N : Int) - 1 := IntWalk.i64_in _ (by omega)
  clear hR hr hlp hne hl hb1 h3 hp hN k1
  go_enter Tryd.func25, Tryd.ntmps25
  go_wp2
  go_loopg [5] (N - 1) (fun g u5 wx => ∃ k : Nat, u5 = nV (k : Int) ∧ k + g + 1 = N ∧ ruleL n (l.drop k) = R ∧ W1 = wx)
  case atStart => exact ⟨0, rfl, by omega, by rw [List.drop_zero]; exact HR.out, rfl⟩
  case round =>
    obtain ⟨k, rfl, hk, hv, rfl⟩ := hrel
    have hN := HN.out
    obtain ⟨r, hr, hs1, hs2⟩ := ruleL_drop n l k (by omega)
    obtain ⟨y0, y1, y2, y3⟩ := HX.out k r hr
    have m0 : (0 : Int) ≤ (k : Int) := by omega
    have m1 : (k : Int) < (N : Int) := by omega
    have m2 : (k : Int) < 5 := by omega
    obtain ⟨r0, r1, r2, r3⟩ := r
    simp only at y0 y1 y2 y3 hs1 hs2
    clear HX HP hr hN
    cases gk with
    | zero =>
      have hR := (hs1 (.inl (by have := HN.out; omega))).symm.trans hv
      subst hR
      have m3 : ¬ ((k : Int) < (N : Int) - 1) := by omega
      obtain ⟨W2, hW2⟩ : ∃ W, (((W1.setCell ⟨q, 0, none⟩ (nV r0)).setCell ⟨q, 1, none⟩ (nV r1)).setCell ⟨q, 2, none⟩ (nV r2)).setCell ⟨q, 3, none⟩ (nV r3) = W := ⟨_, rfl⟩
      have k2 : Bk W2 q 52 #[nV r0, nV r1, nV r2, nV r3] := by rw [← hW2]; exact (((HK.out.set_ 0 (nV r0)).set_ 1 (nV r1)).set_ 2 (nV r2)).set_ 3 (nV r3)
      have HB2 : Hid (Below w.heap.size w W2) := Lib.hid (by rw [← hW2, hq]; exact ((((hq ▸ HB1.out : Below q w W1).setCell (p := ⟨q, 0, none⟩) (Nat.le_refl _) _).setCell (p := ⟨q, 1, none⟩) (Nat.le_refl _) _).setCell (p := ⟨q, 2, none⟩) (Nat.le_refl _) _).setCell (p := ⟨q, 3, none⟩) (Nat.le_refl _) _)
      have v0 := k2.cell 0
      have v1 := k2.cell 1
      have v2 := k2.cell 2
      have v3 := k2.cell 3
      simp at v0 v1 v2 v3
      clear k2
      clear hs1 hs2 hv HR
      go_wp2
      refine bodyPost_ret (v := .agg #[nV r0, nV r1, nV r2, nV r3]) (by simp [results, Tryd.results25, go_sem, v0, v1, v2, v3]; done) rfl ?_
      exact ⟨rfl, by first | exact HB2.out | (rw [← hq]; exact HB2.out)⟩
    | succ g =>
      have m3 : (k : Int) < (N : Int) - 1 := by omega
      by_cases e : r0 = n
      · have hR := (hs1 (.inr e)).symm.trans hv
        subst hR
        have e2 : (r0 != n) = false := by rw [e]; simp
        obtain ⟨W2, hW2⟩ : ∃ W, (((W1.setCell ⟨q, 0, none⟩ (nV r0)).setCell ⟨q, 1, none⟩ (nV r1)).setCell ⟨q, 2, none⟩ (nV r2)).setCell ⟨q, 3, none⟩ (nV r3) = W := ⟨_, rfl⟩
        have k2 : Bk W2 q 52 #[nV r0, nV r1, nV r2, nV r3] := by rw [← hW2]; exact (((HK.out.set_ 0 (nV r0)).set_ 1 (nV r1)).set_ 2 (nV r2)).set_ 3 (nV r3)
        have HB2 : Hid (Below w.heap.size w W2) := Lib.hid (by rw [← hW2, hq]; exact ((((hq ▸ HB1.out : Below q w W1).setCell (p := ⟨q, 0, none⟩) (Nat.le_refl _) _).setCell (p := ⟨q, 1, none⟩) (Nat.le_refl _) _).setCell (p := ⟨q, 2, none⟩) (Nat.le_refl _) _).setCell (p := ⟨q, 3, none⟩) (Nat.le_refl _) _)
        have v0 := k2.cell 0
        have v1 := k2.cell 1
        have v2 := k2.cell 2
        have v3 := k2.cell 3
        simp at v0 v1 v2 v3
        clear k2
        clear hs1 hs2 hv HR e
        go_wp2
        refine bodyPost_ret (v := .agg #[nV r0, nV r1, nV r2, nV r3]) (by simp [results, Tryd.results25, go_sem, v0, v1, v2, v3]; done) rfl ?_
        exact ⟨rfl, by first | exact HB2.out | (rw [← hq]; exact HB2.out)⟩
      · have hR : ruleL n (l.drop (k + 1)) = R := (hs2 ⟨by have := HN.out; omega, e⟩).symm.trans hv
        have e2 : (r0 != n) = true := by simp [e]
        obtain ⟨k1, hk1⟩ : ∃ k1, k + 1 = k1 := ⟨_, rfl⟩
        have wk : IntKind.i64.wrap ((k : Int) + 1) = (k1 : Int) := by rw [show (k : Int) + 1 = (k1 : Int) by omega]; exact IntWalk.i64_in _ (by omega)
        rw [hk1] at hR
        have HK1 := Lib.hid hk1
        have HV := Lib.hid hR
        clear hs1 hs2 hv HR e hk1 hR
        go_wp2
        go_roundg g
        case measure => exact Nat.lt_succ_self _
        case rel => exact ⟨k1, rfl, by have := HK1.out; omega, HV.out, rfl⟩
end Go.Proofs.YtpnjjllkbnmakaaDoor.SE
