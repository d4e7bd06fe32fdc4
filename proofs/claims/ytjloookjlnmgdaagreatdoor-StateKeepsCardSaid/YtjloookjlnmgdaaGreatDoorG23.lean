/- StateKeeps's walk. -/
import Derived.Test.YtjloookjlnmgdaaGreatDoorG22
set_option linter.unusedSimpArgs false
set_option linter.unusedVariables false
namespace Go.Proofs.YtjloookjlnmgdaaGreatDoor
open Go.ChangeShapes Go.WideShapes Go.ChangeAt Go.RowKit
set_option maxRecDepth 100000
set_option linter.unusedVariables false
set_option linter.unusedSimpArgs false

set_option maxHeartbeats 8000000 in
theorem ke_light (v : Value) (s : List Tb) (kd : Int) (n : ByteArray) (K V : Int) (kb : Bool) (m : Int) (w : World) (hm : Wq m w) (h : SR w v s) (hK : i64B K) (hV : i64B V) (hl : lightS s = false) :
    Calls Tryz.prog 7 #[v, .agg #[.int .i64 kd, .string n, .int .i64 K, .int .i64 V, .bool kb]] w fun e w' => e = .returned (.bool true) ∧ Below w.heap.size w w' := by
  have HM0 := Lib.hid hm
  have HB0 := Lib.hid (Below.refl w.heap.size w)
  have HSR := Lib.hid h
  obtain ⟨va0, vc0, rfl⟩ := h.form
  clear hm h
  go_enter Tryz.func7, Tryz.ntmps7
  go_wp2_with fail
  obtain ⟨W0, hW0⟩ : ∃ W0, w.alloc (.cells #[.int .i64 kd, .string n, .int .i64 K, .int .i64 V, .bool kb] 24) = W0 := ⟨_, rfl⟩
  have hb1 : Below w.heap.size w W0 := by rw [← hW0]; exact (Below.refl _ _).alloc (Nat.le_refl _) _
  have HB1 := Lib.hid (HB0.out.trans (hb1.mono HB0.out.size))
  have HM1 := Lib.hid (HM0.out.below hb1)
  have HSR := Lib.hid (HSR.out.below hb1)
  have hk0 : Blk W0 w.heap.size 24 (cmCells (kd, n, K, V, kb)) := by rw [← hW0]; exact Blk.new _ _ _
  have HK := Lib.hid hk0
  rw [hW0]
  clear hW0 hk0
  clear hb1
  refine (light8b _ s false hl _ HSR.out).mono ?_
  rintro e w2 ⟨rfl, hb2⟩
  have HB2 := Lib.hid (HB1.out.trans (hb2.mono HB1.out.size))
  have HM2 := Lib.hid (HM1.out.below hb2)
  have HSR := Lib.hid (HSR.out.below hb2)
  have HK := Lib.hid (HK.out.below hb2 (Blk.lt HK.out))
  clear hb2
  go_wp2_with fail
  refine (known8_any m _ HM2.out).mono ?_
  rintro e w3 ⟨rfl, hb3⟩
  have HB3 := Lib.hid (HB2.out.trans (hb3.mono HB2.out.size))
  have HM3 := Lib.hid (HM2.out.below hb3)
  have HSR := Lib.hid (HSR.out.below hb3)
  have HK := Lib.hid (HK.out.below hb3 (Blk.lt HK.out))
  clear hb3
  go_wp2
  go_ret
  exact ⟨rfl, HB3.out⟩
set_option maxHeartbeats 8000000 in
theorem ke_right (v : Value) (s : List Tb) (kd : Int) (n : ByteArray) (K V : Int) (kb : Bool) (m : Int) (w : World) (hm : Wq m w) (h : SR w v s) (hK : i64B K) (hV : i64B V) (hl : lightS s = true) (hr : rightL s = false) :
    Calls Tryz.prog 7 #[v, .agg #[.int .i64 kd, .string n, .int .i64 K, .int .i64 V, .bool kb]] w fun e w' => e = .returned (.bool true) ∧ Below w.heap.size w w' := by
  have HM0 := Lib.hid hm
  have HB0 := Lib.hid (Below.refl w.heap.size w)
  have HSR := Lib.hid h
  obtain ⟨va0, vc0, rfl⟩ := h.form
  clear hm h
  go_enter Tryz.func7, Tryz.ntmps7
  go_wp2_with fail
  obtain ⟨W0, hW0⟩ : ∃ W0, w.alloc (.cells #[.int .i64 kd, .string n, .int .i64 K, .int .i64 V, .bool kb] 24) = W0 := ⟨_, rfl⟩
  have hb1 : Below w.heap.size w W0 := by rw [← hW0]; exact (Below.refl _ _).alloc (Nat.le_refl _) _
  have HB1 := Lib.hid (HB0.out.trans (hb1.mono HB0.out.size))
  have HM1 := Lib.hid (HM0.out.below hb1)
  have HSR := Lib.hid (HSR.out.below hb1)
  have hk0 : Blk W0 w.heap.size 24 (cmCells (kd, n, K, V, kb)) := by rw [← hW0]; exact Blk.new _ _ _
  have HK := Lib.hid hk0
  rw [hW0]
  clear hW0 hk0
  clear hb1
  refine (light8b _ s true hl _ HSR.out).mono ?_
  rintro e w2 ⟨rfl, hb2⟩
  have HB2 := Lib.hid (HB1.out.trans (hb2.mono HB1.out.size))
  have HM2 := Lib.hid (HM1.out.below hb2)
  have HSR := Lib.hid (HSR.out.below hb2)
  have HK := Lib.hid (HK.out.below hb2 (Blk.lt HK.out))
  clear hb2
  go_wp2_with fail
  refine (right8b _ s false hr _ HSR.out).mono ?_
  rintro e w3 ⟨rfl, hb3⟩
  have HB3 := Lib.hid (HB2.out.trans (hb3.mono HB2.out.size))
  have HM3 := Lib.hid (HM2.out.below hb3)
  have HSR := Lib.hid (HSR.out.below hb3)
  have HK := Lib.hid (HK.out.below hb3 (Blk.lt HK.out))
  clear hb3
  go_wp2_with fail
  refine (known8_any m _ HM3.out).mono ?_
  rintro e w4 ⟨rfl, hb4⟩
  have HB4 := Lib.hid (HB3.out.trans (hb4.mono HB3.out.size))
  have HM4 := Lib.hid (HM3.out.below hb4)
  have HSR := Lib.hid (HSR.out.below hb4)
  have HK := Lib.hid (HK.out.below hb4 (Blk.lt HK.out))
  clear hb4
  go_wp2
  go_ret
  exact ⟨rfl, HB4.out⟩
set_option maxHeartbeats 8000000 in
theorem ke_name (v : Value) (s : List Tb) (kd : Int) (n : ByteArray) (K V : Int) (kb : Bool) (m : Int) (w : World) (hm : Wq m w) (h : SR w v s) (hK : i64B K) (hV : i64B V) (hl : lightS s = true) (hr : rightL s = true) (hn : 30 < n.size) :
    Calls Tryz.prog 7 #[v, .agg #[.int .i64 kd, .string n, .int .i64 K, .int .i64 V, .bool kb]] w fun e w' => e = .returned (.bool true) ∧ Below w.heap.size w w' := by
  have ln : (30 : Int) < (n.size : Int) := by omega
  have HM0 := Lib.hid hm
  have HB0 := Lib.hid (Below.refl w.heap.size w)
  have HSR := Lib.hid h
  obtain ⟨va0, vc0, rfl⟩ := h.form
  clear hm h hn
  go_enter Tryz.func7, Tryz.ntmps7
  go_wp2_with fail
  obtain ⟨W0, hW0⟩ : ∃ W0, w.alloc (.cells #[.int .i64 kd, .string n, .int .i64 K, .int .i64 V, .bool kb] 24) = W0 := ⟨_, rfl⟩
  have hb1 : Below w.heap.size w W0 := by rw [← hW0]; exact (Below.refl _ _).alloc (Nat.le_refl _) _
  have HB1 := Lib.hid (HB0.out.trans (hb1.mono HB0.out.size))
  have HM1 := Lib.hid (HM0.out.below hb1)
  have HSR := Lib.hid (HSR.out.below hb1)
  have hk0 : Blk W0 w.heap.size 24 (cmCells (kd, n, K, V, kb)) := by rw [← hW0]; exact Blk.new _ _ _
  have HK := Lib.hid hk0
  rw [hW0]
  clear hW0 hk0
  clear hb1
  refine (light8b _ s true hl _ HSR.out).mono ?_
  rintro e w2 ⟨rfl, hb2⟩
  have HB2 := Lib.hid (HB1.out.trans (hb2.mono HB1.out.size))
  have HM2 := Lib.hid (HM1.out.below hb2)
  have HSR := Lib.hid (HSR.out.below hb2)
  have HK := Lib.hid (HK.out.below hb2 (Blk.lt HK.out))
  clear hb2
  go_wp2_with fail
  refine (right8b _ s true hr _ HSR.out).mono ?_
  rintro e w3 ⟨rfl, hb3⟩
  have HB3 := Lib.hid (HB2.out.trans (hb3.mono HB2.out.size))
  have HM3 := Lib.hid (HM2.out.below hb3)
  have HSR := Lib.hid (HSR.out.below hb3)
  have HK := Lib.hid (HK.out.below hb3 (Blk.lt HK.out))
  clear hb3
  obtain ⟨y0, y1, y2, y3, y4⟩ := cm_results (kd, n, K, V, kb) HK.out
  go_wp2_with fail
  refine (known8_any m _ HM3.out).mono ?_
  rintro e w4 ⟨rfl, hb4⟩
  have HB4 := Lib.hid (HB3.out.trans (hb4.mono HB3.out.size))
  have HM4 := Lib.hid (HM3.out.below hb4)
  have HSR := Lib.hid (HSR.out.below hb4)
  have HK := Lib.hid (HK.out.below hb4 (Blk.lt HK.out))
  clear hb4
  go_wp2
  go_ret
  exact ⟨rfl, HB4.out⟩
set_option maxHeartbeats 8000000 in
theorem ke_text (v : Value) (s : List Tb) (kd : Int) (n : ByteArray) (K V : Int) (kb : Bool) (m : Int) (w : World) (hm : Wq m w) (h : SR w v s) (hK : i64B K) (hV : i64B V) (hl : lightS s = true) (hr : rightL s = true) (hn : n.size ≤ 30) (hT : textC (kd, n, K, V, kb) = []) :
    Calls Tryz.prog 7 #[v, .agg #[.int .i64 kd, .string n, .int .i64 K, .int .i64 V, .bool kb]] w fun e w' => e = .returned (.bool true) ∧ Below w.heap.size w w' := by
  have ln : ¬ ((30 : Int) < (n.size : Int)) := by omega
  have HTX := Lib.hid (fun W hW => text_any (kd, n, K, V, kb) m W hW (by show n.size ≤ 1000; omega) hK hV)
  rw [hT] at HTX
  have HTX : Hid (∀ W, Wq m W → Calls Tryz.prog 12 #[cmV (kd, n, K, V, kb)] W fun e w' => e = .returned (.string ⟨#[]⟩) ∧ Below W.heap.size W w') := HTX
  have HM0 := Lib.hid hm
  have HB0 := Lib.hid (Below.refl w.heap.size w)
  have HSR := Lib.hid h
  obtain ⟨va0, vc0, rfl⟩ := h.form
  clear hm h hn hT
  go_enter Tryz.func7, Tryz.ntmps7
  go_wp2_with fail
  obtain ⟨W0, hW0⟩ : ∃ W0, w.alloc (.cells #[.int .i64 kd, .string n, .int .i64 K, .int .i64 V, .bool kb] 24) = W0 := ⟨_, rfl⟩
  have hb1 : Below w.heap.size w W0 := by rw [← hW0]; exact (Below.refl _ _).alloc (Nat.le_refl _) _
  have HB1 := Lib.hid (HB0.out.trans (hb1.mono HB0.out.size))
  have HM1 := Lib.hid (HM0.out.below hb1)
  have HSR := Lib.hid (HSR.out.below hb1)
  have hk0 : Blk W0 w.heap.size 24 (cmCells (kd, n, K, V, kb)) := by rw [← hW0]; exact Blk.new _ _ _
  have HK := Lib.hid hk0
  rw [hW0]
  clear hW0 hk0
  clear hb1
  refine (light8b _ s true hl _ HSR.out).mono ?_
  rintro e w2 ⟨rfl, hb2⟩
  have HB2 := Lib.hid (HB1.out.trans (hb2.mono HB1.out.size))
  have HM2 := Lib.hid (HM1.out.below hb2)
  have HSR := Lib.hid (HSR.out.below hb2)
  have HK := Lib.hid (HK.out.below hb2 (Blk.lt HK.out))
  clear hb2
  go_wp2_with fail
  refine (right8b _ s true hr _ HSR.out).mono ?_
  rintro e w3 ⟨rfl, hb3⟩
  have HB3 := Lib.hid (HB2.out.trans (hb3.mono HB2.out.size))
  have HM3 := Lib.hid (HM2.out.below hb3)
  have HSR := Lib.hid (HSR.out.below hb3)
  have HK := Lib.hid (HK.out.below hb3 (Blk.lt HK.out))
  clear hb3
  obtain ⟨y0, y1, y2, y3, y4⟩ := cm_results (kd, n, K, V, kb) HK.out
  go_wp2_with fail
  refine (HTX.out _ HM3.out).mono ?_
  rintro e w4 ⟨rfl, hb4⟩
  have HB4 := Lib.hid (HB3.out.trans (hb4.mono HB3.out.size))
  have HM4 := Lib.hid (HM3.out.below hb4)
  have HSR := Lib.hid (HSR.out.below hb4)
  have HK := Lib.hid (HK.out.below hb4 (Blk.lt HK.out))
  clear y0 y1 y2 y3 y4
  clear hb4
  go_wp2_with fail
  refine (known8_any m _ HM4.out).mono ?_
  rintro e w5 ⟨rfl, hb5⟩
  have HB5 := Lib.hid (HB4.out.trans (hb5.mono HB4.out.size))
  have HM5 := Lib.hid (HM4.out.below hb5)
  have HSR := Lib.hid (HSR.out.below hb5)
  have HK := Lib.hid (HK.out.below hb5 (Blk.lt HK.out))
  clear hb5
  go_wp2
  go_ret
  exact ⟨rfl, HB5.out⟩
theorem rrowsT (v1 v2 : Value) (l : List Rw) (w : World) (h1 : RR w v1 l) (h2 : RR w v2 l) (hl : l.length ≤ 1000000) :
    Calls Tryz.prog 23 #[v1, v2] w fun e w' => e = .returned (.bool true) ∧ ∃ n, w' = w.drewN n := by
  have := rrows_any v1 v2 l l w h1 h2 hl
  rw [decide_eq_true rfl] at this
  exact this
theorem rowKV (v : Value) (K V : Int) (g : Nat) (w : World) (h : RR w v [(K, V)]) (hg : Blk w g 45 #[.int .i64 K, .int .i64 V]) : Calls Tryz.prog 23 #[v, .slice (some ⟨g, 0, none⟩) 1 1] w fun e w' => e = .returned (.bool true) ∧ Below w.heap.size w w' := by
  have h2 : RR w (.slice (some ⟨g, 0, none⟩) 1 1) [(K, V)] := .inr ⟨g, 0, 1, rfl, Nat.le_refl _, fun i r hi => by
    cases i with
    | zero => simp at hi; subst hi; exact ⟨hg.cell 0, hg.cell 1⟩
    | succ i => simp at hi⟩
  refine (rrowsT v _ [(K, V)] w h h2 (by simp)).mono ?_
  rintro e w' ⟨he, n, rfl⟩
  exact ⟨he, belN _ _ _⟩
set_option maxHeartbeats 8000000 in
theorem ke_err (v : Value) (s : List Tb) (kd : Int) (n : ByteArray) (K V : Int) (kb : Bool) (m : Int) (w : World) (hm : Wq m w) (h : SR w v s) (hK : i64B K) (hV : i64B V) (hl : lightS s = true) (hr : rightL s = true) (hn : n.size ≤ 30) (hT : textC (kd, n, K, V, kb) ≠ []) (he : (doS s kd n K V kb).2.2 ≠ 0) :
    Calls Tryz.prog 7 #[v, .agg #[.int .i64 kd, .string n, .int .i64 K, .int .i64 V, .bool kb]] w fun e w' => e = .returned (.bool true) ∧ Below w.heap.size w w' := by
  have ln : ¬ ((30 : Int) < (n.size : Int)) := by omega
  have HTX := Lib.hid (fun W hW => text_any (kd, n, K, V, kb) m W hW (by show n.size ≤ 1000; omega) hK hV)
  obtain ⟨T, hTT⟩ : ∃ T, bb (textC (kd, n, K, V, kb)) = T := ⟨_, rfl⟩
  have te := bb_emp _ hT
  rw [hTT] at te HTX
  clear hTT
  have hp := (right_iff s).1 hr
  have hf := txt_facts hT
  have hkk := hf.1
  have hq := do_right (kd := kd) (kb := kb) hp hf.2.1 hf.2.2.1 hf.2.2.2.1
  have hkeep := fun t (ht : t ∈ s) => do_keeps (kd := kd) (n := n) (K := K) (V := V) (kb := kb) ht
  have h1 := do_err he
  obtain ⟨A, r, E, hD⟩ : ∃ A r E, doS s kd n K V kb = (A, r, E) := ⟨_, _, _, rfl⟩
  rw [hD] at he h1 hq hkeep
  simp only at he h1 hq hkeep
  have hrA := (right_iff A).2 hq
  have hfind : ∀ (i : Nat) (t : Tb), s[i]? = some t → ∃ (k : Nat) (u : Tb), findN A t.1 0 = (k : Int) ∧ A[k]? = some u ∧ (t.1 ≠ n → u.2 = t.2) := by
    intro i t ht
    obtain ⟨u, hu, hu1, hu2⟩ := hkeep t (List.mem_of_getElem? ht)
    obtain ⟨k, hk1, hk2⟩ := find_mem hq.up hu
    exact ⟨k, u, by rw [← hu1]; exact hk1, hk2, hu2⟩
  have HFI := Lib.hid hfind
  have HDO := Lib.hid (fun W hS => doQ _ v s kd n K V kb hD hp hkk hn W hS)
  have HQ := Lib.hid hq
  have hsl := hp.len
  have HSL := Lib.hid hsl
  have HFW := Lib.hid hp.few
  subst h1
  have ne : (E != 0) = true := by rw [bne_iff_ne]; exact he
  have ne2 : (E == 0) = false := by rw [beq_eq_false_iff_ne]; exact he
  obtain ⟨D2, H2⟩ : ∃ D2, doS A 1 n K 0 true = D2 := ⟨_, rfl⟩
  have HDG := Lib.hid (fun v' W hS => doQ D2 v' A 1 n K 0 true H2 hq (by decide) hn W hS)
  have HSM := Lib.hid (fun v1 v2 W h1 h2 => sameQ v1 v2 A hq W h1 h2)
  clear hp hf hkk hD hkeep hfind hq H2 hsl
  have HM0 := Lib.hid hm
  have HB0 := Lib.hid (Below.refl w.heap.size w)
  have HSR := Lib.hid h
  obtain ⟨va0, vc0, rfl⟩ := h.form
  clear hm h hn hT he
  go_enter Tryz.func7, Tryz.ntmps7
  go_wp2_with fail
  obtain ⟨W0, hW0⟩ : ∃ W0, w.alloc (.cells #[.int .i64 kd, .string n, .int .i64 K, .int .i64 V, .bool kb] 24) = W0 := ⟨_, rfl⟩
  have hb1 : Below w.heap.size w W0 := by rw [← hW0]; exact (Below.refl _ _).alloc (Nat.le_refl _) _
  have HB1 := Lib.hid (HB0.out.trans (hb1.mono HB0.out.size))
  have HM1 := Lib.hid (HM0.out.below hb1)
  have HSR := Lib.hid (HSR.out.below hb1)
  have hk0 : Blk W0 w.heap.size 24 (cmCells (kd, n, K, V, kb)) := by rw [← hW0]; exact Blk.new _ _ _
  have HK := Lib.hid hk0
  rw [hW0]
  clear hW0 hk0
  clear hb1
  refine (light8b _ A true hl _ HSR.out).mono ?_
  rintro e w2 ⟨rfl, hb2⟩
  have HB2 := Lib.hid (HB1.out.trans (hb2.mono HB1.out.size))
  have HM2 := Lib.hid (HM1.out.below hb2)
  have HSR := Lib.hid (HSR.out.below hb2)
  have HK := Lib.hid (HK.out.below hb2 (Blk.lt HK.out))
  clear hb2
  go_wp2_with fail
  refine (right8b _ A true hr _ HSR.out).mono ?_
  rintro e w3 ⟨rfl, hb3⟩
  have HB3 := Lib.hid (HB2.out.trans (hb3.mono HB2.out.size))
  have HM3 := Lib.hid (HM2.out.below hb3)
  have HSR := Lib.hid (HSR.out.below hb3)
  have HK := Lib.hid (HK.out.below hb3 (Blk.lt HK.out))
  clear hb3
  obtain ⟨y0, y1, y2, y3, y4⟩ := cm_results (kd, n, K, V, kb) HK.out
  go_wp2_with fail
  refine (HTX.out _ HM3.out).mono ?_
  rintro e w4 ⟨rfl, hb4⟩
  have HB4 := Lib.hid (HB3.out.trans (hb4.mono HB3.out.size))
  have HM4 := Lib.hid (HM3.out.below hb4)
  have HSR := Lib.hid (HSR.out.below hb4)
  have HK := Lib.hid (HK.out.below hb4 (Blk.lt HK.out))
  clear y0 y1 y2 y3 y4
  obtain ⟨y0, y1, y2, y3, y4⟩ := cm_results (kd, n, K, V, kb) HK.out
  clear hb4
  go_wp2_with fail
  refine (HDO.out _ HSR.out).mono ?_
  rintro e w5 ⟨va, vr, rfl, sa, rr, hb5⟩
  have HB5 := Lib.hid (HB4.out.trans (hb5.mono HB4.out.size))
  have HM5 := Lib.hid (HM4.out.below hb5)
  have HSR := Lib.hid (HSR.out.below hb5)
  have HK := Lib.hid (HK.out.below hb5 (Blk.lt HK.out))
  have HA := Lib.hid sa
  clear y0 y1 y2 y3 y4 rr
  clear hb5 sa
  go_wp2_with fail
  refine (right8b va A true hrA _ HA.out).mono ?_
  rintro e w6 ⟨rfl, hb6⟩
  have HB6 := Lib.hid (HB5.out.trans (hb6.mono HB5.out.size))
  have HM6 := Lib.hid (HM5.out.below hb6)
  have HSR := Lib.hid (HSR.out.below hb6)
  have HA := Lib.hid (HA.out.below hb6)
  have HK := Lib.hid (HK.out.below hb6 (Blk.lt HK.out))
  clear hb6
  go_wp2_with fail
  refine (HSM.out va _ _ HA.out HSR.out).mono ?_
  rintro e w7 ⟨rfl, hb7⟩
  have HB7 := Lib.hid (HB6.out.trans (hb7.mono HB6.out.size))
  have HM7 := Lib.hid (HM6.out.below hb7)
  have HSR := Lib.hid (HSR.out.below hb7)
  have HA := Lib.hid (HA.out.below hb7)
  have HK := Lib.hid (HK.out.below hb7 (Blk.lt HK.out))
  clear hb7
  clear hrA
  go_wp2_with fail
  go_loopg [8] A.length (fun gk u8 wx => ∃ i : Nat, u8 = .int .i64 (i : Int) ∧ i + gk = A.length ∧ Below w7.heap.size w7 wx)
  case atStart => exact ⟨0, rfl, by omega, Below.refl _ _⟩
  case round =>
    obtain ⟨i, rfl, hi, hbl⟩ := hrel
    have hkr := HK.out.below hbl (Blk.lt HK.out)
    have HKR := Lib.hid hkr
    have hsr := HSR.out.below hbl
    have HSRR := Lib.hid hsr
    have har := HA.out.below hbl
    have HAR := Lib.hid har
    have HBR := Lib.hid (HB7.out.trans (hbl.mono HB7.out.size))
    have HMR := Lib.hid (HM7.out.below hbl)
    have HBL := Lib.hid hbl
    have HI := Lib.hid hi
    cases gk with
    | succ gk =>
      have hlt : i < A.length := by omega
      obtain ⟨b, o, cp, he, hcp, hx⟩ := hsr.inv (by omega)
      injection he with ea _ ec
      subst ea ec
      obtain ⟨t, ht0⟩ : ∃ t, A[i] = t := ⟨_, rfl⟩
      have hsi : A[i]? = some t := by rw [List.getElem?_eq_getElem hlt, ht0]
      obtain ⟨x0, u, x1, hu⟩ := hx i t hsi
      obtain ⟨k, q, hk1, hk2, hk3⟩ := HFI.out i t hsi
      have hkl := (List.getElem?_eq_some_iff.1 hk2).1
      obtain ⟨ab, ao, ac, hae, hac, hax⟩ := har.inv (by omega)
      subst hae
      obtain ⟨a0, ua, a1, hua⟩ := hax k q hk2
      have HF := Lib.hid (find_any _ A t.1 wr har (by have := HQ.out.len; omega))
      rw [hk1] at HF
      have hul : q.2.length ≤ 1000000 := HQ.out.few.2 q (List.mem_of_getElem? hk2)
      have HX := Lib.hid (fun (W : World) (hW : Below wr.heap.size wr W) => (show W.cell? ⟨b, o + i * 2, none⟩ = some (.string t.1) ∧ W.cell? ⟨b, o + i * 2 + 1, none⟩ = some u ∧ W.cell? ⟨ab, ao + k * 2, none⟩ = some (.string q.1) ∧ W.cell? ⟨ab, ao + k * 2 + 1, none⟩ = some ua ∧ RR W u t.2 ∧ RR W ua q.2 from ⟨(hW.cell (p := ⟨b, o + i * 2, none⟩) (World.block_lt_of_cell? wr _ x0)).trans x0, (hW.cell (p := ⟨b, o + i * 2 + 1, none⟩) (World.block_lt_of_cell? wr _ x1)).trans x1, (hW.cell (p := ⟨ab, ao + k * 2, none⟩) (World.block_lt_of_cell? wr _ a0)).trans a0, (hW.cell (p := ⟨ab, ao + k * 2 + 1, none⟩) (World.block_lt_of_cell? wr _ a1)).trans a1, hu.below hW, hua.below hW⟩))
      have l0 : (0 : Int) ≤ (i : Int) := by omega
      have l1 : (i : Int) < (A.length : Int) := by omega
      have l2 : ¬ ((k : Int) < 0) := by omega
      have l3 : (k : Int) < (A.length : Int) := by omega
      have l4 : (0 : Int) ≤ (k : Int) := by omega
      obtain ⟨i1, hi1⟩ : ∃ i1, i + 1 = i1 := ⟨_, rfl⟩
      have wk : IntKind.i64.wrap ((i : Int) + 1) = (i1 : Int) := by rw [show (i : Int) + 1 = (i1 : Int) by omega]; exact IntWalk.i64_in _ (by have := HSL.out; omega)
      have HI1 := Lib.hid hi1
      obtain ⟨tn, tr⟩ := t
      obtain ⟨qn, qr⟩ := q
      obtain ⟨ux, uy, rfl⟩ := hu.form
      obtain ⟨uv, uw, rfl⟩ := hua.form
      simp only at x0 hk3 hul HF HX
      have tle := tl_eq tn n
      by_cases hne : tn = n
      · have e1 : (tn.toList == n.toList) = true := by rw [tle]; exact decide_eq_true hne
        have e2 : (!(tn.toList == n.toList)) = false := by rw [e1]; rfl
        clear tle hne hi hlt ht0 hsi hx hu hk1 hk2 hk3 hkl har hac hax hua a0 a1 hi1 hul hkr hsr hbl x1
        go_wp2_with fail
        refine HF.out.mono ?_
        rintro e w2 ⟨rfl, hb2⟩
        have HB2 := Lib.hid hb2
        obtain ⟨z0, z1, z2, z3, z4, z5⟩ := HX.out w2 hb2
        obtain ⟨y0, y1, y2, y3, y4⟩ := cm_results (kd, n, K, V, kb) (HKR.out.below hb2 (Blk.lt HKR.out))
        clear hb2 z4 z5
        go_wp2
        refine wp_region_held_drew (S := (fun w' => ∃ nn, w' = w2.drewN nn)) (by kernel_rfl) ?_ (fun hS => ?_)
        · exact ⟨1, rfl⟩
        try dsimp only at hS
        refine wpAnyH_take (i := 0) (v := ?_) rfl (by kernel_rfl) (by kernel_rfl) (by kernel_rfl) (fun _ _ _ h => h) (Or.inl ⟨by kernel_rfl, ?_⟩) hS ?_
        rotate_left
        · intro wz hSz; try dsimp only at hSz
          obtain ⟨nz, rfl⟩ := hSz
          go_simp
          all_goals with_reducible rfl
        try simp only [Act.put, List.getElem_toArray, List.getElem_cons_succ, List.getElem_cons_zero, List.setIfInBounds_toArray, List.set_cons_zero, List.set_cons_succ]
        refine wpAnyH_take (i := 1) (v := ?_) rfl (by kernel_rfl) (by kernel_rfl) (by kernel_rfl) (fun _ _ _ h => h) (Or.inl ⟨by kernel_rfl, ?_⟩) hS ?_
        rotate_left
        · intro wz hSz; try dsimp only at hSz
          obtain ⟨nz, rfl⟩ := hSz
          go_simp
          all_goals with_reducible rfl
        try simp only [Act.put, List.getElem_toArray, List.getElem_cons_succ, List.getElem_cons_zero, List.setIfInBounds_toArray, List.set_cons_zero, List.set_cons_succ]
        refine wpAnyH_take (i := 2) (v := ?_) rfl (by kernel_rfl) (by kernel_rfl) (by kernel_rfl) (fun _ _ _ h => h) (Or.inl ⟨by kernel_rfl, ?_⟩) hS ?_
        rotate_left
        · intro wz hSz; try dsimp only at hSz
          obtain ⟨nz, rfl⟩ := hSz
          go_simp
          all_goals with_reducible rfl
        try simp only [Act.put, List.getElem_toArray, List.getElem_cons_succ, List.getElem_cons_zero, List.setIfInBounds_toArray, List.set_cons_zero, List.set_cons_succ]
        refine wpAnyH_take (i := 3) (v := ?_) rfl (by kernel_rfl) (by kernel_rfl) (by kernel_rfl) (fun _ _ _ h => h) (Or.inl ⟨by kernel_rfl, ?_⟩) hS ?_
        rotate_left
        · intro wz hSz; try dsimp only at hSz
          obtain ⟨nz, rfl⟩ := hSz
          go_simp
          all_goals with_reducible rfl
        try simp only [Act.put, List.getElem_toArray, List.getElem_cons_succ, List.getElem_cons_zero, List.setIfInBounds_toArray, List.set_cons_zero, List.set_cons_succ]
        refine wpAnyH_take (i := 4) (v := ?_) rfl (by kernel_rfl) (by kernel_rfl) (by kernel_rfl) (fun _ _ _ h => h) (Or.inl ⟨by kernel_rfl, ?_⟩) hS ?_
        rotate_left
        · intro wz hSz; try dsimp only at hSz
          obtain ⟨nz, rfl⟩ := hSz
          go_simp
          all_goals with_reducible rfl
        try simp only [Act.put, List.getElem_toArray, List.getElem_cons_succ, List.getElem_cons_zero, List.setIfInBounds_toArray, List.set_cons_zero, List.set_cons_succ]
        refine wpAnyH_take (i := 5) (v := ?_) rfl (by kernel_rfl) (by kernel_rfl) (by kernel_rfl) (fun _ _ _ h => h) (Or.inl ⟨by kernel_rfl, ?_⟩) hS ?_
        rotate_left
        · intro wz hSz; try dsimp only at hSz
          obtain ⟨nz, rfl⟩ := hSz
          go_simp
          all_goals with_reducible rfl
        try simp only [Act.put, List.getElem_toArray, List.getElem_cons_succ, List.getElem_cons_zero, List.setIfInBounds_toArray, List.set_cons_zero, List.set_cons_succ]
        refine wpAnyH_take (i := 6) (v := ?_) rfl (by kernel_rfl) (by kernel_rfl) (by kernel_rfl) (fun _ _ _ h => h) (Or.inl ⟨by kernel_rfl, ?_⟩) hS ?_
        rotate_left
        · intro wz hSz; try dsimp only at hSz
          obtain ⟨nz, rfl⟩ := hSz
          go_simp
          all_goals with_reducible rfl
        try simp only [Act.put, List.getElem_toArray, List.getElem_cons_succ, List.getElem_cons_zero, List.setIfInBounds_toArray, List.set_cons_zero, List.set_cons_succ]
        refine wpAnyH_take (i := 7) (v := ?_) rfl (by kernel_rfl) (by kernel_rfl) (by kernel_rfl) (fun _ _ _ h => h) (Or.inl ⟨by kernel_rfl, ?_⟩) hS ?_
        rotate_left
        · intro wz hSz; try dsimp only at hSz
          obtain ⟨nz, rfl⟩ := hSz
          go_simp
          all_goals with_reducible rfl
        try simp only [Act.put, List.getElem_toArray, List.getElem_cons_succ, List.getElem_cons_zero, List.setIfInBounds_toArray, List.set_cons_zero, List.set_cons_succ]
        refine wpAnyH_take (i := 8) (v := ?_) rfl (by kernel_rfl) (by kernel_rfl) (by kernel_rfl) (fun _ _ _ h => h) (Or.inl ⟨by kernel_rfl, ?_⟩) hS ?_
        rotate_left
        · intro wz hSz; try dsimp only at hSz
          obtain ⟨nz, rfl⟩ := hSz
          go_simp
          all_goals with_reducible rfl
        try simp only [Act.put, List.getElem_toArray, List.getElem_cons_succ, List.getElem_cons_zero, List.setIfInBounds_toArray, List.set_cons_zero, List.set_cons_succ]
        refine wpAnyH_take (i := 9) (v := ?_) rfl (by kernel_rfl) (by kernel_rfl) (by kernel_rfl) (fun _ _ _ h => h) (Or.inl ⟨by kernel_rfl, ?_⟩) hS ?_
        rotate_left
        · intro wz hSz; try dsimp only at hSz
          obtain ⟨nz, rfl⟩ := hSz
          go_simp
          all_goals with_reducible rfl
        try simp only [Act.put, List.getElem_toArray, List.getElem_cons_succ, List.getElem_cons_zero, List.setIfInBounds_toArray, List.set_cons_zero, List.set_cons_succ]
        refine wpAnyH_take (i := 10) (v := ?_) rfl (by kernel_rfl) (by kernel_rfl) (by kernel_rfl) (fun _ _ _ h => h) (Or.inl ⟨by kernel_rfl, ?_⟩) hS ?_
        rotate_left
        · intro wz hSz; try dsimp only at hSz
          obtain ⟨nz, rfl⟩ := hSz
          go_simp
          all_goals with_reducible rfl
        try simp only [Act.put, List.getElem_toArray, List.getElem_cons_succ, List.getElem_cons_zero, List.setIfInBounds_toArray, List.set_cons_zero, List.set_cons_succ]
        refine wpAnyH_take (i := 11) (v := ?_) rfl (by kernel_rfl) (by kernel_rfl) (by kernel_rfl) (fun _ _ _ h => h) (Or.inl ⟨by kernel_rfl, ?_⟩) hS ?_
        rotate_left
        · intro wz hSz; try dsimp only at hSz
          obtain ⟨nz, rfl⟩ := hSz
          go_simp
          all_goals with_reducible rfl
        try simp only [Act.put, List.getElem_toArray, List.getElem_cons_succ, List.getElem_cons_zero, List.setIfInBounds_toArray, List.set_cons_zero, List.set_cons_succ]
        refine wpAnyH_take (i := 12) (v := undef) rfl (by kernel_rfl) (by kernel_rfl) (by kernel_rfl) (fun _ _ _ h => h) (Or.inr ⟨by kernel_rfl, rfl⟩) hS ?_
        try simp only [Act.put, List.getElem_toArray, List.getElem_cons_succ, List.getElem_cons_zero, List.setIfInBounds_toArray, List.set_cons_zero, List.set_cons_succ]
        refine wpAnyH_take (i := 13) (v := undef) rfl (by kernel_rfl) (by kernel_rfl) (by kernel_rfl) (fun _ _ _ h => h) (Or.inr ⟨by kernel_rfl, rfl⟩) hS ?_
        try simp only [Act.put, List.getElem_toArray, List.getElem_cons_succ, List.getElem_cons_zero, List.setIfInBounds_toArray, List.set_cons_zero, List.set_cons_succ]
        refine wpAnyH_take (i := 14) (v := undef) rfl (by kernel_rfl) (by kernel_rfl) (by kernel_rfl) (fun _ _ _ h => h) (Or.inr ⟨by kernel_rfl, rfl⟩) hS ?_
        try simp only [Act.put, List.getElem_toArray, List.getElem_cons_succ, List.getElem_cons_zero, List.setIfInBounds_toArray, List.set_cons_zero, List.set_cons_succ]
        refine wpAnyH_take (i := 15) (v := undef) rfl (by kernel_rfl) (by kernel_rfl) (by kernel_rfl) (fun _ _ _ h => h) (Or.inr ⟨by kernel_rfl, rfl⟩) hS ?_
        try simp only [Act.put, List.getElem_toArray, List.getElem_cons_succ, List.getElem_cons_zero, List.setIfInBounds_toArray, List.set_cons_zero, List.set_cons_succ]
        refine wpAnyH_take (i := 16) (v := undef) rfl (by kernel_rfl) (by kernel_rfl) (by kernel_rfl) (fun _ _ _ h => h) (Or.inr ⟨by kernel_rfl, rfl⟩) hS ?_
        try simp only [Act.put, List.getElem_toArray, List.getElem_cons_succ, List.getElem_cons_zero, List.setIfInBounds_toArray, List.set_cons_zero, List.set_cons_succ]
        refine wpAnyH_take (i := 17) (v := undef) rfl (by kernel_rfl) (by kernel_rfl) (by kernel_rfl) (fun _ _ _ h => h) (Or.inr ⟨by kernel_rfl, rfl⟩) hS ?_
        try simp only [Act.put, List.getElem_toArray, List.getElem_cons_succ, List.getElem_cons_zero, List.setIfInBounds_toArray, List.set_cons_zero, List.set_cons_succ]
        refine wpAnyH_take (i := 18) (v := undef) rfl (by kernel_rfl) (by kernel_rfl) (by kernel_rfl) (fun _ _ _ h => h) (Or.inr ⟨by kernel_rfl, rfl⟩) hS ?_
        try simp only [Act.put, List.getElem_toArray, List.getElem_cons_succ, List.getElem_cons_zero, List.setIfInBounds_toArray, List.set_cons_zero, List.set_cons_succ]
        refine wpAnyH_take (i := 19) (v := undef) rfl (by kernel_rfl) (by kernel_rfl) (by kernel_rfl) (fun _ _ _ h => h) (Or.inr ⟨by kernel_rfl, rfl⟩) hS ?_
        try simp only [Act.put, List.getElem_toArray, List.getElem_cons_succ, List.getElem_cons_zero, List.setIfInBounds_toArray, List.set_cons_zero, List.set_cons_succ]
        refine wpAnyH_take (i := 20) (v := undef) rfl (by kernel_rfl) (by kernel_rfl) (by kernel_rfl) (fun _ _ _ h => h) (Or.inr ⟨by kernel_rfl, rfl⟩) hS ?_
        try simp only [Act.put, List.getElem_toArray, List.getElem_cons_succ, List.getElem_cons_zero, List.setIfInBounds_toArray, List.set_cons_zero, List.set_cons_succ]
        refine wpAnyH_take (i := 21) (v := undef) rfl (by kernel_rfl) (by kernel_rfl) (by kernel_rfl) (fun _ _ _ h => h) (Or.inr ⟨by kernel_rfl, rfl⟩) hS ?_
        try simp only [Act.put, List.getElem_toArray, List.getElem_cons_succ, List.getElem_cons_zero, List.setIfInBounds_toArray, List.set_cons_zero, List.set_cons_succ]
        refine wpAnyH_take (i := 22) (v := undef) rfl (by kernel_rfl) (by kernel_rfl) (by kernel_rfl) (fun _ _ _ h => h) (Or.inr ⟨by kernel_rfl, rfl⟩) hS ?_
        try simp only [Act.put, List.getElem_toArray, List.getElem_cons_succ, List.getElem_cons_zero, List.setIfInBounds_toArray, List.set_cons_zero, List.set_cons_succ]
        refine wpAnyH_take (i := 23) (v := undef) rfl (by kernel_rfl) (by kernel_rfl) (by kernel_rfl) (fun _ _ _ h => h) (Or.inr ⟨by kernel_rfl, rfl⟩) hS ?_
        try simp only [Act.put, List.getElem_toArray, List.getElem_cons_succ, List.getElem_cons_zero, List.setIfInBounds_toArray, List.set_cons_zero, List.set_cons_succ]
        refine wpAnyH_take (i := 24) (v := ?_) rfl (by kernel_rfl) (by kernel_rfl) (by kernel_rfl) (fun _ _ _ h => h) (Or.inl ⟨by kernel_rfl, ?_⟩) hS ?_
        rotate_left
        · intro wz hSz; try dsimp only at hSz
          obtain ⟨nz, rfl⟩ := hSz
          go_simp
          all_goals with_reducible rfl
        try simp only [Act.put, List.getElem_toArray, List.getElem_cons_succ, List.getElem_cons_zero, List.setIfInBounds_toArray, List.set_cons_zero, List.set_cons_succ]
        refine wpAnyH_take (i := 25) (v := ?_) rfl (by kernel_rfl) (by kernel_rfl) (by kernel_rfl) (fun _ _ _ h => h) (Or.inl ⟨by kernel_rfl, ?_⟩) hS ?_
        rotate_left
        · intro wz hSz; try dsimp only at hSz
          obtain ⟨nz, rfl⟩ := hSz
          go_simp
          all_goals with_reducible rfl
        try simp only [Act.put, List.getElem_toArray, List.getElem_cons_succ, List.getElem_cons_zero, List.setIfInBounds_toArray, List.set_cons_zero, List.set_cons_succ]
        refine wpAnyH_done (by kernel_rfl) ?_ _
        obtain ⟨nf, hnf⟩ := hS
        go_wp2
        go_roundg gk
        case measure => exact Nat.lt_succ_self _
        case rel => exact ⟨i1, rfl, by have := HI1.out; have := HI.out; omega, by first | exact (HBL.out.trans (HB2.out.mono HBL.out.size)).trans (belN _ _ _) | (rw [hnf]; exact (HBL.out.trans (HB2.out.mono HBL.out.size)).trans (belN _ _ _))⟩
      · have e1 : (tn.toList == n.toList) = false := by rw [tle]; exact decide_eq_false hne
        have e2 : (!(tn.toList == n.toList)) = true := by rw [e1]; rfl
        have hqt : qr = tr := hk3 hne
        subst hqt
        have HUL := Lib.hid hul
        clear tle hne hi hlt ht0 hsi hx hu hk1 hk2 hk3 hkl har hac hax hua a0 a1 hi1 hul hkr hsr hbl x1
        go_wp2_with fail
        refine HF.out.mono ?_
        rintro e w2 ⟨rfl, hb2⟩
        have HB2 := Lib.hid hb2
        obtain ⟨z0, z1, z2, z3, z4, z5⟩ := HX.out w2 hb2
        obtain ⟨y0, y1, y2, y3, y4⟩ := cm_results (kd, n, K, V, kb) (HKR.out.below hb2 (Blk.lt HKR.out))
        have HRR := Lib.hid (fun nn => rrowsT _ _ qr (w2.drewN nn) (z5.drewN nn) (z4.drewN nn) HUL.out)
        clear hb2 z4 z5
        go_wp2
        refine wp_region_held_drew (S := (fun w' => ∃ nn, w' = w2.drewN nn)) (by kernel_rfl) ?_ (fun hS => ?_)
        · exact ⟨1, rfl⟩
        try dsimp only at hS
        refine wpAnyH_take (i := 0) (v := ?_) rfl (by kernel_rfl) (by kernel_rfl) (by kernel_rfl) (fun _ _ _ h => h) (Or.inl ⟨by kernel_rfl, ?_⟩) hS ?_
        rotate_left
        · intro wz hSz; try dsimp only at hSz
          obtain ⟨nz, rfl⟩ := hSz
          go_simp
          all_goals with_reducible rfl
        try simp only [Act.put, List.getElem_toArray, List.getElem_cons_succ, List.getElem_cons_zero, List.setIfInBounds_toArray, List.set_cons_zero, List.set_cons_succ]
        refine wpAnyH_take (i := 1) (v := ?_) rfl (by kernel_rfl) (by kernel_rfl) (by kernel_rfl) (fun _ _ _ h => h) (Or.inl ⟨by kernel_rfl, ?_⟩) hS ?_
        rotate_left
        · intro wz hSz; try dsimp only at hSz
          obtain ⟨nz, rfl⟩ := hSz
          go_simp
          all_goals with_reducible rfl
        try simp only [Act.put, List.getElem_toArray, List.getElem_cons_succ, List.getElem_cons_zero, List.setIfInBounds_toArray, List.set_cons_zero, List.set_cons_succ]
        refine wpAnyH_take (i := 2) (v := ?_) rfl (by kernel_rfl) (by kernel_rfl) (by kernel_rfl) (fun _ _ _ h => h) (Or.inl ⟨by kernel_rfl, ?_⟩) hS ?_
        rotate_left
        · intro wz hSz; try dsimp only at hSz
          obtain ⟨nz, rfl⟩ := hSz
          go_simp
          all_goals with_reducible rfl
        try simp only [Act.put, List.getElem_toArray, List.getElem_cons_succ, List.getElem_cons_zero, List.setIfInBounds_toArray, List.set_cons_zero, List.set_cons_succ]
        refine wpAnyH_take (i := 3) (v := ?_) rfl (by kernel_rfl) (by kernel_rfl) (by kernel_rfl) (fun _ _ _ h => h) (Or.inl ⟨by kernel_rfl, ?_⟩) hS ?_
        rotate_left
        · intro wz hSz; try dsimp only at hSz
          obtain ⟨nz, rfl⟩ := hSz
          go_simp
          all_goals with_reducible rfl
        try simp only [Act.put, List.getElem_toArray, List.getElem_cons_succ, List.getElem_cons_zero, List.setIfInBounds_toArray, List.set_cons_zero, List.set_cons_succ]
        refine wpAnyH_take (i := 4) (v := ?_) rfl (by kernel_rfl) (by kernel_rfl) (by kernel_rfl) (fun _ _ _ h => h) (Or.inl ⟨by kernel_rfl, ?_⟩) hS ?_
        rotate_left
        · intro wz hSz; try dsimp only at hSz
          obtain ⟨nz, rfl⟩ := hSz
          go_simp
          all_goals with_reducible rfl
        try simp only [Act.put, List.getElem_toArray, List.getElem_cons_succ, List.getElem_cons_zero, List.setIfInBounds_toArray, List.set_cons_zero, List.set_cons_succ]
        refine wpAnyH_take (i := 5) (v := ?_) rfl (by kernel_rfl) (by kernel_rfl) (by kernel_rfl) (fun _ _ _ h => h) (Or.inl ⟨by kernel_rfl, ?_⟩) hS ?_
        rotate_left
        · intro wz hSz; try dsimp only at hSz
          obtain ⟨nz, rfl⟩ := hSz
          go_simp
          all_goals with_reducible rfl
        try simp only [Act.put, List.getElem_toArray, List.getElem_cons_succ, List.getElem_cons_zero, List.setIfInBounds_toArray, List.set_cons_zero, List.set_cons_succ]
        refine wpAnyH_take (i := 6) (v := ?_) rfl (by kernel_rfl) (by kernel_rfl) (by kernel_rfl) (fun _ _ _ h => h) (Or.inl ⟨by kernel_rfl, ?_⟩) hS ?_
        rotate_left
        · intro wz hSz; try dsimp only at hSz
          obtain ⟨nz, rfl⟩ := hSz
          go_simp
          all_goals with_reducible rfl
        try simp only [Act.put, List.getElem_toArray, List.getElem_cons_succ, List.getElem_cons_zero, List.setIfInBounds_toArray, List.set_cons_zero, List.set_cons_succ]
        refine wpAnyH_take (i := 7) (v := ?_) rfl (by kernel_rfl) (by kernel_rfl) (by kernel_rfl) (fun _ _ _ h => h) (Or.inl ⟨by kernel_rfl, ?_⟩) hS ?_
        rotate_left
        · intro wz hSz; try dsimp only at hSz
          obtain ⟨nz, rfl⟩ := hSz
          go_simp
          all_goals with_reducible rfl
        try simp only [Act.put, List.getElem_toArray, List.getElem_cons_succ, List.getElem_cons_zero, List.setIfInBounds_toArray, List.set_cons_zero, List.set_cons_succ]
        refine wpAnyH_take (i := 8) (v := ?_) rfl (by kernel_rfl) (by kernel_rfl) (by kernel_rfl) (fun _ _ _ h => h) (Or.inl ⟨by kernel_rfl, ?_⟩) hS ?_
        rotate_left
        · intro wz hSz; try dsimp only at hSz
          obtain ⟨nz, rfl⟩ := hSz
          go_simp
          all_goals with_reducible rfl
        try simp only [Act.put, List.getElem_toArray, List.getElem_cons_succ, List.getElem_cons_zero, List.setIfInBounds_toArray, List.set_cons_zero, List.set_cons_succ]
        refine wpAnyH_take (i := 9) (v := ?_) rfl (by kernel_rfl) (by kernel_rfl) (by kernel_rfl) (fun _ _ _ h => h) (Or.inl ⟨by kernel_rfl, ?_⟩) hS ?_
        rotate_left
        · intro wz hSz; try dsimp only at hSz
          obtain ⟨nz, rfl⟩ := hSz
          go_simp
          all_goals with_reducible rfl
        try simp only [Act.put, List.getElem_toArray, List.getElem_cons_succ, List.getElem_cons_zero, List.setIfInBounds_toArray, List.set_cons_zero, List.set_cons_succ]
        refine wpAnyH_take (i := 10) (v := ?_) rfl (by kernel_rfl) (by kernel_rfl) (by kernel_rfl) (fun _ _ _ h => h) (Or.inl ⟨by kernel_rfl, ?_⟩) hS ?_
        rotate_left
        · intro wz hSz; try dsimp only at hSz
          obtain ⟨nz, rfl⟩ := hSz
          go_simp
          all_goals with_reducible rfl
        try simp only [Act.put, List.getElem_toArray, List.getElem_cons_succ, List.getElem_cons_zero, List.setIfInBounds_toArray, List.set_cons_zero, List.set_cons_succ]
        refine wpAnyH_take (i := 11) (v := ?_) rfl (by kernel_rfl) (by kernel_rfl) (by kernel_rfl) (fun _ _ _ h => h) (Or.inl ⟨by kernel_rfl, ?_⟩) hS ?_
        rotate_left
        · intro wz hSz; try dsimp only at hSz
          obtain ⟨nz, rfl⟩ := hSz
          go_simp
          all_goals with_reducible rfl
        try simp only [Act.put, List.getElem_toArray, List.getElem_cons_succ, List.getElem_cons_zero, List.setIfInBounds_toArray, List.set_cons_zero, List.set_cons_succ]
        refine wpAnyH_take (i := 12) (v := ?_) rfl (by kernel_rfl) (by kernel_rfl) (by kernel_rfl) (fun _ _ _ h => h) (Or.inl ⟨by kernel_rfl, ?_⟩) hS ?_
        rotate_left
        · intro wz hSz; try dsimp only at hSz
          obtain ⟨nz, rfl⟩ := hSz
          go_simp
          all_goals with_reducible rfl
        try simp only [Act.put, List.getElem_toArray, List.getElem_cons_succ, List.getElem_cons_zero, List.setIfInBounds_toArray, List.set_cons_zero, List.set_cons_succ]
        refine wpAnyH_take (i := 13) (v := ?_) rfl (by kernel_rfl) (by kernel_rfl) (by kernel_rfl) (fun _ _ _ h => h) (Or.inl ⟨by kernel_rfl, ?_⟩) hS ?_
        rotate_left
        · intro wz hSz; try dsimp only at hSz
          obtain ⟨nz, rfl⟩ := hSz
          go_simp
          all_goals with_reducible rfl
        try simp only [Act.put, List.getElem_toArray, List.getElem_cons_succ, List.getElem_cons_zero, List.setIfInBounds_toArray, List.set_cons_zero, List.set_cons_succ]
        refine wpAnyH_take (i := 14) (v := ?_) rfl (by kernel_rfl) (by kernel_rfl) (by kernel_rfl) (fun _ _ _ h => h) (Or.inl ⟨by kernel_rfl, ?_⟩) hS ?_
        rotate_left
        · intro wz hSz; try dsimp only at hSz
          obtain ⟨nz, rfl⟩ := hSz
          go_simp
          all_goals with_reducible rfl
        try simp only [Act.put, List.getElem_toArray, List.getElem_cons_succ, List.getElem_cons_zero, List.setIfInBounds_toArray, List.set_cons_zero, List.set_cons_succ]
        refine wpAnyH_take (i := 15) (v := ?_) rfl (by kernel_rfl) (by kernel_rfl) (by kernel_rfl) (fun _ _ _ h => h) (Or.inl ⟨by kernel_rfl, ?_⟩) hS ?_
        rotate_left
        · intro wz hSz; try dsimp only at hSz
          obtain ⟨nz, rfl⟩ := hSz
          go_simp
          all_goals with_reducible rfl
        try simp only [Act.put, List.getElem_toArray, List.getElem_cons_succ, List.getElem_cons_zero, List.setIfInBounds_toArray, List.set_cons_zero, List.set_cons_succ]
        refine wpAnyH_take (i := 16) (v := ?_) rfl (by kernel_rfl) (by kernel_rfl) (by kernel_rfl) (fun _ _ _ h => h) (Or.inl ⟨by kernel_rfl, ?_⟩) hS ?_
        rotate_left
        · intro wz hSz; try dsimp only at hSz
          obtain ⟨nz, rfl⟩ := hSz
          go_simp
          all_goals with_reducible rfl
        try simp only [Act.put, List.getElem_toArray, List.getElem_cons_succ, List.getElem_cons_zero, List.setIfInBounds_toArray, List.set_cons_zero, List.set_cons_succ]
        refine wpAnyH_take (i := 17) (v := ?_) rfl (by kernel_rfl) (by kernel_rfl) (by kernel_rfl) (fun _ _ _ h => h) (Or.inl ⟨by kernel_rfl, ?_⟩) hS ?_
        rotate_left
        · intro wz hSz; try dsimp only at hSz
          obtain ⟨nz, rfl⟩ := hSz
          go_simp
          all_goals with_reducible rfl
        try simp only [Act.put, List.getElem_toArray, List.getElem_cons_succ, List.getElem_cons_zero, List.setIfInBounds_toArray, List.set_cons_zero, List.set_cons_succ]
        refine wpAnyH_take (i := 18) (v := ?_) rfl (by kernel_rfl) (by kernel_rfl) (by kernel_rfl) (fun _ _ _ h => h) (Or.inl ⟨by kernel_rfl, ?_⟩) hS ?_
        rotate_left
        · intro wz hSz; try dsimp only at hSz
          obtain ⟨nz, rfl⟩ := hSz
          go_simp
          all_goals with_reducible rfl
        try simp only [Act.put, List.getElem_toArray, List.getElem_cons_succ, List.getElem_cons_zero, List.setIfInBounds_toArray, List.set_cons_zero, List.set_cons_succ]
        refine wpAnyH_take (i := 19) (v := ?_) rfl (by kernel_rfl) (by kernel_rfl) (by kernel_rfl) (fun _ _ _ h => h) (Or.inl ⟨by kernel_rfl, ?_⟩) hS ?_
        rotate_left
        · intro wz hSz; try dsimp only at hSz
          obtain ⟨nz, rfl⟩ := hSz
          go_simp
          all_goals with_reducible rfl
        try simp only [Act.put, List.getElem_toArray, List.getElem_cons_succ, List.getElem_cons_zero, List.setIfInBounds_toArray, List.set_cons_zero, List.set_cons_succ]
        refine wpAnyH_take (i := 20) (v := ?_) rfl (by kernel_rfl) (by kernel_rfl) (by kernel_rfl) (fun _ _ _ h => h) (Or.inl ⟨by kernel_rfl, ?_⟩) hS ?_
        rotate_left
        · intro wz hSz; try dsimp only at hSz
          obtain ⟨nz, rfl⟩ := hSz
          go_simp
          all_goals with_reducible rfl
        try simp only [Act.put, List.getElem_toArray, List.getElem_cons_succ, List.getElem_cons_zero, List.setIfInBounds_toArray, List.set_cons_zero, List.set_cons_succ]
        refine wpAnyH_take (i := 21) (v := ?_) rfl (by kernel_rfl) (by kernel_rfl) (by kernel_rfl) (fun _ _ _ h => h) (Or.inl ⟨by kernel_rfl, ?_⟩) hS ?_
        rotate_left
        · intro wz hSz; try dsimp only at hSz
          obtain ⟨nz, rfl⟩ := hSz
          go_simp
          all_goals with_reducible rfl
        try simp only [Act.put, List.getElem_toArray, List.getElem_cons_succ, List.getElem_cons_zero, List.setIfInBounds_toArray, List.set_cons_zero, List.set_cons_succ]
        refine wpAnyH_ready (rs := [22]) (by kernel_rfl) (by simp) (AllReadyH.cons rfl (fun K hK => ?_) AllReadyH.nil)
        go_simp
        obtain ⟨nz, hnz⟩ := hS
        try rw [hnz]
        (go_at_call 23; refine (HRR.out _).mono ?_; rintro e w4 ⟨rfl, nr, rfl⟩)
        refine hK.out _ _ ?_ (fun hSn => ?_)
        · exact ⟨_, World.drewN_drewN _ _ _⟩
        clear hK K
        have hS := hSn
        clear hSn
        try dsimp only at hS
        try simp only [Act.put, List.getElem_toArray, List.getElem_cons_succ, List.getElem_cons_zero, List.setIfInBounds_toArray, List.set_cons_zero, List.set_cons_succ]
        refine wpAnyH_take (i := 23) (v := ?_) rfl (by kernel_rfl) (by kernel_rfl) (by kernel_rfl) (fun _ _ _ h => h) (Or.inl ⟨by kernel_rfl, ?_⟩) hS ?_
        rotate_left
        · intro wz hSz; try dsimp only at hSz
          obtain ⟨nz, rfl⟩ := hSz
          go_simp
          all_goals with_reducible rfl
        try simp only [Act.put, List.getElem_toArray, List.getElem_cons_succ, List.getElem_cons_zero, List.setIfInBounds_toArray, List.set_cons_zero, List.set_cons_succ]
        refine wpAnyH_take (i := 24) (v := ?_) rfl (by kernel_rfl) (by kernel_rfl) (by kernel_rfl) (fun _ _ _ h => h) (Or.inl ⟨by kernel_rfl, ?_⟩) hS ?_
        rotate_left
        · intro wz hSz; try dsimp only at hSz
          obtain ⟨nz, rfl⟩ := hSz
          go_simp
          all_goals with_reducible rfl
        try simp only [Act.put, List.getElem_toArray, List.getElem_cons_succ, List.getElem_cons_zero, List.setIfInBounds_toArray, List.set_cons_zero, List.set_cons_succ]
        refine wpAnyH_take (i := 25) (v := ?_) rfl (by kernel_rfl) (by kernel_rfl) (by kernel_rfl) (fun _ _ _ h => h) (Or.inl ⟨by kernel_rfl, ?_⟩) hS ?_
        rotate_left
        · intro wz hSz; try dsimp only at hSz
          obtain ⟨nz, rfl⟩ := hSz
          go_simp
          all_goals with_reducible rfl
        try simp only [Act.put, List.getElem_toArray, List.getElem_cons_succ, List.getElem_cons_zero, List.setIfInBounds_toArray, List.set_cons_zero, List.set_cons_succ]
        refine wpAnyH_done (by kernel_rfl) ?_ _
        obtain ⟨nf, hnf⟩ := hS
        go_wp2
        go_roundg gk
        case measure => exact Nat.lt_succ_self _
        case rel => exact ⟨i1, rfl, by have := HI1.out; have := HI.out; omega, by first | exact (HBL.out.trans (HB2.out.mono HBL.out.size)).trans (belN _ _ _) | (rw [hnf]; exact (HBL.out.trans (HB2.out.mono HBL.out.size)).trans (belN _ _ _))⟩
    | zero =>
      have l1 : ¬ ((i : Int) < (A.length : Int)) := by omega
      obtain ⟨y0, y1, y2, y3, y4⟩ := cm_results (kd, n, K, V, kb) hkr
      clear hi hkr hsr har hbl
      go_wp2_with fail
      refine (HDG.out _ _ HAR.out).mono ?_
      rintro e w3 ⟨v3, vr3, rfl, sa3, rr3, hb3⟩
      have HB3 := Lib.hid (HBR.out.trans (hb3.mono HBR.out.size))
      have HM3 := Lib.hid (HMR.out.below hb3)
      have HK3 := Lib.hid (HKR.out.below hb3 (Blk.lt HKR.out))
      have HR3 := Lib.hid rr3
      obtain ⟨ra3, rc3, rfl⟩ := rr3.form
      clear hb3 sa3 rr3 y0 y1 y2 y3 y4
      obtain ⟨y0, y1, y2, y3, y4⟩ := cm_results (kd, n, K, V, kb) HK3.out
      go_wp2_with fail
      refine (known8_any m _ HM3.out).mono ?_
      rintro e w6 ⟨rfl, hb6⟩
      have HB6 := Lib.hid (HB3.out.trans (hb6.mono HB3.out.size))
      clear hb6
      go_wp2
      go_ret
      exact ⟨rfl, HB6.out⟩
set_option maxHeartbeats 8000000 in
theorem ke_put (v : Value) (s : List Tb) (n : ByteArray) (K V : Int) (kb : Bool) (m : Int) (w : World) (hm : Wq m w) (h : SR w v s) (hK : i64B K) (hV : i64B V) (hl : lightS s = true) (hr : rightL s = true) (hn : n.size ≤ 30) (hT : textC (2, n, K, V, kb) ≠ []) (he : (doS s 2 n K V kb).2.2 = 0) :
    Calls Tryz.prog 7 #[v, .agg #[.int .i64 2, .string n, .int .i64 K, .int .i64 V, .bool kb]] w fun e w' => e = .returned (.bool true) ∧ Below w.heap.size w w' := by
  have ln : ¬ ((30 : Int) < (n.size : Int)) := by omega
  have HTX := Lib.hid (fun W hW => text_any (2, n, K, V, kb) m W hW (by show n.size ≤ 1000; omega) hK hV)
  obtain ⟨T, hTT⟩ : ∃ T, bb (textC (2, n, K, V, kb)) = T := ⟨_, rfl⟩
  have te := bb_emp _ hT
  rw [hTT] at te HTX
  clear hTT
  have hp := (right_iff s).1 hr
  have hf := txt_facts hT
  have hkk := hf.1
  have hq := do_right (kd := 2) (kb := kb) hp hf.2.1 hf.2.2.1 hf.2.2.2.1
  have hkeep := fun t (ht : t ∈ s) => do_keeps (kd := 2) (n := n) (K := K) (V := V) (kb := kb) ht
  have h1 := (keeps_get (kd := 2) (kb := kb) hp hf.2.1 hf.2.2.1 hf.2.2.2.1 he).1 rfl
  obtain ⟨A, r, E, hD⟩ : ∃ A r E, doS s 2 n K V kb = (A, r, E) := ⟨_, _, _, rfl⟩
  rw [hD] at he h1 hq hkeep
  simp only at he h1 hq hkeep
  have hrA := (right_iff A).2 hq
  have hfind : ∀ (i : Nat) (t : Tb), s[i]? = some t → ∃ (k : Nat) (u : Tb), findN A t.1 0 = (k : Int) ∧ A[k]? = some u ∧ (t.1 ≠ n → u.2 = t.2) := by
    intro i t ht
    obtain ⟨u, hu, hu1, hu2⟩ := hkeep t (List.mem_of_getElem? ht)
    obtain ⟨k, hk1, hk2⟩ := find_mem hq.up hu
    exact ⟨k, u, by rw [← hu1]; exact hk1, hk2, hu2⟩
  have HFI := Lib.hid hfind
  have HDO := Lib.hid (fun W hS => doQ _ v s 2 n K V kb hD hp hkk hn W hS)
  have HQ := Lib.hid hq
  have hsl := hp.len
  have HSL := Lib.hid hsl
  have HFW := Lib.hid hp.few
  subst he
  have HDG := Lib.hid (fun v' W hS => doQ _ v' A 1 n K 0 true h1 hq (by decide) hn W hS)
  clear hp hf hkk hD hkeep hfind hq h1 hsl
  have HM0 := Lib.hid hm
  have HB0 := Lib.hid (Below.refl w.heap.size w)
  have HSR := Lib.hid h
  obtain ⟨va0, vc0, rfl⟩ := h.form
  clear hm h hn hT
  go_enter Tryz.func7, Tryz.ntmps7
  go_wp2_with fail
  obtain ⟨W0, hW0⟩ : ∃ W0, w.alloc (.cells #[.int .i64 2, .string n, .int .i64 K, .int .i64 V, .bool kb] 24) = W0 := ⟨_, rfl⟩
  have hb1 : Below w.heap.size w W0 := by rw [← hW0]; exact (Below.refl _ _).alloc (Nat.le_refl _) _
  have HB1 := Lib.hid (HB0.out.trans (hb1.mono HB0.out.size))
  have HM1 := Lib.hid (HM0.out.below hb1)
  have HSR := Lib.hid (HSR.out.below hb1)
  have hk0 : Blk W0 w.heap.size 24 (cmCells (2, n, K, V, kb)) := by rw [← hW0]; exact Blk.new _ _ _
  have HK := Lib.hid hk0
  rw [hW0]
  clear hW0 hk0
  clear hb1
  refine (light8b _ s true hl _ HSR.out).mono ?_
  rintro e w2 ⟨rfl, hb2⟩
  have HB2 := Lib.hid (HB1.out.trans (hb2.mono HB1.out.size))
  have HM2 := Lib.hid (HM1.out.below hb2)
  have HSR := Lib.hid (HSR.out.below hb2)
  have HK := Lib.hid (HK.out.below hb2 (Blk.lt HK.out))
  clear hb2
  go_wp2_with fail
  refine (right8b _ s true hr _ HSR.out).mono ?_
  rintro e w3 ⟨rfl, hb3⟩
  have HB3 := Lib.hid (HB2.out.trans (hb3.mono HB2.out.size))
  have HM3 := Lib.hid (HM2.out.below hb3)
  have HSR := Lib.hid (HSR.out.below hb3)
  have HK := Lib.hid (HK.out.below hb3 (Blk.lt HK.out))
  clear hb3
  obtain ⟨y0, y1, y2, y3, y4⟩ := cm_results (2, n, K, V, kb) HK.out
  go_wp2_with fail
  refine (HTX.out _ HM3.out).mono ?_
  rintro e w4 ⟨rfl, hb4⟩
  have HB4 := Lib.hid (HB3.out.trans (hb4.mono HB3.out.size))
  have HM4 := Lib.hid (HM3.out.below hb4)
  have HSR := Lib.hid (HSR.out.below hb4)
  have HK := Lib.hid (HK.out.below hb4 (Blk.lt HK.out))
  clear y0 y1 y2 y3 y4
  obtain ⟨y0, y1, y2, y3, y4⟩ := cm_results (2, n, K, V, kb) HK.out
  clear hb4
  go_wp2_with fail
  refine (HDO.out _ HSR.out).mono ?_
  rintro e w5 ⟨va, vr, rfl, sa, rr, hb5⟩
  have HB5 := Lib.hid (HB4.out.trans (hb5.mono HB4.out.size))
  have HM5 := Lib.hid (HM4.out.below hb5)
  have HSR := Lib.hid (HSR.out.below hb5)
  have HK := Lib.hid (HK.out.below hb5 (Blk.lt HK.out))
  have HA := Lib.hid sa
  clear y0 y1 y2 y3 y4 rr
  clear hb5 sa
  go_wp2_with fail
  refine (right8b va A true hrA _ HA.out).mono ?_
  rintro e w6 ⟨rfl, hb6⟩
  have HB6 := Lib.hid (HB5.out.trans (hb6.mono HB5.out.size))
  have HM6 := Lib.hid (HM5.out.below hb6)
  have HSR := Lib.hid (HSR.out.below hb6)
  have HA := Lib.hid (HA.out.below hb6)
  have HK := Lib.hid (HK.out.below hb6 (Blk.lt HK.out))
  clear hb6
  clear hrA
  go_wp2_with fail
  go_loopg [8] s.length (fun gk u8 wx => ∃ i : Nat, u8 = .int .i64 (i : Int) ∧ i + gk = s.length ∧ Below w6.heap.size w6 wx)
  case atStart => exact ⟨0, rfl, by omega, Below.refl _ _⟩
  case round =>
    obtain ⟨i, rfl, hi, hbl⟩ := hrel
    have hkr := HK.out.below hbl (Blk.lt HK.out)
    have HKR := Lib.hid hkr
    have hsr := HSR.out.below hbl
    have HSRR := Lib.hid hsr
    have har := HA.out.below hbl
    have HAR := Lib.hid har
    have HBR := Lib.hid (HB6.out.trans (hbl.mono HB6.out.size))
    have HMR := Lib.hid (HM6.out.below hbl)
    have HBL := Lib.hid hbl
    have HI := Lib.hid hi
    cases gk with
    | succ gk =>
      have hlt : i < s.length := by omega
      obtain ⟨b, o, cp, he, hcp, hx⟩ := hsr.inv (by omega)
      injection he with ea _ ec
      subst ea ec
      obtain ⟨t, ht0⟩ : ∃ t, s[i] = t := ⟨_, rfl⟩
      have hsi : s[i]? = some t := by rw [List.getElem?_eq_getElem hlt, ht0]
      obtain ⟨x0, u, x1, hu⟩ := hx i t hsi
      obtain ⟨k, q, hk1, hk2, hk3⟩ := HFI.out i t hsi
      have hkl := (List.getElem?_eq_some_iff.1 hk2).1
      obtain ⟨ab, ao, ac, hae, hac, hax⟩ := har.inv (by omega)
      subst hae
      obtain ⟨a0, ua, a1, hua⟩ := hax k q hk2
      have HF := Lib.hid (find_any _ A t.1 wr har (by have := HQ.out.len; omega))
      rw [hk1] at HF
      have hul : q.2.length ≤ 1000000 := HQ.out.few.2 q (List.mem_of_getElem? hk2)
      have HX := Lib.hid (fun (W : World) (hW : Below wr.heap.size wr W) => (show W.cell? ⟨b, o + i * 2, none⟩ = some (.string t.1) ∧ W.cell? ⟨b, o + i * 2 + 1, none⟩ = some u ∧ W.cell? ⟨ab, ao + k * 2, none⟩ = some (.string q.1) ∧ W.cell? ⟨ab, ao + k * 2 + 1, none⟩ = some ua ∧ RR W u t.2 ∧ RR W ua q.2 from ⟨(hW.cell (p := ⟨b, o + i * 2, none⟩) (World.block_lt_of_cell? wr _ x0)).trans x0, (hW.cell (p := ⟨b, o + i * 2 + 1, none⟩) (World.block_lt_of_cell? wr _ x1)).trans x1, (hW.cell (p := ⟨ab, ao + k * 2, none⟩) (World.block_lt_of_cell? wr _ a0)).trans a0, (hW.cell (p := ⟨ab, ao + k * 2 + 1, none⟩) (World.block_lt_of_cell? wr _ a1)).trans a1, hu.below hW, hua.below hW⟩))
      have l0 : (0 : Int) ≤ (i : Int) := by omega
      have l1 : (i : Int) < (s.length : Int) := by omega
      have l2 : ¬ ((k : Int) < 0) := by omega
      have l3 : (k : Int) < (A.length : Int) := by omega
      have l4 : (0 : Int) ≤ (k : Int) := by omega
      obtain ⟨i1, hi1⟩ : ∃ i1, i + 1 = i1 := ⟨_, rfl⟩
      have wk : IntKind.i64.wrap ((i : Int) + 1) = (i1 : Int) := by rw [show (i : Int) + 1 = (i1 : Int) by omega]; exact IntWalk.i64_in _ (by have := HSL.out; omega)
      have HI1 := Lib.hid hi1
      obtain ⟨tn, tr⟩ := t
      obtain ⟨qn, qr⟩ := q
      obtain ⟨ux, uy, rfl⟩ := hu.form
      obtain ⟨uv, uw, rfl⟩ := hua.form
      simp only at x0 hk3 hul HF HX
      have tle := tl_eq tn n
      by_cases hne : tn = n
      · have e1 : (tn.toList == n.toList) = true := by rw [tle]; exact decide_eq_true hne
        have e2 : (!(tn.toList == n.toList)) = false := by rw [e1]; rfl
        clear tle hne hi hlt ht0 hsi hx hu hk1 hk2 hk3 hkl har hac hax hua a0 a1 hi1 hul hkr hsr hbl x1
        go_wp2_with fail
        refine HF.out.mono ?_
        rintro e w2 ⟨rfl, hb2⟩
        have HB2 := Lib.hid hb2
        obtain ⟨z0, z1, z2, z3, z4, z5⟩ := HX.out w2 hb2
        obtain ⟨y0, y1, y2, y3, y4⟩ := cm_results (2, n, K, V, kb) (HKR.out.below hb2 (Blk.lt HKR.out))
        clear hb2 z4 z5
        go_wp2
        refine wp_region_held_drew (S := (fun w' => ∃ nn, w' = w2.drewN nn)) (by kernel_rfl) ?_ (fun hS => ?_)
        · exact ⟨1, rfl⟩
        try dsimp only at hS
        refine wpAnyH_take (i := 0) (v := ?_) rfl (by kernel_rfl) (by kernel_rfl) (by kernel_rfl) (fun _ _ _ h => h) (Or.inl ⟨by kernel_rfl, ?_⟩) hS ?_
        rotate_left
        · intro wz hSz; try dsimp only at hSz
          obtain ⟨nz, rfl⟩ := hSz
          go_simp
          all_goals with_reducible rfl
        try simp only [Act.put, List.getElem_toArray, List.getElem_cons_succ, List.getElem_cons_zero, List.setIfInBounds_toArray, List.set_cons_zero, List.set_cons_succ]
        refine wpAnyH_take (i := 1) (v := ?_) rfl (by kernel_rfl) (by kernel_rfl) (by kernel_rfl) (fun _ _ _ h => h) (Or.inl ⟨by kernel_rfl, ?_⟩) hS ?_
        rotate_left
        · intro wz hSz; try dsimp only at hSz
          obtain ⟨nz, rfl⟩ := hSz
          go_simp
          all_goals with_reducible rfl
        try simp only [Act.put, List.getElem_toArray, List.getElem_cons_succ, List.getElem_cons_zero, List.setIfInBounds_toArray, List.set_cons_zero, List.set_cons_succ]
        refine wpAnyH_take (i := 2) (v := ?_) rfl (by kernel_rfl) (by kernel_rfl) (by kernel_rfl) (fun _ _ _ h => h) (Or.inl ⟨by kernel_rfl, ?_⟩) hS ?_
        rotate_left
        · intro wz hSz; try dsimp only at hSz
          obtain ⟨nz, rfl⟩ := hSz
          go_simp
          all_goals with_reducible rfl
        try simp only [Act.put, List.getElem_toArray, List.getElem_cons_succ, List.getElem_cons_zero, List.setIfInBounds_toArray, List.set_cons_zero, List.set_cons_succ]
        refine wpAnyH_take (i := 3) (v := ?_) rfl (by kernel_rfl) (by kernel_rfl) (by kernel_rfl) (fun _ _ _ h => h) (Or.inl ⟨by kernel_rfl, ?_⟩) hS ?_
        rotate_left
        · intro wz hSz; try dsimp only at hSz
          obtain ⟨nz, rfl⟩ := hSz
          go_simp
          all_goals with_reducible rfl
        try simp only [Act.put, List.getElem_toArray, List.getElem_cons_succ, List.getElem_cons_zero, List.setIfInBounds_toArray, List.set_cons_zero, List.set_cons_succ]
        refine wpAnyH_take (i := 4) (v := ?_) rfl (by kernel_rfl) (by kernel_rfl) (by kernel_rfl) (fun _ _ _ h => h) (Or.inl ⟨by kernel_rfl, ?_⟩) hS ?_
        rotate_left
        · intro wz hSz; try dsimp only at hSz
          obtain ⟨nz, rfl⟩ := hSz
          go_simp
          all_goals with_reducible rfl
        try simp only [Act.put, List.getElem_toArray, List.getElem_cons_succ, List.getElem_cons_zero, List.setIfInBounds_toArray, List.set_cons_zero, List.set_cons_succ]
        refine wpAnyH_take (i := 5) (v := ?_) rfl (by kernel_rfl) (by kernel_rfl) (by kernel_rfl) (fun _ _ _ h => h) (Or.inl ⟨by kernel_rfl, ?_⟩) hS ?_
        rotate_left
        · intro wz hSz; try dsimp only at hSz
          obtain ⟨nz, rfl⟩ := hSz
          go_simp
          all_goals with_reducible rfl
        try simp only [Act.put, List.getElem_toArray, List.getElem_cons_succ, List.getElem_cons_zero, List.setIfInBounds_toArray, List.set_cons_zero, List.set_cons_succ]
        refine wpAnyH_take (i := 6) (v := ?_) rfl (by kernel_rfl) (by kernel_rfl) (by kernel_rfl) (fun _ _ _ h => h) (Or.inl ⟨by kernel_rfl, ?_⟩) hS ?_
        rotate_left
        · intro wz hSz; try dsimp only at hSz
          obtain ⟨nz, rfl⟩ := hSz
          go_simp
          all_goals with_reducible rfl
        try simp only [Act.put, List.getElem_toArray, List.getElem_cons_succ, List.getElem_cons_zero, List.setIfInBounds_toArray, List.set_cons_zero, List.set_cons_succ]
        refine wpAnyH_take (i := 7) (v := ?_) rfl (by kernel_rfl) (by kernel_rfl) (by kernel_rfl) (fun _ _ _ h => h) (Or.inl ⟨by kernel_rfl, ?_⟩) hS ?_
        rotate_left
        · intro wz hSz; try dsimp only at hSz
          obtain ⟨nz, rfl⟩ := hSz
          go_simp
          all_goals with_reducible rfl
        try simp only [Act.put, List.getElem_toArray, List.getElem_cons_succ, List.getElem_cons_zero, List.setIfInBounds_toArray, List.set_cons_zero, List.set_cons_succ]
        refine wpAnyH_take (i := 8) (v := ?_) rfl (by kernel_rfl) (by kernel_rfl) (by kernel_rfl) (fun _ _ _ h => h) (Or.inl ⟨by kernel_rfl, ?_⟩) hS ?_
        rotate_left
        · intro wz hSz; try dsimp only at hSz
          obtain ⟨nz, rfl⟩ := hSz
          go_simp
          all_goals with_reducible rfl
        try simp only [Act.put, List.getElem_toArray, List.getElem_cons_succ, List.getElem_cons_zero, List.setIfInBounds_toArray, List.set_cons_zero, List.set_cons_succ]
        refine wpAnyH_take (i := 9) (v := ?_) rfl (by kernel_rfl) (by kernel_rfl) (by kernel_rfl) (fun _ _ _ h => h) (Or.inl ⟨by kernel_rfl, ?_⟩) hS ?_
        rotate_left
        · intro wz hSz; try dsimp only at hSz
          obtain ⟨nz, rfl⟩ := hSz
          go_simp
          all_goals with_reducible rfl
        try simp only [Act.put, List.getElem_toArray, List.getElem_cons_succ, List.getElem_cons_zero, List.setIfInBounds_toArray, List.set_cons_zero, List.set_cons_succ]
        refine wpAnyH_take (i := 10) (v := ?_) rfl (by kernel_rfl) (by kernel_rfl) (by kernel_rfl) (fun _ _ _ h => h) (Or.inl ⟨by kernel_rfl, ?_⟩) hS ?_
        rotate_left
        · intro wz hSz; try dsimp only at hSz
          obtain ⟨nz, rfl⟩ := hSz
          go_simp
          all_goals with_reducible rfl
        try simp only [Act.put, List.getElem_toArray, List.getElem_cons_succ, List.getElem_cons_zero, List.setIfInBounds_toArray, List.set_cons_zero, List.set_cons_succ]
        refine wpAnyH_take (i := 11) (v := ?_) rfl (by kernel_rfl) (by kernel_rfl) (by kernel_rfl) (fun _ _ _ h => h) (Or.inl ⟨by kernel_rfl, ?_⟩) hS ?_
        rotate_left
        · intro wz hSz; try dsimp only at hSz
          obtain ⟨nz, rfl⟩ := hSz
          go_simp
          all_goals with_reducible rfl
        try simp only [Act.put, List.getElem_toArray, List.getElem_cons_succ, List.getElem_cons_zero, List.setIfInBounds_toArray, List.set_cons_zero, List.set_cons_succ]
        refine wpAnyH_take (i := 12) (v := undef) rfl (by kernel_rfl) (by kernel_rfl) (by kernel_rfl) (fun _ _ _ h => h) (Or.inr ⟨by kernel_rfl, rfl⟩) hS ?_
        try simp only [Act.put, List.getElem_toArray, List.getElem_cons_succ, List.getElem_cons_zero, List.setIfInBounds_toArray, List.set_cons_zero, List.set_cons_succ]
        refine wpAnyH_take (i := 13) (v := undef) rfl (by kernel_rfl) (by kernel_rfl) (by kernel_rfl) (fun _ _ _ h => h) (Or.inr ⟨by kernel_rfl, rfl⟩) hS ?_
        try simp only [Act.put, List.getElem_toArray, List.getElem_cons_succ, List.getElem_cons_zero, List.setIfInBounds_toArray, List.set_cons_zero, List.set_cons_succ]
        refine wpAnyH_take (i := 14) (v := undef) rfl (by kernel_rfl) (by kernel_rfl) (by kernel_rfl) (fun _ _ _ h => h) (Or.inr ⟨by kernel_rfl, rfl⟩) hS ?_
        try simp only [Act.put, List.getElem_toArray, List.getElem_cons_succ, List.getElem_cons_zero, List.setIfInBounds_toArray, List.set_cons_zero, List.set_cons_succ]
        refine wpAnyH_take (i := 15) (v := undef) rfl (by kernel_rfl) (by kernel_rfl) (by kernel_rfl) (fun _ _ _ h => h) (Or.inr ⟨by kernel_rfl, rfl⟩) hS ?_
        try simp only [Act.put, List.getElem_toArray, List.getElem_cons_succ, List.getElem_cons_zero, List.setIfInBounds_toArray, List.set_cons_zero, List.set_cons_succ]
        refine wpAnyH_take (i := 16) (v := undef) rfl (by kernel_rfl) (by kernel_rfl) (by kernel_rfl) (fun _ _ _ h => h) (Or.inr ⟨by kernel_rfl, rfl⟩) hS ?_
        try simp only [Act.put, List.getElem_toArray, List.getElem_cons_succ, List.getElem_cons_zero, List.setIfInBounds_toArray, List.set_cons_zero, List.set_cons_succ]
        refine wpAnyH_take (i := 17) (v := undef) rfl (by kernel_rfl) (by kernel_rfl) (by kernel_rfl) (fun _ _ _ h => h) (Or.inr ⟨by kernel_rfl, rfl⟩) hS ?_
        try simp only [Act.put, List.getElem_toArray, List.getElem_cons_succ, List.getElem_cons_zero, List.setIfInBounds_toArray, List.set_cons_zero, List.set_cons_succ]
        refine wpAnyH_take (i := 18) (v := undef) rfl (by kernel_rfl) (by kernel_rfl) (by kernel_rfl) (fun _ _ _ h => h) (Or.inr ⟨by kernel_rfl, rfl⟩) hS ?_
        try simp only [Act.put, List.getElem_toArray, List.getElem_cons_succ, List.getElem_cons_zero, List.setIfInBounds_toArray, List.set_cons_zero, List.set_cons_succ]
        refine wpAnyH_take (i := 19) (v := undef) rfl (by kernel_rfl) (by kernel_rfl) (by kernel_rfl) (fun _ _ _ h => h) (Or.inr ⟨by kernel_rfl, rfl⟩) hS ?_
        try simp only [Act.put, List.getElem_toArray, List.getElem_cons_succ, List.getElem_cons_zero, List.setIfInBounds_toArray, List.set_cons_zero, List.set_cons_succ]
        refine wpAnyH_take (i := 20) (v := undef) rfl (by kernel_rfl) (by kernel_rfl) (by kernel_rfl) (fun _ _ _ h => h) (Or.inr ⟨by kernel_rfl, rfl⟩) hS ?_
        try simp only [Act.put, List.getElem_toArray, List.getElem_cons_succ, List.getElem_cons_zero, List.setIfInBounds_toArray, List.set_cons_zero, List.set_cons_succ]
        refine wpAnyH_take (i := 21) (v := undef) rfl (by kernel_rfl) (by kernel_rfl) (by kernel_rfl) (fun _ _ _ h => h) (Or.inr ⟨by kernel_rfl, rfl⟩) hS ?_
        try simp only [Act.put, List.getElem_toArray, List.getElem_cons_succ, List.getElem_cons_zero, List.setIfInBounds_toArray, List.set_cons_zero, List.set_cons_succ]
        refine wpAnyH_take (i := 22) (v := undef) rfl (by kernel_rfl) (by kernel_rfl) (by kernel_rfl) (fun _ _ _ h => h) (Or.inr ⟨by kernel_rfl, rfl⟩) hS ?_
        try simp only [Act.put, List.getElem_toArray, List.getElem_cons_succ, List.getElem_cons_zero, List.setIfInBounds_toArray, List.set_cons_zero, List.set_cons_succ]
        refine wpAnyH_take (i := 23) (v := undef) rfl (by kernel_rfl) (by kernel_rfl) (by kernel_rfl) (fun _ _ _ h => h) (Or.inr ⟨by kernel_rfl, rfl⟩) hS ?_
        try simp only [Act.put, List.getElem_toArray, List.getElem_cons_succ, List.getElem_cons_zero, List.setIfInBounds_toArray, List.set_cons_zero, List.set_cons_succ]
        refine wpAnyH_take (i := 24) (v := ?_) rfl (by kernel_rfl) (by kernel_rfl) (by kernel_rfl) (fun _ _ _ h => h) (Or.inl ⟨by kernel_rfl, ?_⟩) hS ?_
        rotate_left
        · intro wz hSz; try dsimp only at hSz
          obtain ⟨nz, rfl⟩ := hSz
          go_simp
          all_goals with_reducible rfl
        try simp only [Act.put, List.getElem_toArray, List.getElem_cons_succ, List.getElem_cons_zero, List.setIfInBounds_toArray, List.set_cons_zero, List.set_cons_succ]
        refine wpAnyH_take (i := 25) (v := ?_) rfl (by kernel_rfl) (by kernel_rfl) (by kernel_rfl) (fun _ _ _ h => h) (Or.inl ⟨by kernel_rfl, ?_⟩) hS ?_
        rotate_left
        · intro wz hSz; try dsimp only at hSz
          obtain ⟨nz, rfl⟩ := hSz
          go_simp
          all_goals with_reducible rfl
        try simp only [Act.put, List.getElem_toArray, List.getElem_cons_succ, List.getElem_cons_zero, List.setIfInBounds_toArray, List.set_cons_zero, List.set_cons_succ]
        refine wpAnyH_done (by kernel_rfl) ?_ _
        obtain ⟨nf, hnf⟩ := hS
        go_wp2
        go_roundg gk
        case measure => exact Nat.lt_succ_self _
        case rel => exact ⟨i1, rfl, by have := HI1.out; have := HI.out; omega, by first | exact (HBL.out.trans (HB2.out.mono HBL.out.size)).trans (belN _ _ _) | (rw [hnf]; exact (HBL.out.trans (HB2.out.mono HBL.out.size)).trans (belN _ _ _))⟩
      · have e1 : (tn.toList == n.toList) = false := by rw [tle]; exact decide_eq_false hne
        have e2 : (!(tn.toList == n.toList)) = true := by rw [e1]; rfl
        have hqt : qr = tr := hk3 hne
        subst hqt
        have HUL := Lib.hid hul
        clear tle hne hi hlt ht0 hsi hx hu hk1 hk2 hk3 hkl har hac hax hua a0 a1 hi1 hul hkr hsr hbl x1
        go_wp2_with fail
        refine HF.out.mono ?_
        rintro e w2 ⟨rfl, hb2⟩
        have HB2 := Lib.hid hb2
        obtain ⟨z0, z1, z2, z3, z4, z5⟩ := HX.out w2 hb2
        obtain ⟨y0, y1, y2, y3, y4⟩ := cm_results (2, n, K, V, kb) (HKR.out.below hb2 (Blk.lt HKR.out))
        have HRR := Lib.hid (fun nn => rrowsT _ _ qr (w2.drewN nn) (z5.drewN nn) (z4.drewN nn) HUL.out)
        clear hb2 z4 z5
        go_wp2
        refine wp_region_held_drew (S := (fun w' => ∃ nn, w' = w2.drewN nn)) (by kernel_rfl) ?_ (fun hS => ?_)
        · exact ⟨1, rfl⟩
        try dsimp only at hS
        refine wpAnyH_take (i := 0) (v := ?_) rfl (by kernel_rfl) (by kernel_rfl) (by kernel_rfl) (fun _ _ _ h => h) (Or.inl ⟨by kernel_rfl, ?_⟩) hS ?_
        rotate_left
        · intro wz hSz; try dsimp only at hSz
          obtain ⟨nz, rfl⟩ := hSz
          go_simp
          all_goals with_reducible rfl
        try simp only [Act.put, List.getElem_toArray, List.getElem_cons_succ, List.getElem_cons_zero, List.setIfInBounds_toArray, List.set_cons_zero, List.set_cons_succ]
        refine wpAnyH_take (i := 1) (v := ?_) rfl (by kernel_rfl) (by kernel_rfl) (by kernel_rfl) (fun _ _ _ h => h) (Or.inl ⟨by kernel_rfl, ?_⟩) hS ?_
        rotate_left
        · intro wz hSz; try dsimp only at hSz
          obtain ⟨nz, rfl⟩ := hSz
          go_simp
          all_goals with_reducible rfl
        try simp only [Act.put, List.getElem_toArray, List.getElem_cons_succ, List.getElem_cons_zero, List.setIfInBounds_toArray, List.set_cons_zero, List.set_cons_succ]
        refine wpAnyH_take (i := 2) (v := ?_) rfl (by kernel_rfl) (by kernel_rfl) (by kernel_rfl) (fun _ _ _ h => h) (Or.inl ⟨by kernel_rfl, ?_⟩) hS ?_
        rotate_left
        · intro wz hSz; try dsimp only at hSz
          obtain ⟨nz, rfl⟩ := hSz
          go_simp
          all_goals with_reducible rfl
        try simp only [Act.put, List.getElem_toArray, List.getElem_cons_succ, List.getElem_cons_zero, List.setIfInBounds_toArray, List.set_cons_zero, List.set_cons_succ]
        refine wpAnyH_take (i := 3) (v := ?_) rfl (by kernel_rfl) (by kernel_rfl) (by kernel_rfl) (fun _ _ _ h => h) (Or.inl ⟨by kernel_rfl, ?_⟩) hS ?_
        rotate_left
        · intro wz hSz; try dsimp only at hSz
          obtain ⟨nz, rfl⟩ := hSz
          go_simp
          all_goals with_reducible rfl
        try simp only [Act.put, List.getElem_toArray, List.getElem_cons_succ, List.getElem_cons_zero, List.setIfInBounds_toArray, List.set_cons_zero, List.set_cons_succ]
        refine wpAnyH_take (i := 4) (v := ?_) rfl (by kernel_rfl) (by kernel_rfl) (by kernel_rfl) (fun _ _ _ h => h) (Or.inl ⟨by kernel_rfl, ?_⟩) hS ?_
        rotate_left
        · intro wz hSz; try dsimp only at hSz
          obtain ⟨nz, rfl⟩ := hSz
          go_simp
          all_goals with_reducible rfl
        try simp only [Act.put, List.getElem_toArray, List.getElem_cons_succ, List.getElem_cons_zero, List.setIfInBounds_toArray, List.set_cons_zero, List.set_cons_succ]
        refine wpAnyH_take (i := 5) (v := ?_) rfl (by kernel_rfl) (by kernel_rfl) (by kernel_rfl) (fun _ _ _ h => h) (Or.inl ⟨by kernel_rfl, ?_⟩) hS ?_
        rotate_left
        · intro wz hSz; try dsimp only at hSz
          obtain ⟨nz, rfl⟩ := hSz
          go_simp
          all_goals with_reducible rfl
        try simp only [Act.put, List.getElem_toArray, List.getElem_cons_succ, List.getElem_cons_zero, List.setIfInBounds_toArray, List.set_cons_zero, List.set_cons_succ]
        refine wpAnyH_take (i := 6) (v := ?_) rfl (by kernel_rfl) (by kernel_rfl) (by kernel_rfl) (fun _ _ _ h => h) (Or.inl ⟨by kernel_rfl, ?_⟩) hS ?_
        rotate_left
        · intro wz hSz; try dsimp only at hSz
          obtain ⟨nz, rfl⟩ := hSz
          go_simp
          all_goals with_reducible rfl
        try simp only [Act.put, List.getElem_toArray, List.getElem_cons_succ, List.getElem_cons_zero, List.setIfInBounds_toArray, List.set_cons_zero, List.set_cons_succ]
        refine wpAnyH_take (i := 7) (v := ?_) rfl (by kernel_rfl) (by kernel_rfl) (by kernel_rfl) (fun _ _ _ h => h) (Or.inl ⟨by kernel_rfl, ?_⟩) hS ?_
        rotate_left
        · intro wz hSz; try dsimp only at hSz
          obtain ⟨nz, rfl⟩ := hSz
          go_simp
          all_goals with_reducible rfl
        try simp only [Act.put, List.getElem_toArray, List.getElem_cons_succ, List.getElem_cons_zero, List.setIfInBounds_toArray, List.set_cons_zero, List.set_cons_succ]
        refine wpAnyH_take (i := 8) (v := ?_) rfl (by kernel_rfl) (by kernel_rfl) (by kernel_rfl) (fun _ _ _ h => h) (Or.inl ⟨by kernel_rfl, ?_⟩) hS ?_
        rotate_left
        · intro wz hSz; try dsimp only at hSz
          obtain ⟨nz, rfl⟩ := hSz
          go_simp
          all_goals with_reducible rfl
        try simp only [Act.put, List.getElem_toArray, List.getElem_cons_succ, List.getElem_cons_zero, List.setIfInBounds_toArray, List.set_cons_zero, List.set_cons_succ]
        refine wpAnyH_take (i := 9) (v := ?_) rfl (by kernel_rfl) (by kernel_rfl) (by kernel_rfl) (fun _ _ _ h => h) (Or.inl ⟨by kernel_rfl, ?_⟩) hS ?_
        rotate_left
        · intro wz hSz; try dsimp only at hSz
          obtain ⟨nz, rfl⟩ := hSz
          go_simp
          all_goals with_reducible rfl
        try simp only [Act.put, List.getElem_toArray, List.getElem_cons_succ, List.getElem_cons_zero, List.setIfInBounds_toArray, List.set_cons_zero, List.set_cons_succ]
        refine wpAnyH_take (i := 10) (v := ?_) rfl (by kernel_rfl) (by kernel_rfl) (by kernel_rfl) (fun _ _ _ h => h) (Or.inl ⟨by kernel_rfl, ?_⟩) hS ?_
        rotate_left
        · intro wz hSz; try dsimp only at hSz
          obtain ⟨nz, rfl⟩ := hSz
          go_simp
          all_goals with_reducible rfl
        try simp only [Act.put, List.getElem_toArray, List.getElem_cons_succ, List.getElem_cons_zero, List.setIfInBounds_toArray, List.set_cons_zero, List.set_cons_succ]
        refine wpAnyH_take (i := 11) (v := ?_) rfl (by kernel_rfl) (by kernel_rfl) (by kernel_rfl) (fun _ _ _ h => h) (Or.inl ⟨by kernel_rfl, ?_⟩) hS ?_
        rotate_left
        · intro wz hSz; try dsimp only at hSz
          obtain ⟨nz, rfl⟩ := hSz
          go_simp
          all_goals with_reducible rfl
        try simp only [Act.put, List.getElem_toArray, List.getElem_cons_succ, List.getElem_cons_zero, List.setIfInBounds_toArray, List.set_cons_zero, List.set_cons_succ]
        refine wpAnyH_take (i := 12) (v := ?_) rfl (by kernel_rfl) (by kernel_rfl) (by kernel_rfl) (fun _ _ _ h => h) (Or.inl ⟨by kernel_rfl, ?_⟩) hS ?_
        rotate_left
        · intro wz hSz; try dsimp only at hSz
          obtain ⟨nz, rfl⟩ := hSz
          go_simp
          all_goals with_reducible rfl
        try simp only [Act.put, List.getElem_toArray, List.getElem_cons_succ, List.getElem_cons_zero, List.setIfInBounds_toArray, List.set_cons_zero, List.set_cons_succ]
        refine wpAnyH_take (i := 13) (v := ?_) rfl (by kernel_rfl) (by kernel_rfl) (by kernel_rfl) (fun _ _ _ h => h) (Or.inl ⟨by kernel_rfl, ?_⟩) hS ?_
        rotate_left
        · intro wz hSz; try dsimp only at hSz
          obtain ⟨nz, rfl⟩ := hSz
          go_simp
          all_goals with_reducible rfl
        try simp only [Act.put, List.getElem_toArray, List.getElem_cons_succ, List.getElem_cons_zero, List.setIfInBounds_toArray, List.set_cons_zero, List.set_cons_succ]
        refine wpAnyH_take (i := 14) (v := ?_) rfl (by kernel_rfl) (by kernel_rfl) (by kernel_rfl) (fun _ _ _ h => h) (Or.inl ⟨by kernel_rfl, ?_⟩) hS ?_
        rotate_left
        · intro wz hSz; try dsimp only at hSz
          obtain ⟨nz, rfl⟩ := hSz
          go_simp
          all_goals with_reducible rfl
        try simp only [Act.put, List.getElem_toArray, List.getElem_cons_succ, List.getElem_cons_zero, List.setIfInBounds_toArray, List.set_cons_zero, List.set_cons_succ]
        refine wpAnyH_take (i := 15) (v := ?_) rfl (by kernel_rfl) (by kernel_rfl) (by kernel_rfl) (fun _ _ _ h => h) (Or.inl ⟨by kernel_rfl, ?_⟩) hS ?_
        rotate_left
        · intro wz hSz; try dsimp only at hSz
          obtain ⟨nz, rfl⟩ := hSz
          go_simp
          all_goals with_reducible rfl
        try simp only [Act.put, List.getElem_toArray, List.getElem_cons_succ, List.getElem_cons_zero, List.setIfInBounds_toArray, List.set_cons_zero, List.set_cons_succ]
        refine wpAnyH_take (i := 16) (v := ?_) rfl (by kernel_rfl) (by kernel_rfl) (by kernel_rfl) (fun _ _ _ h => h) (Or.inl ⟨by kernel_rfl, ?_⟩) hS ?_
        rotate_left
        · intro wz hSz; try dsimp only at hSz
          obtain ⟨nz, rfl⟩ := hSz
          go_simp
          all_goals with_reducible rfl
        try simp only [Act.put, List.getElem_toArray, List.getElem_cons_succ, List.getElem_cons_zero, List.setIfInBounds_toArray, List.set_cons_zero, List.set_cons_succ]
        refine wpAnyH_take (i := 17) (v := ?_) rfl (by kernel_rfl) (by kernel_rfl) (by kernel_rfl) (fun _ _ _ h => h) (Or.inl ⟨by kernel_rfl, ?_⟩) hS ?_
        rotate_left
        · intro wz hSz; try dsimp only at hSz
          obtain ⟨nz, rfl⟩ := hSz
          go_simp
          all_goals with_reducible rfl
        try simp only [Act.put, List.getElem_toArray, List.getElem_cons_succ, List.getElem_cons_zero, List.setIfInBounds_toArray, List.set_cons_zero, List.set_cons_succ]
        refine wpAnyH_take (i := 18) (v := ?_) rfl (by kernel_rfl) (by kernel_rfl) (by kernel_rfl) (fun _ _ _ h => h) (Or.inl ⟨by kernel_rfl, ?_⟩) hS ?_
        rotate_left
        · intro wz hSz; try dsimp only at hSz
          obtain ⟨nz, rfl⟩ := hSz
          go_simp
          all_goals with_reducible rfl
        try simp only [Act.put, List.getElem_toArray, List.getElem_cons_succ, List.getElem_cons_zero, List.setIfInBounds_toArray, List.set_cons_zero, List.set_cons_succ]
        refine wpAnyH_take (i := 19) (v := ?_) rfl (by kernel_rfl) (by kernel_rfl) (by kernel_rfl) (fun _ _ _ h => h) (Or.inl ⟨by kernel_rfl, ?_⟩) hS ?_
        rotate_left
        · intro wz hSz; try dsimp only at hSz
          obtain ⟨nz, rfl⟩ := hSz
          go_simp
          all_goals with_reducible rfl
        try simp only [Act.put, List.getElem_toArray, List.getElem_cons_succ, List.getElem_cons_zero, List.setIfInBounds_toArray, List.set_cons_zero, List.set_cons_succ]
        refine wpAnyH_take (i := 20) (v := ?_) rfl (by kernel_rfl) (by kernel_rfl) (by kernel_rfl) (fun _ _ _ h => h) (Or.inl ⟨by kernel_rfl, ?_⟩) hS ?_
        rotate_left
        · intro wz hSz; try dsimp only at hSz
          obtain ⟨nz, rfl⟩ := hSz
          go_simp
          all_goals with_reducible rfl
        try simp only [Act.put, List.getElem_toArray, List.getElem_cons_succ, List.getElem_cons_zero, List.setIfInBounds_toArray, List.set_cons_zero, List.set_cons_succ]
        refine wpAnyH_take (i := 21) (v := ?_) rfl (by kernel_rfl) (by kernel_rfl) (by kernel_rfl) (fun _ _ _ h => h) (Or.inl ⟨by kernel_rfl, ?_⟩) hS ?_
        rotate_left
        · intro wz hSz; try dsimp only at hSz
          obtain ⟨nz, rfl⟩ := hSz
          go_simp
          all_goals with_reducible rfl
        try simp only [Act.put, List.getElem_toArray, List.getElem_cons_succ, List.getElem_cons_zero, List.setIfInBounds_toArray, List.set_cons_zero, List.set_cons_succ]
        refine wpAnyH_ready (rs := [22]) (by kernel_rfl) (by simp) (AllReadyH.cons rfl (fun K hK => ?_) AllReadyH.nil)
        go_simp
        obtain ⟨nz, hnz⟩ := hS
        try rw [hnz]
        (go_at_call 23; refine (HRR.out _).mono ?_; rintro e w4 ⟨rfl, nr, rfl⟩)
        refine hK.out _ _ ?_ (fun hSn => ?_)
        · exact ⟨_, World.drewN_drewN _ _ _⟩
        clear hK K
        have hS := hSn
        clear hSn
        try dsimp only at hS
        try simp only [Act.put, List.getElem_toArray, List.getElem_cons_succ, List.getElem_cons_zero, List.setIfInBounds_toArray, List.set_cons_zero, List.set_cons_succ]
        refine wpAnyH_take (i := 23) (v := ?_) rfl (by kernel_rfl) (by kernel_rfl) (by kernel_rfl) (fun _ _ _ h => h) (Or.inl ⟨by kernel_rfl, ?_⟩) hS ?_
        rotate_left
        · intro wz hSz; try dsimp only at hSz
          obtain ⟨nz, rfl⟩ := hSz
          go_simp
          all_goals with_reducible rfl
        try simp only [Act.put, List.getElem_toArray, List.getElem_cons_succ, List.getElem_cons_zero, List.setIfInBounds_toArray, List.set_cons_zero, List.set_cons_succ]
        refine wpAnyH_take (i := 24) (v := ?_) rfl (by kernel_rfl) (by kernel_rfl) (by kernel_rfl) (fun _ _ _ h => h) (Or.inl ⟨by kernel_rfl, ?_⟩) hS ?_
        rotate_left
        · intro wz hSz; try dsimp only at hSz
          obtain ⟨nz, rfl⟩ := hSz
          go_simp
          all_goals with_reducible rfl
        try simp only [Act.put, List.getElem_toArray, List.getElem_cons_succ, List.getElem_cons_zero, List.setIfInBounds_toArray, List.set_cons_zero, List.set_cons_succ]
        refine wpAnyH_take (i := 25) (v := ?_) rfl (by kernel_rfl) (by kernel_rfl) (by kernel_rfl) (fun _ _ _ h => h) (Or.inl ⟨by kernel_rfl, ?_⟩) hS ?_
        rotate_left
        · intro wz hSz; try dsimp only at hSz
          obtain ⟨nz, rfl⟩ := hSz
          go_simp
          all_goals with_reducible rfl
        try simp only [Act.put, List.getElem_toArray, List.getElem_cons_succ, List.getElem_cons_zero, List.setIfInBounds_toArray, List.set_cons_zero, List.set_cons_succ]
        refine wpAnyH_done (by kernel_rfl) ?_ _
        obtain ⟨nf, hnf⟩ := hS
        go_wp2
        go_roundg gk
        case measure => exact Nat.lt_succ_self _
        case rel => exact ⟨i1, rfl, by have := HI1.out; have := HI.out; omega, by first | exact (HBL.out.trans (HB2.out.mono HBL.out.size)).trans (belN _ _ _) | (rw [hnf]; exact (HBL.out.trans (HB2.out.mono HBL.out.size)).trans (belN _ _ _))⟩
    | zero =>
      have l1 : ¬ ((i : Int) < (s.length : Int)) := by omega
      obtain ⟨y0, y1, y2, y3, y4⟩ := cm_results (2, n, K, V, kb) hkr
      clear hi hkr hsr har hbl
      go_wp2_with fail
      refine (HDG.out _ _ HAR.out).mono ?_
      rintro e w3 ⟨v3, vr3, rfl, sa3, rr3, hb3⟩
      have HB3 := Lib.hid (HBR.out.trans (hb3.mono HBR.out.size))
      have HM3 := Lib.hid (HMR.out.below hb3)
      have HK3 := Lib.hid (HKR.out.below hb3 (Blk.lt HKR.out))
      have HR3 := Lib.hid rr3
      obtain ⟨ra3, rc3, rfl⟩ := rr3.form
      clear hb3 sa3 rr3 y0 y1 y2 y3 y4
      obtain ⟨y0, y1, y2, y3, y4⟩ := cm_results (2, n, K, V, kb) HK3.out
      go_wp2_with fail
      obtain ⟨W4, hW4⟩ : ∃ W4, w3.alloc (.cells #[.int .i64 K, .int .i64 V] 45) = W4 := ⟨_, rfl⟩
      have hb4 : Below w3.heap.size w3 W4 := by rw [← hW4]; exact (Below.refl _ _).alloc (Nat.le_refl _) _
      have hk4 : Blk W4 w3.heap.size 45 #[.int .i64 K, .int .i64 V] := by rw [← hW4]; exact Blk.new _ _ _
      have HRR4 := Lib.hid (rowKV _ K V w3.heap.size W4 (HR3.out.below hb4) hk4)
      have HB4 := Lib.hid (HB3.out.trans (hb4.mono HB3.out.size))
      have HM4 := Lib.hid (HM3.out.below hb4)
      have HK4 := Lib.hid (HK3.out.below hb4 (Blk.lt HK3.out))
      rw [hW4]
      clear hW4 hb4 hk4 y0 y1 y2 y3 y4
      refine HRR4.out.mono ?_
      rintro e w5 ⟨rfl, hb5⟩
      have HB5 := Lib.hid (HB4.out.trans (hb5.mono HB4.out.size))
      have HM5 := Lib.hid (HM4.out.below hb5)
      obtain ⟨y0, y1, y2, y3, y4⟩ := cm_results (2, n, K, V, kb) (HK4.out.below hb5 (Blk.lt HK4.out))
      clear hb5
      go_wp2_with fail
      refine (known8_any m _ HM5.out).mono ?_
      rintro e w6 ⟨rfl, hb6⟩
      have HB6 := Lib.hid (HB5.out.trans (hb6.mono HB5.out.size))
      clear hb6
      go_wp2
      go_ret
      exact ⟨rfl, HB6.out⟩
set_option maxHeartbeats 8000000 in
theorem ke_del (v : Value) (s : List Tb) (n : ByteArray) (K V : Int) (kb : Bool) (m : Int) (w : World) (hm : Wq m w) (h : SR w v s) (hK : i64B K) (hV : i64B V) (hl : lightS s = true) (hr : rightL s = true) (hn : n.size ≤ 30) (hT : textC (4, n, K, V, kb) ≠ []) (he : (doS s 4 n K V kb).2.2 = 0) :
    Calls Tryz.prog 7 #[v, .agg #[.int .i64 4, .string n, .int .i64 K, .int .i64 V, .bool kb]] w fun e w' => e = .returned (.bool true) ∧ Below w.heap.size w w' := by
  have ln : ¬ ((30 : Int) < (n.size : Int)) := by omega
  have HTX := Lib.hid (fun W hW => text_any (4, n, K, V, kb) m W hW (by show n.size ≤ 1000; omega) hK hV)
  obtain ⟨T, hTT⟩ : ∃ T, bb (textC (4, n, K, V, kb)) = T := ⟨_, rfl⟩
  have te := bb_emp _ hT
  rw [hTT] at te HTX
  clear hTT
  have hp := (right_iff s).1 hr
  have hf := txt_facts hT
  have hkk := hf.1
  have hq := do_right (kd := 4) (kb := kb) hp hf.2.1 hf.2.2.1 hf.2.2.2.1
  have hkeep := fun t (ht : t ∈ s) => do_keeps (kd := 4) (n := n) (K := K) (V := V) (kb := kb) ht
  have h1 := (keeps_get (kd := 4) (kb := kb) hp hf.2.1 hf.2.2.1 hf.2.2.2.1 he).2 rfl
  obtain ⟨A, r, E, hD⟩ : ∃ A r E, doS s 4 n K V kb = (A, r, E) := ⟨_, _, _, rfl⟩
  rw [hD] at he h1 hq hkeep
  simp only at he h1 hq hkeep
  have hrA := (right_iff A).2 hq
  have hfind : ∀ (i : Nat) (t : Tb), s[i]? = some t → ∃ (k : Nat) (u : Tb), findN A t.1 0 = (k : Int) ∧ A[k]? = some u ∧ (t.1 ≠ n → u.2 = t.2) := by
    intro i t ht
    obtain ⟨u, hu, hu1, hu2⟩ := hkeep t (List.mem_of_getElem? ht)
    obtain ⟨k, hk1, hk2⟩ := find_mem hq.up hu
    exact ⟨k, u, by rw [← hu1]; exact hk1, hk2, hu2⟩
  have HFI := Lib.hid hfind
  have HDO := Lib.hid (fun W hS => doQ _ v s 4 n K V kb hD hp hkk hn W hS)
  have HQ := Lib.hid hq
  have hsl := hp.len
  have HSL := Lib.hid hsl
  have HFW := Lib.hid hp.few
  subst he
  have HDG := Lib.hid (fun v' W hS => doQ _ v' A 1 n K 0 true h1 hq (by decide) hn W hS)
  clear hp hf hkk hD hkeep hfind hq h1 hsl
  have HM0 := Lib.hid hm
  have HB0 := Lib.hid (Below.refl w.heap.size w)
  have HSR := Lib.hid h
  obtain ⟨va0, vc0, rfl⟩ := h.form
  clear hm h hn hT
  go_enter Tryz.func7, Tryz.ntmps7
  go_wp2_with fail
  obtain ⟨W0, hW0⟩ : ∃ W0, w.alloc (.cells #[.int .i64 4, .string n, .int .i64 K, .int .i64 V, .bool kb] 24) = W0 := ⟨_, rfl⟩
  have hb1 : Below w.heap.size w W0 := by rw [← hW0]; exact (Below.refl _ _).alloc (Nat.le_refl _) _
  have HB1 := Lib.hid (HB0.out.trans (hb1.mono HB0.out.size))
  have HM1 := Lib.hid (HM0.out.below hb1)
  have HSR := Lib.hid (HSR.out.below hb1)
  have hk0 : Blk W0 w.heap.size 24 (cmCells (4, n, K, V, kb)) := by rw [← hW0]; exact Blk.new _ _ _
  have HK := Lib.hid hk0
  rw [hW0]
  clear hW0 hk0
  clear hb1
  refine (light8b _ s true hl _ HSR.out).mono ?_
  rintro e w2 ⟨rfl, hb2⟩
  have HB2 := Lib.hid (HB1.out.trans (hb2.mono HB1.out.size))
  have HM2 := Lib.hid (HM1.out.below hb2)
  have HSR := Lib.hid (HSR.out.below hb2)
  have HK := Lib.hid (HK.out.below hb2 (Blk.lt HK.out))
  clear hb2
  go_wp2_with fail
  refine (right8b _ s true hr _ HSR.out).mono ?_
  rintro e w3 ⟨rfl, hb3⟩
  have HB3 := Lib.hid (HB2.out.trans (hb3.mono HB2.out.size))
  have HM3 := Lib.hid (HM2.out.below hb3)
  have HSR := Lib.hid (HSR.out.below hb3)
  have HK := Lib.hid (HK.out.below hb3 (Blk.lt HK.out))
  clear hb3
  obtain ⟨y0, y1, y2, y3, y4⟩ := cm_results (4, n, K, V, kb) HK.out
  go_wp2_with fail
  refine (HTX.out _ HM3.out).mono ?_
  rintro e w4 ⟨rfl, hb4⟩
  have HB4 := Lib.hid (HB3.out.trans (hb4.mono HB3.out.size))
  have HM4 := Lib.hid (HM3.out.below hb4)
  have HSR := Lib.hid (HSR.out.below hb4)
  have HK := Lib.hid (HK.out.below hb4 (Blk.lt HK.out))
  clear y0 y1 y2 y3 y4
  obtain ⟨y0, y1, y2, y3, y4⟩ := cm_results (4, n, K, V, kb) HK.out
  clear hb4
  go_wp2_with fail
  refine (HDO.out _ HSR.out).mono ?_
  rintro e w5 ⟨va, vr, rfl, sa, rr, hb5⟩
  have HB5 := Lib.hid (HB4.out.trans (hb5.mono HB4.out.size))
  have HM5 := Lib.hid (HM4.out.below hb5)
  have HSR := Lib.hid (HSR.out.below hb5)
  have HK := Lib.hid (HK.out.below hb5 (Blk.lt HK.out))
  have HA := Lib.hid sa
  clear y0 y1 y2 y3 y4 rr
  clear hb5 sa
  go_wp2_with fail
  refine (right8b va A true hrA _ HA.out).mono ?_
  rintro e w6 ⟨rfl, hb6⟩
  have HB6 := Lib.hid (HB5.out.trans (hb6.mono HB5.out.size))
  have HM6 := Lib.hid (HM5.out.below hb6)
  have HSR := Lib.hid (HSR.out.below hb6)
  have HA := Lib.hid (HA.out.below hb6)
  have HK := Lib.hid (HK.out.below hb6 (Blk.lt HK.out))
  clear hb6
  clear hrA
  go_wp2_with fail
  go_loopg [8] s.length (fun gk u8 wx => ∃ i : Nat, u8 = .int .i64 (i : Int) ∧ i + gk = s.length ∧ Below w6.heap.size w6 wx)
  case atStart => exact ⟨0, rfl, by omega, Below.refl _ _⟩
  case round =>
    obtain ⟨i, rfl, hi, hbl⟩ := hrel
    have hkr := HK.out.below hbl (Blk.lt HK.out)
    have HKR := Lib.hid hkr
    have hsr := HSR.out.below hbl
    have HSRR := Lib.hid hsr
    have har := HA.out.below hbl
    have HAR := Lib.hid har
    have HBR := Lib.hid (HB6.out.trans (hbl.mono HB6.out.size))
    have HMR := Lib.hid (HM6.out.below hbl)
    have HBL := Lib.hid hbl
    have HI := Lib.hid hi
    cases gk with
    | succ gk =>
      have hlt : i < s.length := by omega
      obtain ⟨b, o, cp, he, hcp, hx⟩ := hsr.inv (by omega)
      injection he with ea _ ec
      subst ea ec
      obtain ⟨t, ht0⟩ : ∃ t, s[i] = t := ⟨_, rfl⟩
      have hsi : s[i]? = some t := by rw [List.getElem?_eq_getElem hlt, ht0]
      obtain ⟨x0, u, x1, hu⟩ := hx i t hsi
      obtain ⟨k, q, hk1, hk2, hk3⟩ := HFI.out i t hsi
      have hkl := (List.getElem?_eq_some_iff.1 hk2).1
      obtain ⟨ab, ao, ac, hae, hac, hax⟩ := har.inv (by omega)
      subst hae
      obtain ⟨a0, ua, a1, hua⟩ := hax k q hk2
      have HF := Lib.hid (find_any _ A t.1 wr har (by have := HQ.out.len; omega))
      rw [hk1] at HF
      have hul : q.2.length ≤ 1000000 := HQ.out.few.2 q (List.mem_of_getElem? hk2)
      have HX := Lib.hid (fun (W : World) (hW : Below wr.heap.size wr W) => (show W.cell? ⟨b, o + i * 2, none⟩ = some (.string t.1) ∧ W.cell? ⟨b, o + i * 2 + 1, none⟩ = some u ∧ W.cell? ⟨ab, ao + k * 2, none⟩ = some (.string q.1) ∧ W.cell? ⟨ab, ao + k * 2 + 1, none⟩ = some ua ∧ RR W u t.2 ∧ RR W ua q.2 from ⟨(hW.cell (p := ⟨b, o + i * 2, none⟩) (World.block_lt_of_cell? wr _ x0)).trans x0, (hW.cell (p := ⟨b, o + i * 2 + 1, none⟩) (World.block_lt_of_cell? wr _ x1)).trans x1, (hW.cell (p := ⟨ab, ao + k * 2, none⟩) (World.block_lt_of_cell? wr _ a0)).trans a0, (hW.cell (p := ⟨ab, ao + k * 2 + 1, none⟩) (World.block_lt_of_cell? wr _ a1)).trans a1, hu.below hW, hua.below hW⟩))
      have l0 : (0 : Int) ≤ (i : Int) := by omega
      have l1 : (i : Int) < (s.length : Int) := by omega
      have l2 : ¬ ((k : Int) < 0) := by omega
      have l3 : (k : Int) < (A.length : Int) := by omega
      have l4 : (0 : Int) ≤ (k : Int) := by omega
      obtain ⟨i1, hi1⟩ : ∃ i1, i + 1 = i1 := ⟨_, rfl⟩
      have wk : IntKind.i64.wrap ((i : Int) + 1) = (i1 : Int) := by rw [show (i : Int) + 1 = (i1 : Int) by omega]; exact IntWalk.i64_in _ (by have := HSL.out; omega)
      have HI1 := Lib.hid hi1
      obtain ⟨tn, tr⟩ := t
      obtain ⟨qn, qr⟩ := q
      obtain ⟨ux, uy, rfl⟩ := hu.form
      obtain ⟨uv, uw, rfl⟩ := hua.form
      simp only at x0 hk3 hul HF HX
      have tle := tl_eq tn n
      by_cases hne : tn = n
      · have e1 : (tn.toList == n.toList) = true := by rw [tle]; exact decide_eq_true hne
        have e2 : (!(tn.toList == n.toList)) = false := by rw [e1]; rfl
        clear tle hne hi hlt ht0 hsi hx hu hk1 hk2 hk3 hkl har hac hax hua a0 a1 hi1 hul hkr hsr hbl x1
        go_wp2_with fail
        refine HF.out.mono ?_
        rintro e w2 ⟨rfl, hb2⟩
        have HB2 := Lib.hid hb2
        obtain ⟨z0, z1, z2, z3, z4, z5⟩ := HX.out w2 hb2
        obtain ⟨y0, y1, y2, y3, y4⟩ := cm_results (4, n, K, V, kb) (HKR.out.below hb2 (Blk.lt HKR.out))
        clear hb2 z4 z5
        go_wp2
        refine wp_region_held_drew (S := (fun w' => ∃ nn, w' = w2.drewN nn)) (by kernel_rfl) ?_ (fun hS => ?_)
        · exact ⟨1, rfl⟩
        try dsimp only at hS
        refine wpAnyH_take (i := 0) (v := ?_) rfl (by kernel_rfl) (by kernel_rfl) (by kernel_rfl) (fun _ _ _ h => h) (Or.inl ⟨by kernel_rfl, ?_⟩) hS ?_
        rotate_left
        · intro wz hSz; try dsimp only at hSz
          obtain ⟨nz, rfl⟩ := hSz
          go_simp
          all_goals with_reducible rfl
        try simp only [Act.put, List.getElem_toArray, List.getElem_cons_succ, List.getElem_cons_zero, List.setIfInBounds_toArray, List.set_cons_zero, List.set_cons_succ]
        refine wpAnyH_take (i := 1) (v := ?_) rfl (by kernel_rfl) (by kernel_rfl) (by kernel_rfl) (fun _ _ _ h => h) (Or.inl ⟨by kernel_rfl, ?_⟩) hS ?_
        rotate_left
        · intro wz hSz; try dsimp only at hSz
          obtain ⟨nz, rfl⟩ := hSz
          go_simp
          all_goals with_reducible rfl
        try simp only [Act.put, List.getElem_toArray, List.getElem_cons_succ, List.getElem_cons_zero, List.setIfInBounds_toArray, List.set_cons_zero, List.set_cons_succ]
        refine wpAnyH_take (i := 2) (v := ?_) rfl (by kernel_rfl) (by kernel_rfl) (by kernel_rfl) (fun _ _ _ h => h) (Or.inl ⟨by kernel_rfl, ?_⟩) hS ?_
        rotate_left
        · intro wz hSz; try dsimp only at hSz
          obtain ⟨nz, rfl⟩ := hSz
          go_simp
          all_goals with_reducible rfl
        try simp only [Act.put, List.getElem_toArray, List.getElem_cons_succ, List.getElem_cons_zero, List.setIfInBounds_toArray, List.set_cons_zero, List.set_cons_succ]
        refine wpAnyH_take (i := 3) (v := ?_) rfl (by kernel_rfl) (by kernel_rfl) (by kernel_rfl) (fun _ _ _ h => h) (Or.inl ⟨by kernel_rfl, ?_⟩) hS ?_
        rotate_left
        · intro wz hSz; try dsimp only at hSz
          obtain ⟨nz, rfl⟩ := hSz
          go_simp
          all_goals with_reducible rfl
        try simp only [Act.put, List.getElem_toArray, List.getElem_cons_succ, List.getElem_cons_zero, List.setIfInBounds_toArray, List.set_cons_zero, List.set_cons_succ]
        refine wpAnyH_take (i := 4) (v := ?_) rfl (by kernel_rfl) (by kernel_rfl) (by kernel_rfl) (fun _ _ _ h => h) (Or.inl ⟨by kernel_rfl, ?_⟩) hS ?_
        rotate_left
        · intro wz hSz; try dsimp only at hSz
          obtain ⟨nz, rfl⟩ := hSz
          go_simp
          all_goals with_reducible rfl
        try simp only [Act.put, List.getElem_toArray, List.getElem_cons_succ, List.getElem_cons_zero, List.setIfInBounds_toArray, List.set_cons_zero, List.set_cons_succ]
        refine wpAnyH_take (i := 5) (v := ?_) rfl (by kernel_rfl) (by kernel_rfl) (by kernel_rfl) (fun _ _ _ h => h) (Or.inl ⟨by kernel_rfl, ?_⟩) hS ?_
        rotate_left
        · intro wz hSz; try dsimp only at hSz
          obtain ⟨nz, rfl⟩ := hSz
          go_simp
          all_goals with_reducible rfl
        try simp only [Act.put, List.getElem_toArray, List.getElem_cons_succ, List.getElem_cons_zero, List.setIfInBounds_toArray, List.set_cons_zero, List.set_cons_succ]
        refine wpAnyH_take (i := 6) (v := ?_) rfl (by kernel_rfl) (by kernel_rfl) (by kernel_rfl) (fun _ _ _ h => h) (Or.inl ⟨by kernel_rfl, ?_⟩) hS ?_
        rotate_left
        · intro wz hSz; try dsimp only at hSz
          obtain ⟨nz, rfl⟩ := hSz
          go_simp
          all_goals with_reducible rfl
        try simp only [Act.put, List.getElem_toArray, List.getElem_cons_succ, List.getElem_cons_zero, List.setIfInBounds_toArray, List.set_cons_zero, List.set_cons_succ]
        refine wpAnyH_take (i := 7) (v := ?_) rfl (by kernel_rfl) (by kernel_rfl) (by kernel_rfl) (fun _ _ _ h => h) (Or.inl ⟨by kernel_rfl, ?_⟩) hS ?_
        rotate_left
        · intro wz hSz; try dsimp only at hSz
          obtain ⟨nz, rfl⟩ := hSz
          go_simp
          all_goals with_reducible rfl
        try simp only [Act.put, List.getElem_toArray, List.getElem_cons_succ, List.getElem_cons_zero, List.setIfInBounds_toArray, List.set_cons_zero, List.set_cons_succ]
        refine wpAnyH_take (i := 8) (v := ?_) rfl (by kernel_rfl) (by kernel_rfl) (by kernel_rfl) (fun _ _ _ h => h) (Or.inl ⟨by kernel_rfl, ?_⟩) hS ?_
        rotate_left
        · intro wz hSz; try dsimp only at hSz
          obtain ⟨nz, rfl⟩ := hSz
          go_simp
          all_goals with_reducible rfl
        try simp only [Act.put, List.getElem_toArray, List.getElem_cons_succ, List.getElem_cons_zero, List.setIfInBounds_toArray, List.set_cons_zero, List.set_cons_succ]
        refine wpAnyH_take (i := 9) (v := ?_) rfl (by kernel_rfl) (by kernel_rfl) (by kernel_rfl) (fun _ _ _ h => h) (Or.inl ⟨by kernel_rfl, ?_⟩) hS ?_
        rotate_left
        · intro wz hSz; try dsimp only at hSz
          obtain ⟨nz, rfl⟩ := hSz
          go_simp
          all_goals with_reducible rfl
        try simp only [Act.put, List.getElem_toArray, List.getElem_cons_succ, List.getElem_cons_zero, List.setIfInBounds_toArray, List.set_cons_zero, List.set_cons_succ]
        refine wpAnyH_take (i := 10) (v := ?_) rfl (by kernel_rfl) (by kernel_rfl) (by kernel_rfl) (fun _ _ _ h => h) (Or.inl ⟨by kernel_rfl, ?_⟩) hS ?_
        rotate_left
        · intro wz hSz; try dsimp only at hSz
          obtain ⟨nz, rfl⟩ := hSz
          go_simp
          all_goals with_reducible rfl
        try simp only [Act.put, List.getElem_toArray, List.getElem_cons_succ, List.getElem_cons_zero, List.setIfInBounds_toArray, List.set_cons_zero, List.set_cons_succ]
        refine wpAnyH_take (i := 11) (v := ?_) rfl (by kernel_rfl) (by kernel_rfl) (by kernel_rfl) (fun _ _ _ h => h) (Or.inl ⟨by kernel_rfl, ?_⟩) hS ?_
        rotate_left
        · intro wz hSz; try dsimp only at hSz
          obtain ⟨nz, rfl⟩ := hSz
          go_simp
          all_goals with_reducible rfl
        try simp only [Act.put, List.getElem_toArray, List.getElem_cons_succ, List.getElem_cons_zero, List.setIfInBounds_toArray, List.set_cons_zero, List.set_cons_succ]
        refine wpAnyH_take (i := 12) (v := undef) rfl (by kernel_rfl) (by kernel_rfl) (by kernel_rfl) (fun _ _ _ h => h) (Or.inr ⟨by kernel_rfl, rfl⟩) hS ?_
        try simp only [Act.put, List.getElem_toArray, List.getElem_cons_succ, List.getElem_cons_zero, List.setIfInBounds_toArray, List.set_cons_zero, List.set_cons_succ]
        refine wpAnyH_take (i := 13) (v := undef) rfl (by kernel_rfl) (by kernel_rfl) (by kernel_rfl) (fun _ _ _ h => h) (Or.inr ⟨by kernel_rfl, rfl⟩) hS ?_
        try simp only [Act.put, List.getElem_toArray, List.getElem_cons_succ, List.getElem_cons_zero, List.setIfInBounds_toArray, List.set_cons_zero, List.set_cons_succ]
        refine wpAnyH_take (i := 14) (v := undef) rfl (by kernel_rfl) (by kernel_rfl) (by kernel_rfl) (fun _ _ _ h => h) (Or.inr ⟨by kernel_rfl, rfl⟩) hS ?_
        try simp only [Act.put, List.getElem_toArray, List.getElem_cons_succ, List.getElem_cons_zero, List.setIfInBounds_toArray, List.set_cons_zero, List.set_cons_succ]
        refine wpAnyH_take (i := 15) (v := undef) rfl (by kernel_rfl) (by kernel_rfl) (by kernel_rfl) (fun _ _ _ h => h) (Or.inr ⟨by kernel_rfl, rfl⟩) hS ?_
        try simp only [Act.put, List.getElem_toArray, List.getElem_cons_succ, List.getElem_cons_zero, List.setIfInBounds_toArray, List.set_cons_zero, List.set_cons_succ]
        refine wpAnyH_take (i := 16) (v := undef) rfl (by kernel_rfl) (by kernel_rfl) (by kernel_rfl) (fun _ _ _ h => h) (Or.inr ⟨by kernel_rfl, rfl⟩) hS ?_
        try simp only [Act.put, List.getElem_toArray, List.getElem_cons_succ, List.getElem_cons_zero, List.setIfInBounds_toArray, List.set_cons_zero, List.set_cons_succ]
        refine wpAnyH_take (i := 17) (v := undef) rfl (by kernel_rfl) (by kernel_rfl) (by kernel_rfl) (fun _ _ _ h => h) (Or.inr ⟨by kernel_rfl, rfl⟩) hS ?_
        try simp only [Act.put, List.getElem_toArray, List.getElem_cons_succ, List.getElem_cons_zero, List.setIfInBounds_toArray, List.set_cons_zero, List.set_cons_succ]
        refine wpAnyH_take (i := 18) (v := undef) rfl (by kernel_rfl) (by kernel_rfl) (by kernel_rfl) (fun _ _ _ h => h) (Or.inr ⟨by kernel_rfl, rfl⟩) hS ?_
        try simp only [Act.put, List.getElem_toArray, List.getElem_cons_succ, List.getElem_cons_zero, List.setIfInBounds_toArray, List.set_cons_zero, List.set_cons_succ]
        refine wpAnyH_take (i := 19) (v := undef) rfl (by kernel_rfl) (by kernel_rfl) (by kernel_rfl) (fun _ _ _ h => h) (Or.inr ⟨by kernel_rfl, rfl⟩) hS ?_
        try simp only [Act.put, List.getElem_toArray, List.getElem_cons_succ, List.getElem_cons_zero, List.setIfInBounds_toArray, List.set_cons_zero, List.set_cons_succ]
        refine wpAnyH_take (i := 20) (v := undef) rfl (by kernel_rfl) (by kernel_rfl) (by kernel_rfl) (fun _ _ _ h => h) (Or.inr ⟨by kernel_rfl, rfl⟩) hS ?_
        try simp only [Act.put, List.getElem_toArray, List.getElem_cons_succ, List.getElem_cons_zero, List.setIfInBounds_toArray, List.set_cons_zero, List.set_cons_succ]
        refine wpAnyH_take (i := 21) (v := undef) rfl (by kernel_rfl) (by kernel_rfl) (by kernel_rfl) (fun _ _ _ h => h) (Or.inr ⟨by kernel_rfl, rfl⟩) hS ?_
        try simp only [Act.put, List.getElem_toArray, List.getElem_cons_succ, List.getElem_cons_zero, List.setIfInBounds_toArray, List.set_cons_zero, List.set_cons_succ]
        refine wpAnyH_take (i := 22) (v := undef) rfl (by kernel_rfl) (by kernel_rfl) (by kernel_rfl) (fun _ _ _ h => h) (Or.inr ⟨by kernel_rfl, rfl⟩) hS ?_
        try simp only [Act.put, List.getElem_toArray, List.getElem_cons_succ, List.getElem_cons_zero, List.setIfInBounds_toArray, List.set_cons_zero, List.set_cons_succ]
        refine wpAnyH_take (i := 23) (v := undef) rfl (by kernel_rfl) (by kernel_rfl) (by kernel_rfl) (fun _ _ _ h => h) (Or.inr ⟨by kernel_rfl, rfl⟩) hS ?_
        try simp only [Act.put, List.getElem_toArray, List.getElem_cons_succ, List.getElem_cons_zero, List.setIfInBounds_toArray, List.set_cons_zero, List.set_cons_succ]
        refine wpAnyH_take (i := 24) (v := ?_) rfl (by kernel_rfl) (by kernel_rfl) (by kernel_rfl) (fun _ _ _ h => h) (Or.inl ⟨by kernel_rfl, ?_⟩) hS ?_
        rotate_left
        · intro wz hSz; try dsimp only at hSz
          obtain ⟨nz, rfl⟩ := hSz
          go_simp
          all_goals with_reducible rfl
        try simp only [Act.put, List.getElem_toArray, List.getElem_cons_succ, List.getElem_cons_zero, List.setIfInBounds_toArray, List.set_cons_zero, List.set_cons_succ]
        refine wpAnyH_take (i := 25) (v := ?_) rfl (by kernel_rfl) (by kernel_rfl) (by kernel_rfl) (fun _ _ _ h => h) (Or.inl ⟨by kernel_rfl, ?_⟩) hS ?_
        rotate_left
        · intro wz hSz; try dsimp only at hSz
          obtain ⟨nz, rfl⟩ := hSz
          go_simp
          all_goals with_reducible rfl
        try simp only [Act.put, List.getElem_toArray, List.getElem_cons_succ, List.getElem_cons_zero, List.setIfInBounds_toArray, List.set_cons_zero, List.set_cons_succ]
        refine wpAnyH_done (by kernel_rfl) ?_ _
        obtain ⟨nf, hnf⟩ := hS
        go_wp2
        go_roundg gk
        case measure => exact Nat.lt_succ_self _
        case rel => exact ⟨i1, rfl, by have := HI1.out; have := HI.out; omega, by first | exact (HBL.out.trans (HB2.out.mono HBL.out.size)).trans (belN _ _ _) | (rw [hnf]; exact (HBL.out.trans (HB2.out.mono HBL.out.size)).trans (belN _ _ _))⟩
      · have e1 : (tn.toList == n.toList) = false := by rw [tle]; exact decide_eq_false hne
        have e2 : (!(tn.toList == n.toList)) = true := by rw [e1]; rfl
        have hqt : qr = tr := hk3 hne
        subst hqt
        have HUL := Lib.hid hul
        clear tle hne hi hlt ht0 hsi hx hu hk1 hk2 hk3 hkl har hac hax hua a0 a1 hi1 hul hkr hsr hbl x1
        go_wp2_with fail
        refine HF.out.mono ?_
        rintro e w2 ⟨rfl, hb2⟩
        have HB2 := Lib.hid hb2
        obtain ⟨z0, z1, z2, z3, z4, z5⟩ := HX.out w2 hb2
        obtain ⟨y0, y1, y2, y3, y4⟩ := cm_results (4, n, K, V, kb) (HKR.out.below hb2 (Blk.lt HKR.out))
        have HRR := Lib.hid (fun nn => rrowsT _ _ qr (w2.drewN nn) (z5.drewN nn) (z4.drewN nn) HUL.out)
        clear hb2 z4 z5
        go_wp2
        refine wp_region_held_drew (S := (fun w' => ∃ nn, w' = w2.drewN nn)) (by kernel_rfl) ?_ (fun hS => ?_)
        · exact ⟨1, rfl⟩
        try dsimp only at hS
        refine wpAnyH_take (i := 0) (v := ?_) rfl (by kernel_rfl) (by kernel_rfl) (by kernel_rfl) (fun _ _ _ h => h) (Or.inl ⟨by kernel_rfl, ?_⟩) hS ?_
        rotate_left
        · intro wz hSz; try dsimp only at hSz
          obtain ⟨nz, rfl⟩ := hSz
          go_simp
          all_goals with_reducible rfl
        try simp only [Act.put, List.getElem_toArray, List.getElem_cons_succ, List.getElem_cons_zero, List.setIfInBounds_toArray, List.set_cons_zero, List.set_cons_succ]
        refine wpAnyH_take (i := 1) (v := ?_) rfl (by kernel_rfl) (by kernel_rfl) (by kernel_rfl) (fun _ _ _ h => h) (Or.inl ⟨by kernel_rfl, ?_⟩) hS ?_
        rotate_left
        · intro wz hSz; try dsimp only at hSz
          obtain ⟨nz, rfl⟩ := hSz
          go_simp
          all_goals with_reducible rfl
        try simp only [Act.put, List.getElem_toArray, List.getElem_cons_succ, List.getElem_cons_zero, List.setIfInBounds_toArray, List.set_cons_zero, List.set_cons_succ]
        refine wpAnyH_take (i := 2) (v := ?_) rfl (by kernel_rfl) (by kernel_rfl) (by kernel_rfl) (fun _ _ _ h => h) (Or.inl ⟨by kernel_rfl, ?_⟩) hS ?_
        rotate_left
        · intro wz hSz; try dsimp only at hSz
          obtain ⟨nz, rfl⟩ := hSz
          go_simp
          all_goals with_reducible rfl
        try simp only [Act.put, List.getElem_toArray, List.getElem_cons_succ, List.getElem_cons_zero, List.setIfInBounds_toArray, List.set_cons_zero, List.set_cons_succ]
        refine wpAnyH_take (i := 3) (v := ?_) rfl (by kernel_rfl) (by kernel_rfl) (by kernel_rfl) (fun _ _ _ h => h) (Or.inl ⟨by kernel_rfl, ?_⟩) hS ?_
        rotate_left
        · intro wz hSz; try dsimp only at hSz
          obtain ⟨nz, rfl⟩ := hSz
          go_simp
          all_goals with_reducible rfl
        try simp only [Act.put, List.getElem_toArray, List.getElem_cons_succ, List.getElem_cons_zero, List.setIfInBounds_toArray, List.set_cons_zero, List.set_cons_succ]
        refine wpAnyH_take (i := 4) (v := ?_) rfl (by kernel_rfl) (by kernel_rfl) (by kernel_rfl) (fun _ _ _ h => h) (Or.inl ⟨by kernel_rfl, ?_⟩) hS ?_
        rotate_left
        · intro wz hSz; try dsimp only at hSz
          obtain ⟨nz, rfl⟩ := hSz
          go_simp
          all_goals with_reducible rfl
        try simp only [Act.put, List.getElem_toArray, List.getElem_cons_succ, List.getElem_cons_zero, List.setIfInBounds_toArray, List.set_cons_zero, List.set_cons_succ]
        refine wpAnyH_take (i := 5) (v := ?_) rfl (by kernel_rfl) (by kernel_rfl) (by kernel_rfl) (fun _ _ _ h => h) (Or.inl ⟨by kernel_rfl, ?_⟩) hS ?_
        rotate_left
        · intro wz hSz; try dsimp only at hSz
          obtain ⟨nz, rfl⟩ := hSz
          go_simp
          all_goals with_reducible rfl
        try simp only [Act.put, List.getElem_toArray, List.getElem_cons_succ, List.getElem_cons_zero, List.setIfInBounds_toArray, List.set_cons_zero, List.set_cons_succ]
        refine wpAnyH_take (i := 6) (v := ?_) rfl (by kernel_rfl) (by kernel_rfl) (by kernel_rfl) (fun _ _ _ h => h) (Or.inl ⟨by kernel_rfl, ?_⟩) hS ?_
        rotate_left
        · intro wz hSz; try dsimp only at hSz
          obtain ⟨nz, rfl⟩ := hSz
          go_simp
          all_goals with_reducible rfl
        try simp only [Act.put, List.getElem_toArray, List.getElem_cons_succ, List.getElem_cons_zero, List.setIfInBounds_toArray, List.set_cons_zero, List.set_cons_succ]
        refine wpAnyH_take (i := 7) (v := ?_) rfl (by kernel_rfl) (by kernel_rfl) (by kernel_rfl) (fun _ _ _ h => h) (Or.inl ⟨by kernel_rfl, ?_⟩) hS ?_
        rotate_left
        · intro wz hSz; try dsimp only at hSz
          obtain ⟨nz, rfl⟩ := hSz
          go_simp
          all_goals with_reducible rfl
        try simp only [Act.put, List.getElem_toArray, List.getElem_cons_succ, List.getElem_cons_zero, List.setIfInBounds_toArray, List.set_cons_zero, List.set_cons_succ]
        refine wpAnyH_take (i := 8) (v := ?_) rfl (by kernel_rfl) (by kernel_rfl) (by kernel_rfl) (fun _ _ _ h => h) (Or.inl ⟨by kernel_rfl, ?_⟩) hS ?_
        rotate_left
        · intro wz hSz; try dsimp only at hSz
          obtain ⟨nz, rfl⟩ := hSz
          go_simp
          all_goals with_reducible rfl
        try simp only [Act.put, List.getElem_toArray, List.getElem_cons_succ, List.getElem_cons_zero, List.setIfInBounds_toArray, List.set_cons_zero, List.set_cons_succ]
        refine wpAnyH_take (i := 9) (v := ?_) rfl (by kernel_rfl) (by kernel_rfl) (by kernel_rfl) (fun _ _ _ h => h) (Or.inl ⟨by kernel_rfl, ?_⟩) hS ?_
        rotate_left
        · intro wz hSz; try dsimp only at hSz
          obtain ⟨nz, rfl⟩ := hSz
          go_simp
          all_goals with_reducible rfl
        try simp only [Act.put, List.getElem_toArray, List.getElem_cons_succ, List.getElem_cons_zero, List.setIfInBounds_toArray, List.set_cons_zero, List.set_cons_succ]
        refine wpAnyH_take (i := 10) (v := ?_) rfl (by kernel_rfl) (by kernel_rfl) (by kernel_rfl) (fun _ _ _ h => h) (Or.inl ⟨by kernel_rfl, ?_⟩) hS ?_
        rotate_left
        · intro wz hSz; try dsimp only at hSz
          obtain ⟨nz, rfl⟩ := hSz
          go_simp
          all_goals with_reducible rfl
        try simp only [Act.put, List.getElem_toArray, List.getElem_cons_succ, List.getElem_cons_zero, List.setIfInBounds_toArray, List.set_cons_zero, List.set_cons_succ]
        refine wpAnyH_take (i := 11) (v := ?_) rfl (by kernel_rfl) (by kernel_rfl) (by kernel_rfl) (fun _ _ _ h => h) (Or.inl ⟨by kernel_rfl, ?_⟩) hS ?_
        rotate_left
        · intro wz hSz; try dsimp only at hSz
          obtain ⟨nz, rfl⟩ := hSz
          go_simp
          all_goals with_reducible rfl
        try simp only [Act.put, List.getElem_toArray, List.getElem_cons_succ, List.getElem_cons_zero, List.setIfInBounds_toArray, List.set_cons_zero, List.set_cons_succ]
        refine wpAnyH_take (i := 12) (v := ?_) rfl (by kernel_rfl) (by kernel_rfl) (by kernel_rfl) (fun _ _ _ h => h) (Or.inl ⟨by kernel_rfl, ?_⟩) hS ?_
        rotate_left
        · intro wz hSz; try dsimp only at hSz
          obtain ⟨nz, rfl⟩ := hSz
          go_simp
          all_goals with_reducible rfl
        try simp only [Act.put, List.getElem_toArray, List.getElem_cons_succ, List.getElem_cons_zero, List.setIfInBounds_toArray, List.set_cons_zero, List.set_cons_succ]
        refine wpAnyH_take (i := 13) (v := ?_) rfl (by kernel_rfl) (by kernel_rfl) (by kernel_rfl) (fun _ _ _ h => h) (Or.inl ⟨by kernel_rfl, ?_⟩) hS ?_
        rotate_left
        · intro wz hSz; try dsimp only at hSz
          obtain ⟨nz, rfl⟩ := hSz
          go_simp
          all_goals with_reducible rfl
        try simp only [Act.put, List.getElem_toArray, List.getElem_cons_succ, List.getElem_cons_zero, List.setIfInBounds_toArray, List.set_cons_zero, List.set_cons_succ]
        refine wpAnyH_take (i := 14) (v := ?_) rfl (by kernel_rfl) (by kernel_rfl) (by kernel_rfl) (fun _ _ _ h => h) (Or.inl ⟨by kernel_rfl, ?_⟩) hS ?_
        rotate_left
        · intro wz hSz; try dsimp only at hSz
          obtain ⟨nz, rfl⟩ := hSz
          go_simp
          all_goals with_reducible rfl
        try simp only [Act.put, List.getElem_toArray, List.getElem_cons_succ, List.getElem_cons_zero, List.setIfInBounds_toArray, List.set_cons_zero, List.set_cons_succ]
        refine wpAnyH_take (i := 15) (v := ?_) rfl (by kernel_rfl) (by kernel_rfl) (by kernel_rfl) (fun _ _ _ h => h) (Or.inl ⟨by kernel_rfl, ?_⟩) hS ?_
        rotate_left
        · intro wz hSz; try dsimp only at hSz
          obtain ⟨nz, rfl⟩ := hSz
          go_simp
          all_goals with_reducible rfl
        try simp only [Act.put, List.getElem_toArray, List.getElem_cons_succ, List.getElem_cons_zero, List.setIfInBounds_toArray, List.set_cons_zero, List.set_cons_succ]
        refine wpAnyH_take (i := 16) (v := ?_) rfl (by kernel_rfl) (by kernel_rfl) (by kernel_rfl) (fun _ _ _ h => h) (Or.inl ⟨by kernel_rfl, ?_⟩) hS ?_
        rotate_left
        · intro wz hSz; try dsimp only at hSz
          obtain ⟨nz, rfl⟩ := hSz
          go_simp
          all_goals with_reducible rfl
        try simp only [Act.put, List.getElem_toArray, List.getElem_cons_succ, List.getElem_cons_zero, List.setIfInBounds_toArray, List.set_cons_zero, List.set_cons_succ]
        refine wpAnyH_take (i := 17) (v := ?_) rfl (by kernel_rfl) (by kernel_rfl) (by kernel_rfl) (fun _ _ _ h => h) (Or.inl ⟨by kernel_rfl, ?_⟩) hS ?_
        rotate_left
        · intro wz hSz; try dsimp only at hSz
          obtain ⟨nz, rfl⟩ := hSz
          go_simp
          all_goals with_reducible rfl
        try simp only [Act.put, List.getElem_toArray, List.getElem_cons_succ, List.getElem_cons_zero, List.setIfInBounds_toArray, List.set_cons_zero, List.set_cons_succ]
        refine wpAnyH_take (i := 18) (v := ?_) rfl (by kernel_rfl) (by kernel_rfl) (by kernel_rfl) (fun _ _ _ h => h) (Or.inl ⟨by kernel_rfl, ?_⟩) hS ?_
        rotate_left
        · intro wz hSz; try dsimp only at hSz
          obtain ⟨nz, rfl⟩ := hSz
          go_simp
          all_goals with_reducible rfl
        try simp only [Act.put, List.getElem_toArray, List.getElem_cons_succ, List.getElem_cons_zero, List.setIfInBounds_toArray, List.set_cons_zero, List.set_cons_succ]
        refine wpAnyH_take (i := 19) (v := ?_) rfl (by kernel_rfl) (by kernel_rfl) (by kernel_rfl) (fun _ _ _ h => h) (Or.inl ⟨by kernel_rfl, ?_⟩) hS ?_
        rotate_left
        · intro wz hSz; try dsimp only at hSz
          obtain ⟨nz, rfl⟩ := hSz
          go_simp
          all_goals with_reducible rfl
        try simp only [Act.put, List.getElem_toArray, List.getElem_cons_succ, List.getElem_cons_zero, List.setIfInBounds_toArray, List.set_cons_zero, List.set_cons_succ]
        refine wpAnyH_take (i := 20) (v := ?_) rfl (by kernel_rfl) (by kernel_rfl) (by kernel_rfl) (fun _ _ _ h => h) (Or.inl ⟨by kernel_rfl, ?_⟩) hS ?_
        rotate_left
        · intro wz hSz; try dsimp only at hSz
          obtain ⟨nz, rfl⟩ := hSz
          go_simp
          all_goals with_reducible rfl
        try simp only [Act.put, List.getElem_toArray, List.getElem_cons_succ, List.getElem_cons_zero, List.setIfInBounds_toArray, List.set_cons_zero, List.set_cons_succ]
        refine wpAnyH_take (i := 21) (v := ?_) rfl (by kernel_rfl) (by kernel_rfl) (by kernel_rfl) (fun _ _ _ h => h) (Or.inl ⟨by kernel_rfl, ?_⟩) hS ?_
        rotate_left
        · intro wz hSz; try dsimp only at hSz
          obtain ⟨nz, rfl⟩ := hSz
          go_simp
          all_goals with_reducible rfl
        try simp only [Act.put, List.getElem_toArray, List.getElem_cons_succ, List.getElem_cons_zero, List.setIfInBounds_toArray, List.set_cons_zero, List.set_cons_succ]
        refine wpAnyH_ready (rs := [22]) (by kernel_rfl) (by simp) (AllReadyH.cons rfl (fun K hK => ?_) AllReadyH.nil)
        go_simp
        obtain ⟨nz, hnz⟩ := hS
        try rw [hnz]
        (go_at_call 23; refine (HRR.out _).mono ?_; rintro e w4 ⟨rfl, nr, rfl⟩)
        refine hK.out _ _ ?_ (fun hSn => ?_)
        · exact ⟨_, World.drewN_drewN _ _ _⟩
        clear hK K
        have hS := hSn
        clear hSn
        try dsimp only at hS
        try simp only [Act.put, List.getElem_toArray, List.getElem_cons_succ, List.getElem_cons_zero, List.setIfInBounds_toArray, List.set_cons_zero, List.set_cons_succ]
        refine wpAnyH_take (i := 23) (v := ?_) rfl (by kernel_rfl) (by kernel_rfl) (by kernel_rfl) (fun _ _ _ h => h) (Or.inl ⟨by kernel_rfl, ?_⟩) hS ?_
        rotate_left
        · intro wz hSz; try dsimp only at hSz
          obtain ⟨nz, rfl⟩ := hSz
          go_simp
          all_goals with_reducible rfl
        try simp only [Act.put, List.getElem_toArray, List.getElem_cons_succ, List.getElem_cons_zero, List.setIfInBounds_toArray, List.set_cons_zero, List.set_cons_succ]
        refine wpAnyH_take (i := 24) (v := ?_) rfl (by kernel_rfl) (by kernel_rfl) (by kernel_rfl) (fun _ _ _ h => h) (Or.inl ⟨by kernel_rfl, ?_⟩) hS ?_
        rotate_left
        · intro wz hSz; try dsimp only at hSz
          obtain ⟨nz, rfl⟩ := hSz
          go_simp
          all_goals with_reducible rfl
        try simp only [Act.put, List.getElem_toArray, List.getElem_cons_succ, List.getElem_cons_zero, List.setIfInBounds_toArray, List.set_cons_zero, List.set_cons_succ]
        refine wpAnyH_take (i := 25) (v := ?_) rfl (by kernel_rfl) (by kernel_rfl) (by kernel_rfl) (fun _ _ _ h => h) (Or.inl ⟨by kernel_rfl, ?_⟩) hS ?_
        rotate_left
        · intro wz hSz; try dsimp only at hSz
          obtain ⟨nz, rfl⟩ := hSz
          go_simp
          all_goals with_reducible rfl
        try simp only [Act.put, List.getElem_toArray, List.getElem_cons_succ, List.getElem_cons_zero, List.setIfInBounds_toArray, List.set_cons_zero, List.set_cons_succ]
        refine wpAnyH_done (by kernel_rfl) ?_ _
        obtain ⟨nf, hnf⟩ := hS
        go_wp2
        go_roundg gk
        case measure => exact Nat.lt_succ_self _
        case rel => exact ⟨i1, rfl, by have := HI1.out; have := HI.out; omega, by first | exact (HBL.out.trans (HB2.out.mono HBL.out.size)).trans (belN _ _ _) | (rw [hnf]; exact (HBL.out.trans (HB2.out.mono HBL.out.size)).trans (belN _ _ _))⟩
    | zero =>
      have l1 : ¬ ((i : Int) < (s.length : Int)) := by omega
      obtain ⟨y0, y1, y2, y3, y4⟩ := cm_results (4, n, K, V, kb) hkr
      clear hi hkr hsr har hbl
      go_wp2_with fail
      refine (HDG.out _ _ HAR.out).mono ?_
      rintro e w3 ⟨v3, vr3, rfl, sa3, rr3, hb3⟩
      have HB3 := Lib.hid (HBR.out.trans (hb3.mono HBR.out.size))
      have HM3 := Lib.hid (HMR.out.below hb3)
      have HK3 := Lib.hid (HKR.out.below hb3 (Blk.lt HKR.out))
      have HR3 := Lib.hid rr3
      obtain ⟨ra3, rc3, rfl⟩ := rr3.form
      clear hb3 sa3 rr3 y0 y1 y2 y3 y4
      obtain ⟨y0, y1, y2, y3, y4⟩ := cm_results (4, n, K, V, kb) HK3.out
      go_wp2_with fail
      refine (known8_any m _ HM3.out).mono ?_
      rintro e w6 ⟨rfl, hb6⟩
      have HB6 := Lib.hid (HB3.out.trans (hb6.mono HB3.out.size))
      clear hb6
      go_wp2
      go_ret
      exact ⟨rfl, HB6.out⟩
set_option maxHeartbeats 8000000 in
theorem ke_else (v : Value) (s : List Tb) (kd : Int) (n : ByteArray) (K V : Int) (kb : Bool) (m : Int) (w : World) (hm : Wq m w) (h : SR w v s) (hK : i64B K) (hV : i64B V) (hl : lightS s = true) (hr : rightL s = true) (hn : n.size ≤ 30) (hT : textC (kd, n, K, V, kb) ≠ []) (h2 : kd ≠ 2) (h4 : kd ≠ 4) (he : (doS s kd n K V kb).2.2 = 0) :
    Calls Tryz.prog 7 #[v, .agg #[.int .i64 kd, .string n, .int .i64 K, .int .i64 V, .bool kb]] w fun e w' => e = .returned (.bool true) ∧ Below w.heap.size w w' := by
  have ln : ¬ ((30 : Int) < (n.size : Int)) := by omega
  have HTX := Lib.hid (fun W hW => text_any (kd, n, K, V, kb) m W hW (by show n.size ≤ 1000; omega) hK hV)
  obtain ⟨T, hTT⟩ : ∃ T, bb (textC (kd, n, K, V, kb)) = T := ⟨_, rfl⟩
  have te := bb_emp _ hT
  rw [hTT] at te HTX
  clear hTT
  have hp := (right_iff s).1 hr
  have hf := txt_facts hT
  have hkk := hf.1
  have hq := do_right (kd := kd) (kb := kb) hp hf.2.1 hf.2.2.1 hf.2.2.2.1
  have hkeep := fun t (ht : t ∈ s) => do_keeps (kd := kd) (n := n) (K := K) (V := V) (kb := kb) ht
  have n2 : (kd == 2) = false := by rw [beq_eq_false_iff_ne]; exact h2
  have m2 : ¬ (kd = 2) := h2
  have n4 : (kd != 4) = true := by rw [bne_iff_ne]; exact h4
  have m4 : ¬ (kd = 4) := h4
  obtain ⟨A, r, E, hD⟩ : ∃ A r E, doS s kd n K V kb = (A, r, E) := ⟨_, _, _, rfl⟩
  rw [hD] at he hq hkeep
  simp only at he hq hkeep
  have hrA := (right_iff A).2 hq
  have hfind : ∀ (i : Nat) (t : Tb), s[i]? = some t → ∃ (k : Nat) (u : Tb), findN A t.1 0 = (k : Int) ∧ A[k]? = some u ∧ (t.1 ≠ n → u.2 = t.2) := by
    intro i t ht
    obtain ⟨u, hu, hu1, hu2⟩ := hkeep t (List.mem_of_getElem? ht)
    obtain ⟨k, hk1, hk2⟩ := find_mem hq.up hu
    exact ⟨k, u, by rw [← hu1]; exact hk1, hk2, hu2⟩
  have HFI := Lib.hid hfind
  have HDO := Lib.hid (fun W hS => doQ _ v s kd n K V kb hD hp hkk hn W hS)
  have HQ := Lib.hid hq
  have hsl := hp.len
  have HSL := Lib.hid hsl
  have HFW := Lib.hid hp.few
  subst he
  obtain ⟨D2, H2⟩ : ∃ D2, doS A 1 n K 0 true = D2 := ⟨_, rfl⟩
  have HDG := Lib.hid (fun v' W hS => doQ D2 v' A 1 n K 0 true H2 hq (by decide) hn W hS)
  clear hp hf hkk hD hkeep hfind hq H2 hsl h2 h4
  have HM0 := Lib.hid hm
  have HB0 := Lib.hid (Below.refl w.heap.size w)
  have HSR := Lib.hid h
  obtain ⟨va0, vc0, rfl⟩ := h.form
  clear hm h hn hT
  go_enter Tryz.func7, Tryz.ntmps7
  go_wp2_with fail
  obtain ⟨W0, hW0⟩ : ∃ W0, w.alloc (.cells #[.int .i64 kd, .string n, .int .i64 K, .int .i64 V, .bool kb] 24) = W0 := ⟨_, rfl⟩
  have hb1 : Below w.heap.size w W0 := by rw [← hW0]; exact (Below.refl _ _).alloc (Nat.le_refl _) _
  have HB1 := Lib.hid (HB0.out.trans (hb1.mono HB0.out.size))
  have HM1 := Lib.hid (HM0.out.below hb1)
  have HSR := Lib.hid (HSR.out.below hb1)
  have hk0 : Blk W0 w.heap.size 24 (cmCells (kd, n, K, V, kb)) := by rw [← hW0]; exact Blk.new _ _ _
  have HK := Lib.hid hk0
  rw [hW0]
  clear hW0 hk0
  clear hb1
  refine (light8b _ s true hl _ HSR.out).mono ?_
  rintro e w2 ⟨rfl, hb2⟩
  have HB2 := Lib.hid (HB1.out.trans (hb2.mono HB1.out.size))
  have HM2 := Lib.hid (HM1.out.below hb2)
  have HSR := Lib.hid (HSR.out.below hb2)
  have HK := Lib.hid (HK.out.below hb2 (Blk.lt HK.out))
  clear hb2
  go_wp2_with fail
  refine (right8b _ s true hr _ HSR.out).mono ?_
  rintro e w3 ⟨rfl, hb3⟩
  have HB3 := Lib.hid (HB2.out.trans (hb3.mono HB2.out.size))
  have HM3 := Lib.hid (HM2.out.below hb3)
  have HSR := Lib.hid (HSR.out.below hb3)
  have HK := Lib.hid (HK.out.below hb3 (Blk.lt HK.out))
  clear hb3
  obtain ⟨y0, y1, y2, y3, y4⟩ := cm_results (kd, n, K, V, kb) HK.out
  go_wp2_with fail
  refine (HTX.out _ HM3.out).mono ?_
  rintro e w4 ⟨rfl, hb4⟩
  have HB4 := Lib.hid (HB3.out.trans (hb4.mono HB3.out.size))
  have HM4 := Lib.hid (HM3.out.below hb4)
  have HSR := Lib.hid (HSR.out.below hb4)
  have HK := Lib.hid (HK.out.below hb4 (Blk.lt HK.out))
  clear y0 y1 y2 y3 y4
  obtain ⟨y0, y1, y2, y3, y4⟩ := cm_results (kd, n, K, V, kb) HK.out
  clear hb4
  go_wp2_with fail
  refine (HDO.out _ HSR.out).mono ?_
  rintro e w5 ⟨va, vr, rfl, sa, rr, hb5⟩
  have HB5 := Lib.hid (HB4.out.trans (hb5.mono HB4.out.size))
  have HM5 := Lib.hid (HM4.out.below hb5)
  have HSR := Lib.hid (HSR.out.below hb5)
  have HK := Lib.hid (HK.out.below hb5 (Blk.lt HK.out))
  have HA := Lib.hid sa
  clear y0 y1 y2 y3 y4 rr
  clear hb5 sa
  go_wp2_with fail
  refine (right8b va A true hrA _ HA.out).mono ?_
  rintro e w6 ⟨rfl, hb6⟩
  have HB6 := Lib.hid (HB5.out.trans (hb6.mono HB5.out.size))
  have HM6 := Lib.hid (HM5.out.below hb6)
  have HSR := Lib.hid (HSR.out.below hb6)
  have HA := Lib.hid (HA.out.below hb6)
  have HK := Lib.hid (HK.out.below hb6 (Blk.lt HK.out))
  clear hb6
  clear hrA
  go_wp2_with fail
  go_loopg [8] s.length (fun gk u8 wx => ∃ i : Nat, u8 = .int .i64 (i : Int) ∧ i + gk = s.length ∧ Below w6.heap.size w6 wx)
  case atStart => exact ⟨0, rfl, by omega, Below.refl _ _⟩
  case round =>
    obtain ⟨i, rfl, hi, hbl⟩ := hrel
    have hkr := HK.out.below hbl (Blk.lt HK.out)
    have HKR := Lib.hid hkr
    have hsr := HSR.out.below hbl
    have HSRR := Lib.hid hsr
    have har := HA.out.below hbl
    have HAR := Lib.hid har
    have HBR := Lib.hid (HB6.out.trans (hbl.mono HB6.out.size))
    have HMR := Lib.hid (HM6.out.below hbl)
    have HBL := Lib.hid hbl
    have HI := Lib.hid hi
    cases gk with
    | succ gk =>
      have hlt : i < s.length := by omega
      obtain ⟨b, o, cp, he, hcp, hx⟩ := hsr.inv (by omega)
      injection he with ea _ ec
      subst ea ec
      obtain ⟨t, ht0⟩ : ∃ t, s[i] = t := ⟨_, rfl⟩
      have hsi : s[i]? = some t := by rw [List.getElem?_eq_getElem hlt, ht0]
      obtain ⟨x0, u, x1, hu⟩ := hx i t hsi
      obtain ⟨k, q, hk1, hk2, hk3⟩ := HFI.out i t hsi
      have hkl := (List.getElem?_eq_some_iff.1 hk2).1
      obtain ⟨ab, ao, ac, hae, hac, hax⟩ := har.inv (by omega)
      subst hae
      obtain ⟨a0, ua, a1, hua⟩ := hax k q hk2
      have HF := Lib.hid (find_any _ A t.1 wr har (by have := HQ.out.len; omega))
      rw [hk1] at HF
      have hul : q.2.length ≤ 1000000 := HQ.out.few.2 q (List.mem_of_getElem? hk2)
      have HX := Lib.hid (fun (W : World) (hW : Below wr.heap.size wr W) => (show W.cell? ⟨b, o + i * 2, none⟩ = some (.string t.1) ∧ W.cell? ⟨b, o + i * 2 + 1, none⟩ = some u ∧ W.cell? ⟨ab, ao + k * 2, none⟩ = some (.string q.1) ∧ W.cell? ⟨ab, ao + k * 2 + 1, none⟩ = some ua ∧ RR W u t.2 ∧ RR W ua q.2 from ⟨(hW.cell (p := ⟨b, o + i * 2, none⟩) (World.block_lt_of_cell? wr _ x0)).trans x0, (hW.cell (p := ⟨b, o + i * 2 + 1, none⟩) (World.block_lt_of_cell? wr _ x1)).trans x1, (hW.cell (p := ⟨ab, ao + k * 2, none⟩) (World.block_lt_of_cell? wr _ a0)).trans a0, (hW.cell (p := ⟨ab, ao + k * 2 + 1, none⟩) (World.block_lt_of_cell? wr _ a1)).trans a1, hu.below hW, hua.below hW⟩))
      have l0 : (0 : Int) ≤ (i : Int) := by omega
      have l1 : (i : Int) < (s.length : Int) := by omega
      have l2 : ¬ ((k : Int) < 0) := by omega
      have l3 : (k : Int) < (A.length : Int) := by omega
      have l4 : (0 : Int) ≤ (k : Int) := by omega
      obtain ⟨i1, hi1⟩ : ∃ i1, i + 1 = i1 := ⟨_, rfl⟩
      have wk : IntKind.i64.wrap ((i : Int) + 1) = (i1 : Int) := by rw [show (i : Int) + 1 = (i1 : Int) by omega]; exact IntWalk.i64_in _ (by have := HSL.out; omega)
      have HI1 := Lib.hid hi1
      obtain ⟨tn, tr⟩ := t
      obtain ⟨qn, qr⟩ := q
      obtain ⟨ux, uy, rfl⟩ := hu.form
      obtain ⟨uv, uw, rfl⟩ := hua.form
      simp only at x0 hk3 hul HF HX
      have tle := tl_eq tn n
      by_cases hne : tn = n
      · have e1 : (tn.toList == n.toList) = true := by rw [tle]; exact decide_eq_true hne
        have e2 : (!(tn.toList == n.toList)) = false := by rw [e1]; rfl
        clear tle hne hi hlt ht0 hsi hx hu hk1 hk2 hk3 hkl har hac hax hua a0 a1 hi1 hul hkr hsr hbl x1
        go_wp2_with fail
        refine HF.out.mono ?_
        rintro e w2 ⟨rfl, hb2⟩
        have HB2 := Lib.hid hb2
        obtain ⟨z0, z1, z2, z3, z4, z5⟩ := HX.out w2 hb2
        obtain ⟨y0, y1, y2, y3, y4⟩ := cm_results (kd, n, K, V, kb) (HKR.out.below hb2 (Blk.lt HKR.out))
        clear hb2 z4 z5
        go_wp2
        refine wp_region_held_drew (S := (fun w' => ∃ nn, w' = w2.drewN nn)) (by kernel_rfl) ?_ (fun hS => ?_)
        · exact ⟨1, rfl⟩
        try dsimp only at hS
        refine wpAnyH_take (i := 0) (v := ?_) rfl (by kernel_rfl) (by kernel_rfl) (by kernel_rfl) (fun _ _ _ h => h) (Or.inl ⟨by kernel_rfl, ?_⟩) hS ?_
        rotate_left
        · intro wz hSz; try dsimp only at hSz
          obtain ⟨nz, rfl⟩ := hSz
          go_simp
          all_goals with_reducible rfl
        try simp only [Act.put, List.getElem_toArray, List.getElem_cons_succ, List.getElem_cons_zero, List.setIfInBounds_toArray, List.set_cons_zero, List.set_cons_succ]
        refine wpAnyH_take (i := 1) (v := ?_) rfl (by kernel_rfl) (by kernel_rfl) (by kernel_rfl) (fun _ _ _ h => h) (Or.inl ⟨by kernel_rfl, ?_⟩) hS ?_
        rotate_left
        · intro wz hSz; try dsimp only at hSz
          obtain ⟨nz, rfl⟩ := hSz
          go_simp
          all_goals with_reducible rfl
        try simp only [Act.put, List.getElem_toArray, List.getElem_cons_succ, List.getElem_cons_zero, List.setIfInBounds_toArray, List.set_cons_zero, List.set_cons_succ]
        refine wpAnyH_take (i := 2) (v := ?_) rfl (by kernel_rfl) (by kernel_rfl) (by kernel_rfl) (fun _ _ _ h => h) (Or.inl ⟨by kernel_rfl, ?_⟩) hS ?_
        rotate_left
        · intro wz hSz; try dsimp only at hSz
          obtain ⟨nz, rfl⟩ := hSz
          go_simp
          all_goals with_reducible rfl
        try simp only [Act.put, List.getElem_toArray, List.getElem_cons_succ, List.getElem_cons_zero, List.setIfInBounds_toArray, List.set_cons_zero, List.set_cons_succ]
        refine wpAnyH_take (i := 3) (v := ?_) rfl (by kernel_rfl) (by kernel_rfl) (by kernel_rfl) (fun _ _ _ h => h) (Or.inl ⟨by kernel_rfl, ?_⟩) hS ?_
        rotate_left
        · intro wz hSz; try dsimp only at hSz
          obtain ⟨nz, rfl⟩ := hSz
          go_simp
          all_goals with_reducible rfl
        try simp only [Act.put, List.getElem_toArray, List.getElem_cons_succ, List.getElem_cons_zero, List.setIfInBounds_toArray, List.set_cons_zero, List.set_cons_succ]
        refine wpAnyH_take (i := 4) (v := ?_) rfl (by kernel_rfl) (by kernel_rfl) (by kernel_rfl) (fun _ _ _ h => h) (Or.inl ⟨by kernel_rfl, ?_⟩) hS ?_
        rotate_left
        · intro wz hSz; try dsimp only at hSz
          obtain ⟨nz, rfl⟩ := hSz
          go_simp
          all_goals with_reducible rfl
        try simp only [Act.put, List.getElem_toArray, List.getElem_cons_succ, List.getElem_cons_zero, List.setIfInBounds_toArray, List.set_cons_zero, List.set_cons_succ]
        refine wpAnyH_take (i := 5) (v := ?_) rfl (by kernel_rfl) (by kernel_rfl) (by kernel_rfl) (fun _ _ _ h => h) (Or.inl ⟨by kernel_rfl, ?_⟩) hS ?_
        rotate_left
        · intro wz hSz; try dsimp only at hSz
          obtain ⟨nz, rfl⟩ := hSz
          go_simp
          all_goals with_reducible rfl
        try simp only [Act.put, List.getElem_toArray, List.getElem_cons_succ, List.getElem_cons_zero, List.setIfInBounds_toArray, List.set_cons_zero, List.set_cons_succ]
        refine wpAnyH_take (i := 6) (v := ?_) rfl (by kernel_rfl) (by kernel_rfl) (by kernel_rfl) (fun _ _ _ h => h) (Or.inl ⟨by kernel_rfl, ?_⟩) hS ?_
        rotate_left
        · intro wz hSz; try dsimp only at hSz
          obtain ⟨nz, rfl⟩ := hSz
          go_simp
          all_goals with_reducible rfl
        try simp only [Act.put, List.getElem_toArray, List.getElem_cons_succ, List.getElem_cons_zero, List.setIfInBounds_toArray, List.set_cons_zero, List.set_cons_succ]
        refine wpAnyH_take (i := 7) (v := ?_) rfl (by kernel_rfl) (by kernel_rfl) (by kernel_rfl) (fun _ _ _ h => h) (Or.inl ⟨by kernel_rfl, ?_⟩) hS ?_
        rotate_left
        · intro wz hSz; try dsimp only at hSz
          obtain ⟨nz, rfl⟩ := hSz
          go_simp
          all_goals with_reducible rfl
        try simp only [Act.put, List.getElem_toArray, List.getElem_cons_succ, List.getElem_cons_zero, List.setIfInBounds_toArray, List.set_cons_zero, List.set_cons_succ]
        refine wpAnyH_take (i := 8) (v := ?_) rfl (by kernel_rfl) (by kernel_rfl) (by kernel_rfl) (fun _ _ _ h => h) (Or.inl ⟨by kernel_rfl, ?_⟩) hS ?_
        rotate_left
        · intro wz hSz; try dsimp only at hSz
          obtain ⟨nz, rfl⟩ := hSz
          go_simp
          all_goals with_reducible rfl
        try simp only [Act.put, List.getElem_toArray, List.getElem_cons_succ, List.getElem_cons_zero, List.setIfInBounds_toArray, List.set_cons_zero, List.set_cons_succ]
        refine wpAnyH_take (i := 9) (v := ?_) rfl (by kernel_rfl) (by kernel_rfl) (by kernel_rfl) (fun _ _ _ h => h) (Or.inl ⟨by kernel_rfl, ?_⟩) hS ?_
        rotate_left
        · intro wz hSz; try dsimp only at hSz
          obtain ⟨nz, rfl⟩ := hSz
          go_simp
          all_goals with_reducible rfl
        try simp only [Act.put, List.getElem_toArray, List.getElem_cons_succ, List.getElem_cons_zero, List.setIfInBounds_toArray, List.set_cons_zero, List.set_cons_succ]
        refine wpAnyH_take (i := 10) (v := ?_) rfl (by kernel_rfl) (by kernel_rfl) (by kernel_rfl) (fun _ _ _ h => h) (Or.inl ⟨by kernel_rfl, ?_⟩) hS ?_
        rotate_left
        · intro wz hSz; try dsimp only at hSz
          obtain ⟨nz, rfl⟩ := hSz
          go_simp
          all_goals with_reducible rfl
        try simp only [Act.put, List.getElem_toArray, List.getElem_cons_succ, List.getElem_cons_zero, List.setIfInBounds_toArray, List.set_cons_zero, List.set_cons_succ]
        refine wpAnyH_take (i := 11) (v := ?_) rfl (by kernel_rfl) (by kernel_rfl) (by kernel_rfl) (fun _ _ _ h => h) (Or.inl ⟨by kernel_rfl, ?_⟩) hS ?_
        rotate_left
        · intro wz hSz; try dsimp only at hSz
          obtain ⟨nz, rfl⟩ := hSz
          go_simp
          all_goals with_reducible rfl
        try simp only [Act.put, List.getElem_toArray, List.getElem_cons_succ, List.getElem_cons_zero, List.setIfInBounds_toArray, List.set_cons_zero, List.set_cons_succ]
        refine wpAnyH_take (i := 12) (v := undef) rfl (by kernel_rfl) (by kernel_rfl) (by kernel_rfl) (fun _ _ _ h => h) (Or.inr ⟨by kernel_rfl, rfl⟩) hS ?_
        try simp only [Act.put, List.getElem_toArray, List.getElem_cons_succ, List.getElem_cons_zero, List.setIfInBounds_toArray, List.set_cons_zero, List.set_cons_succ]
        refine wpAnyH_take (i := 13) (v := undef) rfl (by kernel_rfl) (by kernel_rfl) (by kernel_rfl) (fun _ _ _ h => h) (Or.inr ⟨by kernel_rfl, rfl⟩) hS ?_
        try simp only [Act.put, List.getElem_toArray, List.getElem_cons_succ, List.getElem_cons_zero, List.setIfInBounds_toArray, List.set_cons_zero, List.set_cons_succ]
        refine wpAnyH_take (i := 14) (v := undef) rfl (by kernel_rfl) (by kernel_rfl) (by kernel_rfl) (fun _ _ _ h => h) (Or.inr ⟨by kernel_rfl, rfl⟩) hS ?_
        try simp only [Act.put, List.getElem_toArray, List.getElem_cons_succ, List.getElem_cons_zero, List.setIfInBounds_toArray, List.set_cons_zero, List.set_cons_succ]
        refine wpAnyH_take (i := 15) (v := undef) rfl (by kernel_rfl) (by kernel_rfl) (by kernel_rfl) (fun _ _ _ h => h) (Or.inr ⟨by kernel_rfl, rfl⟩) hS ?_
        try simp only [Act.put, List.getElem_toArray, List.getElem_cons_succ, List.getElem_cons_zero, List.setIfInBounds_toArray, List.set_cons_zero, List.set_cons_succ]
        refine wpAnyH_take (i := 16) (v := undef) rfl (by kernel_rfl) (by kernel_rfl) (by kernel_rfl) (fun _ _ _ h => h) (Or.inr ⟨by kernel_rfl, rfl⟩) hS ?_
        try simp only [Act.put, List.getElem_toArray, List.getElem_cons_succ, List.getElem_cons_zero, List.setIfInBounds_toArray, List.set_cons_zero, List.set_cons_succ]
        refine wpAnyH_take (i := 17) (v := undef) rfl (by kernel_rfl) (by kernel_rfl) (by kernel_rfl) (fun _ _ _ h => h) (Or.inr ⟨by kernel_rfl, rfl⟩) hS ?_
        try simp only [Act.put, List.getElem_toArray, List.getElem_cons_succ, List.getElem_cons_zero, List.setIfInBounds_toArray, List.set_cons_zero, List.set_cons_succ]
        refine wpAnyH_take (i := 18) (v := undef) rfl (by kernel_rfl) (by kernel_rfl) (by kernel_rfl) (fun _ _ _ h => h) (Or.inr ⟨by kernel_rfl, rfl⟩) hS ?_
        try simp only [Act.put, List.getElem_toArray, List.getElem_cons_succ, List.getElem_cons_zero, List.setIfInBounds_toArray, List.set_cons_zero, List.set_cons_succ]
        refine wpAnyH_take (i := 19) (v := undef) rfl (by kernel_rfl) (by kernel_rfl) (by kernel_rfl) (fun _ _ _ h => h) (Or.inr ⟨by kernel_rfl, rfl⟩) hS ?_
        try simp only [Act.put, List.getElem_toArray, List.getElem_cons_succ, List.getElem_cons_zero, List.setIfInBounds_toArray, List.set_cons_zero, List.set_cons_succ]
        refine wpAnyH_take (i := 20) (v := undef) rfl (by kernel_rfl) (by kernel_rfl) (by kernel_rfl) (fun _ _ _ h => h) (Or.inr ⟨by kernel_rfl, rfl⟩) hS ?_
        try simp only [Act.put, List.getElem_toArray, List.getElem_cons_succ, List.getElem_cons_zero, List.setIfInBounds_toArray, List.set_cons_zero, List.set_cons_succ]
        refine wpAnyH_take (i := 21) (v := undef) rfl (by kernel_rfl) (by kernel_rfl) (by kernel_rfl) (fun _ _ _ h => h) (Or.inr ⟨by kernel_rfl, rfl⟩) hS ?_
        try simp only [Act.put, List.getElem_toArray, List.getElem_cons_succ, List.getElem_cons_zero, List.setIfInBounds_toArray, List.set_cons_zero, List.set_cons_succ]
        refine wpAnyH_take (i := 22) (v := undef) rfl (by kernel_rfl) (by kernel_rfl) (by kernel_rfl) (fun _ _ _ h => h) (Or.inr ⟨by kernel_rfl, rfl⟩) hS ?_
        try simp only [Act.put, List.getElem_toArray, List.getElem_cons_succ, List.getElem_cons_zero, List.setIfInBounds_toArray, List.set_cons_zero, List.set_cons_succ]
        refine wpAnyH_take (i := 23) (v := undef) rfl (by kernel_rfl) (by kernel_rfl) (by kernel_rfl) (fun _ _ _ h => h) (Or.inr ⟨by kernel_rfl, rfl⟩) hS ?_
        try simp only [Act.put, List.getElem_toArray, List.getElem_cons_succ, List.getElem_cons_zero, List.setIfInBounds_toArray, List.set_cons_zero, List.set_cons_succ]
        refine wpAnyH_take (i := 24) (v := ?_) rfl (by kernel_rfl) (by kernel_rfl) (by kernel_rfl) (fun _ _ _ h => h) (Or.inl ⟨by kernel_rfl, ?_⟩) hS ?_
        rotate_left
        · intro wz hSz; try dsimp only at hSz
          obtain ⟨nz, rfl⟩ := hSz
          go_simp
          all_goals with_reducible rfl
        try simp only [Act.put, List.getElem_toArray, List.getElem_cons_succ, List.getElem_cons_zero, List.setIfInBounds_toArray, List.set_cons_zero, List.set_cons_succ]
        refine wpAnyH_take (i := 25) (v := ?_) rfl (by kernel_rfl) (by kernel_rfl) (by kernel_rfl) (fun _ _ _ h => h) (Or.inl ⟨by kernel_rfl, ?_⟩) hS ?_
        rotate_left
        · intro wz hSz; try dsimp only at hSz
          obtain ⟨nz, rfl⟩ := hSz
          go_simp
          all_goals with_reducible rfl
        try simp only [Act.put, List.getElem_toArray, List.getElem_cons_succ, List.getElem_cons_zero, List.setIfInBounds_toArray, List.set_cons_zero, List.set_cons_succ]
        refine wpAnyH_done (by kernel_rfl) ?_ _
        obtain ⟨nf, hnf⟩ := hS
        go_wp2
        go_roundg gk
        case measure => exact Nat.lt_succ_self _
        case rel => exact ⟨i1, rfl, by have := HI1.out; have := HI.out; omega, by first | exact (HBL.out.trans (HB2.out.mono HBL.out.size)).trans (belN _ _ _) | (rw [hnf]; exact (HBL.out.trans (HB2.out.mono HBL.out.size)).trans (belN _ _ _))⟩
      · have e1 : (tn.toList == n.toList) = false := by rw [tle]; exact decide_eq_false hne
        have e2 : (!(tn.toList == n.toList)) = true := by rw [e1]; rfl
        have hqt : qr = tr := hk3 hne
        subst hqt
        have HUL := Lib.hid hul
        clear tle hne hi hlt ht0 hsi hx hu hk1 hk2 hk3 hkl har hac hax hua a0 a1 hi1 hul hkr hsr hbl x1
        go_wp2_with fail
        refine HF.out.mono ?_
        rintro e w2 ⟨rfl, hb2⟩
        have HB2 := Lib.hid hb2
        obtain ⟨z0, z1, z2, z3, z4, z5⟩ := HX.out w2 hb2
        obtain ⟨y0, y1, y2, y3, y4⟩ := cm_results (kd, n, K, V, kb) (HKR.out.below hb2 (Blk.lt HKR.out))
        have HRR := Lib.hid (fun nn => rrowsT _ _ qr (w2.drewN nn) (z5.drewN nn) (z4.drewN nn) HUL.out)
        clear hb2 z4 z5
        go_wp2
        refine wp_region_held_drew (S := (fun w' => ∃ nn, w' = w2.drewN nn)) (by kernel_rfl) ?_ (fun hS => ?_)
        · exact ⟨1, rfl⟩
        try dsimp only at hS
        refine wpAnyH_take (i := 0) (v := ?_) rfl (by kernel_rfl) (by kernel_rfl) (by kernel_rfl) (fun _ _ _ h => h) (Or.inl ⟨by kernel_rfl, ?_⟩) hS ?_
        rotate_left
        · intro wz hSz; try dsimp only at hSz
          obtain ⟨nz, rfl⟩ := hSz
          go_simp
          all_goals with_reducible rfl
        try simp only [Act.put, List.getElem_toArray, List.getElem_cons_succ, List.getElem_cons_zero, List.setIfInBounds_toArray, List.set_cons_zero, List.set_cons_succ]
        refine wpAnyH_take (i := 1) (v := ?_) rfl (by kernel_rfl) (by kernel_rfl) (by kernel_rfl) (fun _ _ _ h => h) (Or.inl ⟨by kernel_rfl, ?_⟩) hS ?_
        rotate_left
        · intro wz hSz; try dsimp only at hSz
          obtain ⟨nz, rfl⟩ := hSz
          go_simp
          all_goals with_reducible rfl
        try simp only [Act.put, List.getElem_toArray, List.getElem_cons_succ, List.getElem_cons_zero, List.setIfInBounds_toArray, List.set_cons_zero, List.set_cons_succ]
        refine wpAnyH_take (i := 2) (v := ?_) rfl (by kernel_rfl) (by kernel_rfl) (by kernel_rfl) (fun _ _ _ h => h) (Or.inl ⟨by kernel_rfl, ?_⟩) hS ?_
        rotate_left
        · intro wz hSz; try dsimp only at hSz
          obtain ⟨nz, rfl⟩ := hSz
          go_simp
          all_goals with_reducible rfl
        try simp only [Act.put, List.getElem_toArray, List.getElem_cons_succ, List.getElem_cons_zero, List.setIfInBounds_toArray, List.set_cons_zero, List.set_cons_succ]
        refine wpAnyH_take (i := 3) (v := ?_) rfl (by kernel_rfl) (by kernel_rfl) (by kernel_rfl) (fun _ _ _ h => h) (Or.inl ⟨by kernel_rfl, ?_⟩) hS ?_
        rotate_left
        · intro wz hSz; try dsimp only at hSz
          obtain ⟨nz, rfl⟩ := hSz
          go_simp
          all_goals with_reducible rfl
        try simp only [Act.put, List.getElem_toArray, List.getElem_cons_succ, List.getElem_cons_zero, List.setIfInBounds_toArray, List.set_cons_zero, List.set_cons_succ]
        refine wpAnyH_take (i := 4) (v := ?_) rfl (by kernel_rfl) (by kernel_rfl) (by kernel_rfl) (fun _ _ _ h => h) (Or.inl ⟨by kernel_rfl, ?_⟩) hS ?_
        rotate_left
        · intro wz hSz; try dsimp only at hSz
          obtain ⟨nz, rfl⟩ := hSz
          go_simp
          all_goals with_reducible rfl
        try simp only [Act.put, List.getElem_toArray, List.getElem_cons_succ, List.getElem_cons_zero, List.setIfInBounds_toArray, List.set_cons_zero, List.set_cons_succ]
        refine wpAnyH_take (i := 5) (v := ?_) rfl (by kernel_rfl) (by kernel_rfl) (by kernel_rfl) (fun _ _ _ h => h) (Or.inl ⟨by kernel_rfl, ?_⟩) hS ?_
        rotate_left
        · intro wz hSz; try dsimp only at hSz
          obtain ⟨nz, rfl⟩ := hSz
          go_simp
          all_goals with_reducible rfl
        try simp only [Act.put, List.getElem_toArray, List.getElem_cons_succ, List.getElem_cons_zero, List.setIfInBounds_toArray, List.set_cons_zero, List.set_cons_succ]
        refine wpAnyH_take (i := 6) (v := ?_) rfl (by kernel_rfl) (by kernel_rfl) (by kernel_rfl) (fun _ _ _ h => h) (Or.inl ⟨by kernel_rfl, ?_⟩) hS ?_
        rotate_left
        · intro wz hSz; try dsimp only at hSz
          obtain ⟨nz, rfl⟩ := hSz
          go_simp
          all_goals with_reducible rfl
        try simp only [Act.put, List.getElem_toArray, List.getElem_cons_succ, List.getElem_cons_zero, List.setIfInBounds_toArray, List.set_cons_zero, List.set_cons_succ]
        refine wpAnyH_take (i := 7) (v := ?_) rfl (by kernel_rfl) (by kernel_rfl) (by kernel_rfl) (fun _ _ _ h => h) (Or.inl ⟨by kernel_rfl, ?_⟩) hS ?_
        rotate_left
        · intro wz hSz; try dsimp only at hSz
          obtain ⟨nz, rfl⟩ := hSz
          go_simp
          all_goals with_reducible rfl
        try simp only [Act.put, List.getElem_toArray, List.getElem_cons_succ, List.getElem_cons_zero, List.setIfInBounds_toArray, List.set_cons_zero, List.set_cons_succ]
        refine wpAnyH_take (i := 8) (v := ?_) rfl (by kernel_rfl) (by kernel_rfl) (by kernel_rfl) (fun _ _ _ h => h) (Or.inl ⟨by kernel_rfl, ?_⟩) hS ?_
        rotate_left
        · intro wz hSz; try dsimp only at hSz
          obtain ⟨nz, rfl⟩ := hSz
          go_simp
          all_goals with_reducible rfl
        try simp only [Act.put, List.getElem_toArray, List.getElem_cons_succ, List.getElem_cons_zero, List.setIfInBounds_toArray, List.set_cons_zero, List.set_cons_succ]
        refine wpAnyH_take (i := 9) (v := ?_) rfl (by kernel_rfl) (by kernel_rfl) (by kernel_rfl) (fun _ _ _ h => h) (Or.inl ⟨by kernel_rfl, ?_⟩) hS ?_
        rotate_left
        · intro wz hSz; try dsimp only at hSz
          obtain ⟨nz, rfl⟩ := hSz
          go_simp
          all_goals with_reducible rfl
        try simp only [Act.put, List.getElem_toArray, List.getElem_cons_succ, List.getElem_cons_zero, List.setIfInBounds_toArray, List.set_cons_zero, List.set_cons_succ]
        refine wpAnyH_take (i := 10) (v := ?_) rfl (by kernel_rfl) (by kernel_rfl) (by kernel_rfl) (fun _ _ _ h => h) (Or.inl ⟨by kernel_rfl, ?_⟩) hS ?_
        rotate_left
        · intro wz hSz; try dsimp only at hSz
          obtain ⟨nz, rfl⟩ := hSz
          go_simp
          all_goals with_reducible rfl
        try simp only [Act.put, List.getElem_toArray, List.getElem_cons_succ, List.getElem_cons_zero, List.setIfInBounds_toArray, List.set_cons_zero, List.set_cons_succ]
        refine wpAnyH_take (i := 11) (v := ?_) rfl (by kernel_rfl) (by kernel_rfl) (by kernel_rfl) (fun _ _ _ h => h) (Or.inl ⟨by kernel_rfl, ?_⟩) hS ?_
        rotate_left
        · intro wz hSz; try dsimp only at hSz
          obtain ⟨nz, rfl⟩ := hSz
          go_simp
          all_goals with_reducible rfl
        try simp only [Act.put, List.getElem_toArray, List.getElem_cons_succ, List.getElem_cons_zero, List.setIfInBounds_toArray, List.set_cons_zero, List.set_cons_succ]
        refine wpAnyH_take (i := 12) (v := ?_) rfl (by kernel_rfl) (by kernel_rfl) (by kernel_rfl) (fun _ _ _ h => h) (Or.inl ⟨by kernel_rfl, ?_⟩) hS ?_
        rotate_left
        · intro wz hSz; try dsimp only at hSz
          obtain ⟨nz, rfl⟩ := hSz
          go_simp
          all_goals with_reducible rfl
        try simp only [Act.put, List.getElem_toArray, List.getElem_cons_succ, List.getElem_cons_zero, List.setIfInBounds_toArray, List.set_cons_zero, List.set_cons_succ]
        refine wpAnyH_take (i := 13) (v := ?_) rfl (by kernel_rfl) (by kernel_rfl) (by kernel_rfl) (fun _ _ _ h => h) (Or.inl ⟨by kernel_rfl, ?_⟩) hS ?_
        rotate_left
        · intro wz hSz; try dsimp only at hSz
          obtain ⟨nz, rfl⟩ := hSz
          go_simp
          all_goals with_reducible rfl
        try simp only [Act.put, List.getElem_toArray, List.getElem_cons_succ, List.getElem_cons_zero, List.setIfInBounds_toArray, List.set_cons_zero, List.set_cons_succ]
        refine wpAnyH_take (i := 14) (v := ?_) rfl (by kernel_rfl) (by kernel_rfl) (by kernel_rfl) (fun _ _ _ h => h) (Or.inl ⟨by kernel_rfl, ?_⟩) hS ?_
        rotate_left
        · intro wz hSz; try dsimp only at hSz
          obtain ⟨nz, rfl⟩ := hSz
          go_simp
          all_goals with_reducible rfl
        try simp only [Act.put, List.getElem_toArray, List.getElem_cons_succ, List.getElem_cons_zero, List.setIfInBounds_toArray, List.set_cons_zero, List.set_cons_succ]
        refine wpAnyH_take (i := 15) (v := ?_) rfl (by kernel_rfl) (by kernel_rfl) (by kernel_rfl) (fun _ _ _ h => h) (Or.inl ⟨by kernel_rfl, ?_⟩) hS ?_
        rotate_left
        · intro wz hSz; try dsimp only at hSz
          obtain ⟨nz, rfl⟩ := hSz
          go_simp
          all_goals with_reducible rfl
        try simp only [Act.put, List.getElem_toArray, List.getElem_cons_succ, List.getElem_cons_zero, List.setIfInBounds_toArray, List.set_cons_zero, List.set_cons_succ]
        refine wpAnyH_take (i := 16) (v := ?_) rfl (by kernel_rfl) (by kernel_rfl) (by kernel_rfl) (fun _ _ _ h => h) (Or.inl ⟨by kernel_rfl, ?_⟩) hS ?_
        rotate_left
        · intro wz hSz; try dsimp only at hSz
          obtain ⟨nz, rfl⟩ := hSz
          go_simp
          all_goals with_reducible rfl
        try simp only [Act.put, List.getElem_toArray, List.getElem_cons_succ, List.getElem_cons_zero, List.setIfInBounds_toArray, List.set_cons_zero, List.set_cons_succ]
        refine wpAnyH_take (i := 17) (v := ?_) rfl (by kernel_rfl) (by kernel_rfl) (by kernel_rfl) (fun _ _ _ h => h) (Or.inl ⟨by kernel_rfl, ?_⟩) hS ?_
        rotate_left
        · intro wz hSz; try dsimp only at hSz
          obtain ⟨nz, rfl⟩ := hSz
          go_simp
          all_goals with_reducible rfl
        try simp only [Act.put, List.getElem_toArray, List.getElem_cons_succ, List.getElem_cons_zero, List.setIfInBounds_toArray, List.set_cons_zero, List.set_cons_succ]
        refine wpAnyH_take (i := 18) (v := ?_) rfl (by kernel_rfl) (by kernel_rfl) (by kernel_rfl) (fun _ _ _ h => h) (Or.inl ⟨by kernel_rfl, ?_⟩) hS ?_
        rotate_left
        · intro wz hSz; try dsimp only at hSz
          obtain ⟨nz, rfl⟩ := hSz
          go_simp
          all_goals with_reducible rfl
        try simp only [Act.put, List.getElem_toArray, List.getElem_cons_succ, List.getElem_cons_zero, List.setIfInBounds_toArray, List.set_cons_zero, List.set_cons_succ]
        refine wpAnyH_take (i := 19) (v := ?_) rfl (by kernel_rfl) (by kernel_rfl) (by kernel_rfl) (fun _ _ _ h => h) (Or.inl ⟨by kernel_rfl, ?_⟩) hS ?_
        rotate_left
        · intro wz hSz; try dsimp only at hSz
          obtain ⟨nz, rfl⟩ := hSz
          go_simp
          all_goals with_reducible rfl
        try simp only [Act.put, List.getElem_toArray, List.getElem_cons_succ, List.getElem_cons_zero, List.setIfInBounds_toArray, List.set_cons_zero, List.set_cons_succ]
        refine wpAnyH_take (i := 20) (v := ?_) rfl (by kernel_rfl) (by kernel_rfl) (by kernel_rfl) (fun _ _ _ h => h) (Or.inl ⟨by kernel_rfl, ?_⟩) hS ?_
        rotate_left
        · intro wz hSz; try dsimp only at hSz
          obtain ⟨nz, rfl⟩ := hSz
          go_simp
          all_goals with_reducible rfl
        try simp only [Act.put, List.getElem_toArray, List.getElem_cons_succ, List.getElem_cons_zero, List.setIfInBounds_toArray, List.set_cons_zero, List.set_cons_succ]
        refine wpAnyH_take (i := 21) (v := ?_) rfl (by kernel_rfl) (by kernel_rfl) (by kernel_rfl) (fun _ _ _ h => h) (Or.inl ⟨by kernel_rfl, ?_⟩) hS ?_
        rotate_left
        · intro wz hSz; try dsimp only at hSz
          obtain ⟨nz, rfl⟩ := hSz
          go_simp
          all_goals with_reducible rfl
        try simp only [Act.put, List.getElem_toArray, List.getElem_cons_succ, List.getElem_cons_zero, List.setIfInBounds_toArray, List.set_cons_zero, List.set_cons_succ]
        refine wpAnyH_ready (rs := [22]) (by kernel_rfl) (by simp) (AllReadyH.cons rfl (fun K hK => ?_) AllReadyH.nil)
        go_simp
        obtain ⟨nz, hnz⟩ := hS
        try rw [hnz]
        (go_at_call 23; refine (HRR.out _).mono ?_; rintro e w4 ⟨rfl, nr, rfl⟩)
        refine hK.out _ _ ?_ (fun hSn => ?_)
        · exact ⟨_, World.drewN_drewN _ _ _⟩
        clear hK K
        have hS := hSn
        clear hSn
        try dsimp only at hS
        try simp only [Act.put, List.getElem_toArray, List.getElem_cons_succ, List.getElem_cons_zero, List.setIfInBounds_toArray, List.set_cons_zero, List.set_cons_succ]
        refine wpAnyH_take (i := 23) (v := ?_) rfl (by kernel_rfl) (by kernel_rfl) (by kernel_rfl) (fun _ _ _ h => h) (Or.inl ⟨by kernel_rfl, ?_⟩) hS ?_
        rotate_left
        · intro wz hSz; try dsimp only at hSz
          obtain ⟨nz, rfl⟩ := hSz
          go_simp
          all_goals with_reducible rfl
        try simp only [Act.put, List.getElem_toArray, List.getElem_cons_succ, List.getElem_cons_zero, List.setIfInBounds_toArray, List.set_cons_zero, List.set_cons_succ]
        refine wpAnyH_take (i := 24) (v := ?_) rfl (by kernel_rfl) (by kernel_rfl) (by kernel_rfl) (fun _ _ _ h => h) (Or.inl ⟨by kernel_rfl, ?_⟩) hS ?_
        rotate_left
        · intro wz hSz; try dsimp only at hSz
          obtain ⟨nz, rfl⟩ := hSz
          go_simp
          all_goals with_reducible rfl
        try simp only [Act.put, List.getElem_toArray, List.getElem_cons_succ, List.getElem_cons_zero, List.setIfInBounds_toArray, List.set_cons_zero, List.set_cons_succ]
        refine wpAnyH_take (i := 25) (v := ?_) rfl (by kernel_rfl) (by kernel_rfl) (by kernel_rfl) (fun _ _ _ h => h) (Or.inl ⟨by kernel_rfl, ?_⟩) hS ?_
        rotate_left
        · intro wz hSz; try dsimp only at hSz
          obtain ⟨nz, rfl⟩ := hSz
          go_simp
          all_goals with_reducible rfl
        try simp only [Act.put, List.getElem_toArray, List.getElem_cons_succ, List.getElem_cons_zero, List.setIfInBounds_toArray, List.set_cons_zero, List.set_cons_succ]
        refine wpAnyH_done (by kernel_rfl) ?_ _
        obtain ⟨nf, hnf⟩ := hS
        go_wp2
        go_roundg gk
        case measure => exact Nat.lt_succ_self _
        case rel => exact ⟨i1, rfl, by have := HI1.out; have := HI.out; omega, by first | exact (HBL.out.trans (HB2.out.mono HBL.out.size)).trans (belN _ _ _) | (rw [hnf]; exact (HBL.out.trans (HB2.out.mono HBL.out.size)).trans (belN _ _ _))⟩
    | zero =>
      have l1 : ¬ ((i : Int) < (s.length : Int)) := by omega
      obtain ⟨y0, y1, y2, y3, y4⟩ := cm_results (kd, n, K, V, kb) hkr
      clear hi hkr hsr har hbl
      go_wp2_with fail
      refine (HDG.out _ _ HAR.out).mono ?_
      rintro e w3 ⟨v3, vr3, rfl, sa3, rr3, hb3⟩
      have HB3 := Lib.hid (HBR.out.trans (hb3.mono HBR.out.size))
      have HM3 := Lib.hid (HMR.out.below hb3)
      have HK3 := Lib.hid (HKR.out.below hb3 (Blk.lt HKR.out))
      have HR3 := Lib.hid rr3
      obtain ⟨ra3, rc3, rfl⟩ := rr3.form
      clear hb3 sa3 rr3 y0 y1 y2 y3 y4
      obtain ⟨y0, y1, y2, y3, y4⟩ := cm_results (kd, n, K, V, kb) HK3.out
      go_wp2_with fail
      refine (known8_any m _ HM3.out).mono ?_
      rintro e w6 ⟨rfl, hb6⟩
      have HB6 := Lib.hid (HB3.out.trans (hb6.mono HB3.out.size))
      clear hb6
      go_wp2
      go_ret
      exact ⟨rfl, HB6.out⟩
theorem keeps_any (v c : Value) (m : Int) (w : World) (hm : Wq m w) (hs : FitsS w v) (hc : FitsC w c) :
    Calls Tryz.prog 7 #[v, c] w fun e w' => e = .returned (.bool true) ∧ Below w.heap.size w w' := by
  obtain ⟨s, h⟩ := hs
  obtain ⟨kd, n, K, V, kb, rfl, h0, hK, hV, _⟩ := hc
  cases hl : lightS s with
  | false => exact ke_light v s kd n K V kb m w hm h hK hV hl
  | true =>
    cases hr : rightL s with
    | false => exact ke_right v s kd n K V kb m w hm h hK hV hl hr
    | true =>
      by_cases hn : n.size ≤ 30
      · by_cases hT : textC (kd, n, K, V, kb) = []
        · exact ke_text v s kd n K V kb m w hm h hK hV hl hr hn hT
        · by_cases he : (doS s kd n K V kb).2.2 = 0
          · by_cases h2 : kd = 2
            · subst h2; exact ke_put v s n K V kb m w hm h hK hV hl hr hn hT he
            · by_cases h4 : kd = 4
              · subst h4; exact ke_del v s n K V kb m w hm h hK hV hl hr hn hT he
              · exact ke_else v s kd n K V kb m w hm h hK hV hl hr hn hT h2 h4 he
          · exact ke_err v s kd n K V kb m w hm h hK hV hl hr hn hT he
      · exact ke_name v s kd n K V kb m w hm h hK hV hl hr (by omega)
end Go.Proofs.YtjloookjlnmgdaaGreatDoor
