/- What Decode answers where the body is read by the reader named parse. Condition: the body is of at most 2^40 bytes.
   What Decode answers where the body is read by the reader named bind. Condition: the body is of at most 2^40 bytes.
   What Decode answers where the body is read by the reader named named. Condition: the body is of at most 2^40 bytes.
   What Decode answers where the body is read by the reader named execute. Condition: the body is of at most 2^40 bytes. -/
import Derived.Test.YtojgeilihoilnaaM4
set_option linter.unusedSimpArgs false
set_option linter.unusedVariables false
namespace Go.Proofs.Ytojgeilihoilnaa
open Go.ChangeShapes Go.WideShapes Go.ChangeAt Go.RowKit
set_option linter.unusedVariables false
attribute [local go_sem ↓] Go.wp_at_zero Go.wp_at_succ

set_option maxHeartbeats 600000 in
set_option maxRecDepth 100000 in
theorem dec_read_parse (k : UInt8) (s : ByteArray) (w : World) (i wr : Nat) (hk : Instr.findNow (.int .u8) (u8 k) kEs.toList 0 = some (some (i, .agg #[fnV 34, fnV wr]))) (hr : rightL (k, s.data.toList) = true) (hs : s.size ≤ 1099511627776) (d : Kd)
    (hd : ∀ (R A : Nat) (w0 : World) (w : World) (kv vv av nv fv : Value), AI R A s w0 { kind := k } s.data.toList false kv vv av nv fv w → Calls Try.prog 34 #[.pointer (some ⟨R, 0, none⟩), .pointer (some ⟨A, 0, none⟩)] w (AiP R A s w0 (readD d { kind := k } s.data.toList false))) :
    Calls Try.prog 9 #[.agg #[u8 k, .string s]] w (DecP (decR (readD d { kind := k } s.data.toList false)) w) := by
  have hml := fun w1 => @mid_late w w1 k s (fnV 34) (fnV wr)
  have hme := fun w1 => @mid_early w w1 k s .nilFunc .nilFunc (fnV 34) (fnV wr)
  have dr := fun w => right_any k s w (by omega)
  rw [hr] at dr
  clear hr
  have hnew := fun R A w => AI.new R A s w k
  generalize readD d { kind := k } s.data.toList false = F at *
  obtain ⟨a, l, x⟩ := F
  unfold u8 at *
  go_enter Try.func9, Try.ntmps9
  go_upto_region 1 with fail
  go_cut [4, 5] (fun s4 s5 wx => ∃ X, s4 = .pointer (some ⟨X, 0, none⟩) ∧ s5 = .bool true ∧ Mid w k s X (fnV 34) (fnV wr) wx)
  case first =>
    go_region_held3 (fun w' => w'.cell? ⟨w.heap.size, 0, none⟩ = some (.int .u8 (k.toNat : Int))) (go_keep) ((go_at_call 17; refine (kinds_kp _).mono ?_; rintro e w1 ⟨b, rfl, hb, hB⟩; have hl := look_yes w1 b _ _ hb _ _ _ hk; have hl2 := look_yes (w1.alloc (.cells #[.nilFunc, .nilFunc] 42)) b _ _ ((Below.heap_alloc w1 _ b (Array.getElem?_eq_some_iff.1 hb).1).trans hb) _ _ _ hk; have c0 : w1.cell? ⟨w.heap.size, 0, none⟩ = some (.int .u8 (k.toNat : Int)) := (by rw [(bcell hB).1 _ _ (by simp; omega)]; simp [go_sem]); have n1 : w1.heap.size ≠ w.heap.size := (by have := hB.size; simp at this; omega); have n2 : w.heap.size ≠ w1.heap.size := n1.symm; have n3 : w.heap.size + 2 ≠ w.heap.size := (by omega); obtain ⟨hcc, hff⟩ := bcell hB))
    all_goals
      clear hcc hff hl hl2
      go_wp2_with fail
      go_meet
      first
        | exact ⟨w1.heap.size, rfl, rfl, hml _ hB⟩
        | exact ⟨w.heap.size + 2, rfl, rfl, hme _ hB⟩
  case rest =>
    obtain ⟨X, rfl, rfl, hM⟩ := hcut
    clear hml hme
    have c0 : wc.cell? ⟨w.heap.size, 0, none⟩ = some (.int .u8 (k.toNat : Int)) := hM.b0.cell 0
    have c1 : wc.cell? ⟨w.heap.size, 1, none⟩ = some (.string s) := hM.b0.cell 1
    go_wp2_with (go_at_call 18; refine (dr _).mono ?_; rintro e w2 ⟨rfl, hb2⟩; have hM2 := hM.below hb2; have e0 : w2.cell? ⟨w.heap.size, 0, none⟩ = some (.int .u8 (k.toNat : Int)) := hM2.b0.cell 0; have e1 : w2.cell? ⟨w.heap.size, 1, none⟩ = some (.string s) := hM2.b0.cell 1; have e2 : w2.cell? ⟨X, 0, none⟩ = some (fnV 34) := hM2.bX.cell 0; have l0 : w.heap.size < w2.heap.size := hM2.b0.lt; have l1 : X < w2.heap.size := hM2.bX.lt; clear c0 c1 hM)
    have hR := Blk.new w2 47 #[.string s, .int .i64 0, .bool false]
    have hA := Blk.new (w2.alloc (.cells #[.string s, .int .i64 0, .bool false] 47)) 29 (askV { kind := k } (.slice none 0 0) (.slice none 0 0) (.slice none 0 0) (.slice none 0 0) (.slice none 0 0))
    rw [show (w2.alloc (.cells #[.string s, .int .i64 0, .bool false] 47)).heap.size = w2.heap.size + 1 by simp] at hA
    have hI := hnew w2.heap.size (w2.heap.size + 1) _ (hR.alloc _) hA (by omega)
    have hM3 := (hM2.below ((Below.refl _ _).alloc (Nat.le_refl _) (.cells #[.string s, .int .i64 0, .bool false] 47))).below ((Below.refl _ _).alloc (Nat.le_refl _) (.cells (askV { kind := k } (.slice none 0 0) (.slice none 0 0) (.slice none 0 0) (.slice none 0 0) (.slice none 0 0)) 29))
    refine (hd _ _ _ _ _ _ _ _ _ hI).mono ?_; rintro e w3 ⟨rfl, kv, vv, av, nv, fv, h3⟩
    have lb0 := hM2.b0.lt
    have lb1 := hM2.b1.lt
    have lbX := hM2.bX.lt
    have hM4 := hM3.kept h3.kp (by simp; omega) (by simp; omega) (by simp; omega) (by intro i hi; simp at hi; omega)
    clear hR hA hI hM3
    obtain ⟨p, hp1, hp2, hp3⟩ := h3.rd
    have r1 : w3.cell? ⟨w2.heap.size, 1, none⟩ = some (.int .i64 p) := hp3.cell 1
    have r2 : w3.cell? ⟨w2.heap.size, 2, none⟩ = some (.bool x) := hp3.cell 2
    have r3 : w3.cell? ⟨w.heap.size, 1, none⟩ = some (.string s) := hM4.b0.cell 1
    clear e0 e1 e2 hb2
    simp only at h3 hp2
    dsimp only
    by_cases hbad : x = true ∨ l ≠ []
    · have hF : decR (a, l, x) = ({}, 4) := by unfold decR; rw [if_pos hbad]
      have HF := Lib.hid hF
      clear hF h3
      have hp : x = true ∨ p < s.size := by
        rcases hbad with h | h
        · exact .inl h
        · right
          have : l.length = s.size - p := by rw [hp2]; exact drop_len s p
          have : 0 < l.length := List.length_pos_iff.2 h
          omega
      clear hbad hp2 hp3
      rcases hp with rfl | hp
      · go_wp2_with ((with_reducible refine wpList_store_mid (op := ⟨none, .store 29 (.tmp 2) (.tmp 41), _, _, _, _⟩) rfl 29 (.tmp 2) (.tmp 41) rfl (w.heap.size + 1) 0 (askV {} (.slice none 0 0) (.slice none 0 0) (.slice none 0 0) (.slice none 0 0) (.slice none 0 0)) ?_ ?_ (hM4.b1.there _ (Nat.le_refl _)) (askInfo' _ _ _ _ _ _) (askOne _ _ _ _ _ _ rfl rfl rfl rfl rfl) ?_); (· rfl); (· rfl))
        have hb := hM4.b1.store (askV {} (.slice none 0 0) (.slice none 0 0) (.slice none 0 0) (.slice none 0 0) (.slice none 0 0)) rfl
        refine bodyPost_ret (v := .tuple #[.agg (askV {} (.slice none 0 0) (.slice none 0 0) (.slice none 0 0) (.slice none 0 0) (.slice none 0 0)), .int .i64 4]) (dec_out _ _ _ _ _ (by rfl) (by rfl) hb rfl) rfl (by rw [HF.out]; exact 
          (DecP.none 4 _ _ (hM4.bel.trans ((Keeps.sets (w.heap.size + 1) (.inl (List.mem_singleton.2 rfl)) _ 0 _ (Keeps.refl [w.heap.size + 1] _)).below (fun i hi => by rw [List.mem_singleton.1 hi]; omega) hM4.bel.size))))
      · cases x
        all_goals
          go_wp2_with ((with_reducible refine wpList_store_mid (op := ⟨none, .store 29 (.tmp 2) (.tmp 41), _, _, _, _⟩) rfl 29 (.tmp 2) (.tmp 41) rfl (w.heap.size + 1) 0 (askV {} (.slice none 0 0) (.slice none 0 0) (.slice none 0 0) (.slice none 0 0) (.slice none 0 0)) ?_ ?_ (hM4.b1.there _ (Nat.le_refl _)) (askInfo' _ _ _ _ _ _) (askOne _ _ _ _ _ _ rfl rfl rfl rfl rfl) ?_); (· rfl); (· rfl))
          have hb := hM4.b1.store (askV {} (.slice none 0 0) (.slice none 0 0) (.slice none 0 0) (.slice none 0 0) (.slice none 0 0)) rfl
          refine bodyPost_ret (v := .tuple #[.agg (askV {} (.slice none 0 0) (.slice none 0 0) (.slice none 0 0) (.slice none 0 0) (.slice none 0 0)), .int .i64 4]) (dec_out _ _ _ _ _ (by rfl) (by rfl) hb rfl) rfl (by rw [HF.out]; exact 
            (DecP.none 4 _ _ (hM4.bel.trans ((Keeps.sets (w.heap.size + 1) (.inl (List.mem_singleton.2 rfl)) _ 0 _ (Keeps.refl [w.heap.size + 1] _)).below (fun i hi => by rw [List.mem_singleton.1 hi]; omega) hM4.bel.size))))
    · have hx : x = false := by cases x; rfl; exact absurd (Or.inl rfl) hbad
      have hl : l = [] := by
        by_cases h : l = []
        · exact h
        · exact absurd (Or.inr h) hbad
      subst hx
      have hF : decR (a, l, false) = (a, 0) := by unfold decR; rw [if_neg hbad]
      have HF := Lib.hid hF
      have hp : ¬ p < s.size := by
        have : l.length = s.size - p := by rw [hp2]; exact drop_len s p
        rw [hl] at this; simp at this; omega
      clear hF hbad hl hp2 hp3
      obtain ⟨fs, hu⟩ := askTy
      have HU := Lib.hid hu
      clear hu
      have har := h3.ar
      have hone : (askV a kv vv av nv fv).all (·.oneCell') = true := by
        obtain ⟨kv', vv', av', nv', fv', e, o1, o2, o3, o4, o5⟩ := har.ex
        rw [Value.agg.injEq] at e
        rw [e]
        exact askOne _ _ _ _ _ _ o1.one o2.one o3.one o4.one o5.one
      have HO := Lib.hid hone
      have hbl : w3.heap[w2.heap.size + 1]? = some (.cells (askV a kv vv av nv fv) 29 (0, 0)) := h3.blk
      have HBL := Lib.hid hbl
      clear hbl
      clear hone
      have hsz := h3.kp.size
      simp at hsz
      go_wp2_with (first
        | ((with_reducible refine wpList_load_row (o := ⟨some 42, .load 29 (.tmp 7), _, _, _, _⟩) rfl 29 (.tmp 7) rfl (w2.heap.size + 1) ?_ 29 (askV a kv vv av nv fv) (0, 0) (.struct fs) HBL.out HU.out ?_ (askInfo' _ _ _ _ _ _) ?_); (· rfl); (· rfl))
        | ((with_reducible refine wpList_store_mid (op := ⟨none, .store 29 (.tmp 2) (.tmp 42), _, _, _, _⟩) rfl 29 (.tmp 2) (.tmp 42) rfl (w.heap.size + 1) 0 (askV a kv vv av nv fv) ?_ ?_ (hM4.b1.there _ (Nat.le_refl _)) (askInfo' _ _ _ _ _ _) (HO.out) ?_); (· rfl); (· rfl)))
      have hb := hM4.b1.store (askV a kv vv av nv fv) rfl
      have hk := Keeps.sets (w.heap.size + 1) (.inl (List.mem_singleton.2 rfl)) (askV a kv vv av nv fv).toList 0 _ (Keeps.refl [w.heap.size + 1] w3)
      refine bodyPost_ret (v := .tuple #[.agg (askV a kv vv av nv fv), .int .i64 0]) (dec_out _ _ _ _ _ (by rfl) (by rfl) hb rfl) rfl ?_
      rw [HF.out]
      refine ⟨_, rfl, ?_, hM4.bel.trans (hk.below (fun i hi => by rw [List.mem_singleton.1 hi]; omega) hM4.bel.size)⟩
      refine har.step (fun b hb => hk.block b hb.2 (fun e => ?_)) (fun b hb => ⟨?_, Nat.lt_of_lt_of_le hb.2 hk.size⟩)
      · rw [List.mem_singleton.1 e] at hb
        have := hb.1
        simp at this; omega
      · have := hb.1
        simp at this; omega
end Go.Proofs.Ytojgeilihoilnaa
namespace Go.Proofs.Ytojgeilihoilnaa
open Go.ChangeShapes Go.WideShapes Go.ChangeAt Go.RowKit
set_option linter.unusedVariables false
attribute [local go_sem ↓] Go.wp_at_zero Go.wp_at_succ

set_option maxHeartbeats 600000 in
set_option maxRecDepth 100000 in
theorem dec_read_bind (k : UInt8) (s : ByteArray) (w : World) (i wr : Nat) (hk : Instr.findNow (.int .u8) (u8 k) kEs.toList 0 = some (some (i, .agg #[fnV 36, fnV wr]))) (hr : rightL (k, s.data.toList) = true) (hs : s.size ≤ 1099511627776) (d : Kd)
    (hd : ∀ (R A : Nat) (w0 : World) (w : World) (kv vv av nv fv : Value), AI R A s w0 { kind := k } s.data.toList false kv vv av nv fv w → Calls Try.prog 36 #[.pointer (some ⟨R, 0, none⟩), .pointer (some ⟨A, 0, none⟩)] w (AiP R A s w0 (readD d { kind := k } s.data.toList false))) :
    Calls Try.prog 9 #[.agg #[u8 k, .string s]] w (DecP (decR (readD d { kind := k } s.data.toList false)) w) := by
  have hml := fun w1 => @mid_late w w1 k s (fnV 36) (fnV wr)
  have hme := fun w1 => @mid_early w w1 k s .nilFunc .nilFunc (fnV 36) (fnV wr)
  have dr := fun w => right_any k s w (by omega)
  rw [hr] at dr
  clear hr
  have hnew := fun R A w => AI.new R A s w k
  generalize readD d { kind := k } s.data.toList false = F at *
  obtain ⟨a, l, x⟩ := F
  unfold u8 at *
  go_enter Try.func9, Try.ntmps9
  go_upto_region 1 with fail
  go_cut [4, 5] (fun s4 s5 wx => ∃ X, s4 = .pointer (some ⟨X, 0, none⟩) ∧ s5 = .bool true ∧ Mid w k s X (fnV 36) (fnV wr) wx)
  case first =>
    go_region_held3 (fun w' => w'.cell? ⟨w.heap.size, 0, none⟩ = some (.int .u8 (k.toNat : Int))) (go_keep) ((go_at_call 17; refine (kinds_kp _).mono ?_; rintro e w1 ⟨b, rfl, hb, hB⟩; have hl := look_yes w1 b _ _ hb _ _ _ hk; have hl2 := look_yes (w1.alloc (.cells #[.nilFunc, .nilFunc] 42)) b _ _ ((Below.heap_alloc w1 _ b (Array.getElem?_eq_some_iff.1 hb).1).trans hb) _ _ _ hk; have c0 : w1.cell? ⟨w.heap.size, 0, none⟩ = some (.int .u8 (k.toNat : Int)) := (by rw [(bcell hB).1 _ _ (by simp; omega)]; simp [go_sem]); have n1 : w1.heap.size ≠ w.heap.size := (by have := hB.size; simp at this; omega); have n2 : w.heap.size ≠ w1.heap.size := n1.symm; have n3 : w.heap.size + 2 ≠ w.heap.size := (by omega); obtain ⟨hcc, hff⟩ := bcell hB))
    all_goals
      clear hcc hff hl hl2
      go_wp2_with fail
      go_meet
      first
        | exact ⟨w1.heap.size, rfl, rfl, hml _ hB⟩
        | exact ⟨w.heap.size + 2, rfl, rfl, hme _ hB⟩
  case rest =>
    obtain ⟨X, rfl, rfl, hM⟩ := hcut
    clear hml hme
    have c0 : wc.cell? ⟨w.heap.size, 0, none⟩ = some (.int .u8 (k.toNat : Int)) := hM.b0.cell 0
    have c1 : wc.cell? ⟨w.heap.size, 1, none⟩ = some (.string s) := hM.b0.cell 1
    go_wp2_with (go_at_call 18; refine (dr _).mono ?_; rintro e w2 ⟨rfl, hb2⟩; have hM2 := hM.below hb2; have e0 : w2.cell? ⟨w.heap.size, 0, none⟩ = some (.int .u8 (k.toNat : Int)) := hM2.b0.cell 0; have e1 : w2.cell? ⟨w.heap.size, 1, none⟩ = some (.string s) := hM2.b0.cell 1; have e2 : w2.cell? ⟨X, 0, none⟩ = some (fnV 36) := hM2.bX.cell 0; have l0 : w.heap.size < w2.heap.size := hM2.b0.lt; have l1 : X < w2.heap.size := hM2.bX.lt; clear c0 c1 hM)
    have hR := Blk.new w2 47 #[.string s, .int .i64 0, .bool false]
    have hA := Blk.new (w2.alloc (.cells #[.string s, .int .i64 0, .bool false] 47)) 29 (askV { kind := k } (.slice none 0 0) (.slice none 0 0) (.slice none 0 0) (.slice none 0 0) (.slice none 0 0))
    rw [show (w2.alloc (.cells #[.string s, .int .i64 0, .bool false] 47)).heap.size = w2.heap.size + 1 by simp] at hA
    have hI := hnew w2.heap.size (w2.heap.size + 1) _ (hR.alloc _) hA (by omega)
    have hM3 := (hM2.below ((Below.refl _ _).alloc (Nat.le_refl _) (.cells #[.string s, .int .i64 0, .bool false] 47))).below ((Below.refl _ _).alloc (Nat.le_refl _) (.cells (askV { kind := k } (.slice none 0 0) (.slice none 0 0) (.slice none 0 0) (.slice none 0 0) (.slice none 0 0)) 29))
    refine (hd _ _ _ _ _ _ _ _ _ hI).mono ?_; rintro e w3 ⟨rfl, kv, vv, av, nv, fv, h3⟩
    have lb0 := hM2.b0.lt
    have lb1 := hM2.b1.lt
    have lbX := hM2.bX.lt
    have hM4 := hM3.kept h3.kp (by simp; omega) (by simp; omega) (by simp; omega) (by intro i hi; simp at hi; omega)
    clear hR hA hI hM3
    obtain ⟨p, hp1, hp2, hp3⟩ := h3.rd
    have r1 : w3.cell? ⟨w2.heap.size, 1, none⟩ = some (.int .i64 p) := hp3.cell 1
    have r2 : w3.cell? ⟨w2.heap.size, 2, none⟩ = some (.bool x) := hp3.cell 2
    have r3 : w3.cell? ⟨w.heap.size, 1, none⟩ = some (.string s) := hM4.b0.cell 1
    clear e0 e1 e2 hb2
    simp only at h3 hp2
    dsimp only
    by_cases hbad : x = true ∨ l ≠ []
    · have hF : decR (a, l, x) = ({}, 4) := by unfold decR; rw [if_pos hbad]
      have HF := Lib.hid hF
      clear hF h3
      have hp : x = true ∨ p < s.size := by
        rcases hbad with h | h
        · exact .inl h
        · right
          have : l.length = s.size - p := by rw [hp2]; exact drop_len s p
          have : 0 < l.length := List.length_pos_iff.2 h
          omega
      clear hbad hp2 hp3
      rcases hp with rfl | hp
      · go_wp2_with ((with_reducible refine wpList_store_mid (op := ⟨none, .store 29 (.tmp 2) (.tmp 41), _, _, _, _⟩) rfl 29 (.tmp 2) (.tmp 41) rfl (w.heap.size + 1) 0 (askV {} (.slice none 0 0) (.slice none 0 0) (.slice none 0 0) (.slice none 0 0) (.slice none 0 0)) ?_ ?_ (hM4.b1.there _ (Nat.le_refl _)) (askInfo' _ _ _ _ _ _) (askOne _ _ _ _ _ _ rfl rfl rfl rfl rfl) ?_); (· rfl); (· rfl))
        have hb := hM4.b1.store (askV {} (.slice none 0 0) (.slice none 0 0) (.slice none 0 0) (.slice none 0 0) (.slice none 0 0)) rfl
        refine bodyPost_ret (v := .tuple #[.agg (askV {} (.slice none 0 0) (.slice none 0 0) (.slice none 0 0) (.slice none 0 0) (.slice none 0 0)), .int .i64 4]) (dec_out _ _ _ _ _ (by rfl) (by rfl) hb rfl) rfl (by rw [HF.out]; exact 
          (DecP.none 4 _ _ (hM4.bel.trans ((Keeps.sets (w.heap.size + 1) (.inl (List.mem_singleton.2 rfl)) _ 0 _ (Keeps.refl [w.heap.size + 1] _)).below (fun i hi => by rw [List.mem_singleton.1 hi]; omega) hM4.bel.size))))
      · cases x
        all_goals
          go_wp2_with ((with_reducible refine wpList_store_mid (op := ⟨none, .store 29 (.tmp 2) (.tmp 41), _, _, _, _⟩) rfl 29 (.tmp 2) (.tmp 41) rfl (w.heap.size + 1) 0 (askV {} (.slice none 0 0) (.slice none 0 0) (.slice none 0 0) (.slice none 0 0) (.slice none 0 0)) ?_ ?_ (hM4.b1.there _ (Nat.le_refl _)) (askInfo' _ _ _ _ _ _) (askOne _ _ _ _ _ _ rfl rfl rfl rfl rfl) ?_); (· rfl); (· rfl))
          have hb := hM4.b1.store (askV {} (.slice none 0 0) (.slice none 0 0) (.slice none 0 0) (.slice none 0 0) (.slice none 0 0)) rfl
          refine bodyPost_ret (v := .tuple #[.agg (askV {} (.slice none 0 0) (.slice none 0 0) (.slice none 0 0) (.slice none 0 0) (.slice none 0 0)), .int .i64 4]) (dec_out _ _ _ _ _ (by rfl) (by rfl) hb rfl) rfl (by rw [HF.out]; exact 
            (DecP.none 4 _ _ (hM4.bel.trans ((Keeps.sets (w.heap.size + 1) (.inl (List.mem_singleton.2 rfl)) _ 0 _ (Keeps.refl [w.heap.size + 1] _)).below (fun i hi => by rw [List.mem_singleton.1 hi]; omega) hM4.bel.size))))
    · have hx : x = false := by cases x; rfl; exact absurd (Or.inl rfl) hbad
      have hl : l = [] := by
        by_cases h : l = []
        · exact h
        · exact absurd (Or.inr h) hbad
      subst hx
      have hF : decR (a, l, false) = (a, 0) := by unfold decR; rw [if_neg hbad]
      have HF := Lib.hid hF
      have hp : ¬ p < s.size := by
        have : l.length = s.size - p := by rw [hp2]; exact drop_len s p
        rw [hl] at this; simp at this; omega
      clear hF hbad hl hp2 hp3
      obtain ⟨fs, hu⟩ := askTy
      have HU := Lib.hid hu
      clear hu
      have har := h3.ar
      have hone : (askV a kv vv av nv fv).all (·.oneCell') = true := by
        obtain ⟨kv', vv', av', nv', fv', e, o1, o2, o3, o4, o5⟩ := har.ex
        rw [Value.agg.injEq] at e
        rw [e]
        exact askOne _ _ _ _ _ _ o1.one o2.one o3.one o4.one o5.one
      have HO := Lib.hid hone
      have hbl : w3.heap[w2.heap.size + 1]? = some (.cells (askV a kv vv av nv fv) 29 (0, 0)) := h3.blk
      have HBL := Lib.hid hbl
      clear hbl
      clear hone
      have hsz := h3.kp.size
      simp at hsz
      go_wp2_with (first
        | ((with_reducible refine wpList_load_row (o := ⟨some 42, .load 29 (.tmp 7), _, _, _, _⟩) rfl 29 (.tmp 7) rfl (w2.heap.size + 1) ?_ 29 (askV a kv vv av nv fv) (0, 0) (.struct fs) HBL.out HU.out ?_ (askInfo' _ _ _ _ _ _) ?_); (· rfl); (· rfl))
        | ((with_reducible refine wpList_store_mid (op := ⟨none, .store 29 (.tmp 2) (.tmp 42), _, _, _, _⟩) rfl 29 (.tmp 2) (.tmp 42) rfl (w.heap.size + 1) 0 (askV a kv vv av nv fv) ?_ ?_ (hM4.b1.there _ (Nat.le_refl _)) (askInfo' _ _ _ _ _ _) (HO.out) ?_); (· rfl); (· rfl)))
      have hb := hM4.b1.store (askV a kv vv av nv fv) rfl
      have hk := Keeps.sets (w.heap.size + 1) (.inl (List.mem_singleton.2 rfl)) (askV a kv vv av nv fv).toList 0 _ (Keeps.refl [w.heap.size + 1] w3)
      refine bodyPost_ret (v := .tuple #[.agg (askV a kv vv av nv fv), .int .i64 0]) (dec_out _ _ _ _ _ (by rfl) (by rfl) hb rfl) rfl ?_
      rw [HF.out]
      refine ⟨_, rfl, ?_, hM4.bel.trans (hk.below (fun i hi => by rw [List.mem_singleton.1 hi]; omega) hM4.bel.size)⟩
      refine har.step (fun b hb => hk.block b hb.2 (fun e => ?_)) (fun b hb => ⟨?_, Nat.lt_of_lt_of_le hb.2 hk.size⟩)
      · rw [List.mem_singleton.1 e] at hb
        have := hb.1
        simp at this; omega
      · have := hb.1
        simp at this; omega
end Go.Proofs.Ytojgeilihoilnaa
namespace Go.Proofs.Ytojgeilihoilnaa
open Go.ChangeShapes Go.WideShapes Go.ChangeAt Go.RowKit
set_option linter.unusedVariables false
attribute [local go_sem ↓] Go.wp_at_zero Go.wp_at_succ

set_option maxHeartbeats 600000 in
set_option maxRecDepth 100000 in
theorem dec_read_named (k : UInt8) (s : ByteArray) (w : World) (i wr : Nat) (hk : Instr.findNow (.int .u8) (u8 k) kEs.toList 0 = some (some (i, .agg #[fnV 38, fnV wr]))) (hr : rightL (k, s.data.toList) = true) (hs : s.size ≤ 1099511627776) (d : Kd)
    (hd : ∀ (R A : Nat) (w0 : World) (w : World) (kv vv av nv fv : Value), AI R A s w0 { kind := k } s.data.toList false kv vv av nv fv w → Calls Try.prog 38 #[.pointer (some ⟨R, 0, none⟩), .pointer (some ⟨A, 0, none⟩)] w (AiP R A s w0 (readD d { kind := k } s.data.toList false))) :
    Calls Try.prog 9 #[.agg #[u8 k, .string s]] w (DecP (decR (readD d { kind := k } s.data.toList false)) w) := by
  have hml := fun w1 => @mid_late w w1 k s (fnV 38) (fnV wr)
  have hme := fun w1 => @mid_early w w1 k s .nilFunc .nilFunc (fnV 38) (fnV wr)
  have dr := fun w => right_any k s w (by omega)
  rw [hr] at dr
  clear hr
  have hnew := fun R A w => AI.new R A s w k
  generalize readD d { kind := k } s.data.toList false = F at *
  obtain ⟨a, l, x⟩ := F
  unfold u8 at *
  go_enter Try.func9, Try.ntmps9
  go_upto_region 1 with fail
  go_cut [4, 5] (fun s4 s5 wx => ∃ X, s4 = .pointer (some ⟨X, 0, none⟩) ∧ s5 = .bool true ∧ Mid w k s X (fnV 38) (fnV wr) wx)
  case first =>
    go_region_held3 (fun w' => w'.cell? ⟨w.heap.size, 0, none⟩ = some (.int .u8 (k.toNat : Int))) (go_keep) ((go_at_call 17; refine (kinds_kp _).mono ?_; rintro e w1 ⟨b, rfl, hb, hB⟩; have hl := look_yes w1 b _ _ hb _ _ _ hk; have hl2 := look_yes (w1.alloc (.cells #[.nilFunc, .nilFunc] 42)) b _ _ ((Below.heap_alloc w1 _ b (Array.getElem?_eq_some_iff.1 hb).1).trans hb) _ _ _ hk; have c0 : w1.cell? ⟨w.heap.size, 0, none⟩ = some (.int .u8 (k.toNat : Int)) := (by rw [(bcell hB).1 _ _ (by simp; omega)]; simp [go_sem]); have n1 : w1.heap.size ≠ w.heap.size := (by have := hB.size; simp at this; omega); have n2 : w.heap.size ≠ w1.heap.size := n1.symm; have n3 : w.heap.size + 2 ≠ w.heap.size := (by omega); obtain ⟨hcc, hff⟩ := bcell hB))
    all_goals
      clear hcc hff hl hl2
      go_wp2_with fail
      go_meet
      first
        | exact ⟨w1.heap.size, rfl, rfl, hml _ hB⟩
        | exact ⟨w.heap.size + 2, rfl, rfl, hme _ hB⟩
  case rest =>
    obtain ⟨X, rfl, rfl, hM⟩ := hcut
    clear hml hme
    have c0 : wc.cell? ⟨w.heap.size, 0, none⟩ = some (.int .u8 (k.toNat : Int)) := hM.b0.cell 0
    have c1 : wc.cell? ⟨w.heap.size, 1, none⟩ = some (.string s) := hM.b0.cell 1
    go_wp2_with (go_at_call 18; refine (dr _).mono ?_; rintro e w2 ⟨rfl, hb2⟩; have hM2 := hM.below hb2; have e0 : w2.cell? ⟨w.heap.size, 0, none⟩ = some (.int .u8 (k.toNat : Int)) := hM2.b0.cell 0; have e1 : w2.cell? ⟨w.heap.size, 1, none⟩ = some (.string s) := hM2.b0.cell 1; have e2 : w2.cell? ⟨X, 0, none⟩ = some (fnV 38) := hM2.bX.cell 0; have l0 : w.heap.size < w2.heap.size := hM2.b0.lt; have l1 : X < w2.heap.size := hM2.bX.lt; clear c0 c1 hM)
    have hR := Blk.new w2 47 #[.string s, .int .i64 0, .bool false]
    have hA := Blk.new (w2.alloc (.cells #[.string s, .int .i64 0, .bool false] 47)) 29 (askV { kind := k } (.slice none 0 0) (.slice none 0 0) (.slice none 0 0) (.slice none 0 0) (.slice none 0 0))
    rw [show (w2.alloc (.cells #[.string s, .int .i64 0, .bool false] 47)).heap.size = w2.heap.size + 1 by simp] at hA
    have hI := hnew w2.heap.size (w2.heap.size + 1) _ (hR.alloc _) hA (by omega)
    have hM3 := (hM2.below ((Below.refl _ _).alloc (Nat.le_refl _) (.cells #[.string s, .int .i64 0, .bool false] 47))).below ((Below.refl _ _).alloc (Nat.le_refl _) (.cells (askV { kind := k } (.slice none 0 0) (.slice none 0 0) (.slice none 0 0) (.slice none 0 0) (.slice none 0 0)) 29))
    refine (hd _ _ _ _ _ _ _ _ _ hI).mono ?_; rintro e w3 ⟨rfl, kv, vv, av, nv, fv, h3⟩
    have lb0 := hM2.b0.lt
    have lb1 := hM2.b1.lt
    have lbX := hM2.bX.lt
    have hM4 := hM3.kept h3.kp (by simp; omega) (by simp; omega) (by simp; omega) (by intro i hi; simp at hi; omega)
    clear hR hA hI hM3
    obtain ⟨p, hp1, hp2, hp3⟩ := h3.rd
    have r1 : w3.cell? ⟨w2.heap.size, 1, none⟩ = some (.int .i64 p) := hp3.cell 1
    have r2 : w3.cell? ⟨w2.heap.size, 2, none⟩ = some (.bool x) := hp3.cell 2
    have r3 : w3.cell? ⟨w.heap.size, 1, none⟩ = some (.string s) := hM4.b0.cell 1
    clear e0 e1 e2 hb2
    simp only at h3 hp2
    dsimp only
    by_cases hbad : x = true ∨ l ≠ []
    · have hF : decR (a, l, x) = ({}, 4) := by unfold decR; rw [if_pos hbad]
      have HF := Lib.hid hF
      clear hF h3
      have hp : x = true ∨ p < s.size := by
        rcases hbad with h | h
        · exact .inl h
        · right
          have : l.length = s.size - p := by rw [hp2]; exact drop_len s p
          have : 0 < l.length := List.length_pos_iff.2 h
          omega
      clear hbad hp2 hp3
      rcases hp with rfl | hp
      · go_wp2_with ((with_reducible refine wpList_store_mid (op := ⟨none, .store 29 (.tmp 2) (.tmp 41), _, _, _, _⟩) rfl 29 (.tmp 2) (.tmp 41) rfl (w.heap.size + 1) 0 (askV {} (.slice none 0 0) (.slice none 0 0) (.slice none 0 0) (.slice none 0 0) (.slice none 0 0)) ?_ ?_ (hM4.b1.there _ (Nat.le_refl _)) (askInfo' _ _ _ _ _ _) (askOne _ _ _ _ _ _ rfl rfl rfl rfl rfl) ?_); (· rfl); (· rfl))
        have hb := hM4.b1.store (askV {} (.slice none 0 0) (.slice none 0 0) (.slice none 0 0) (.slice none 0 0) (.slice none 0 0)) rfl
        refine bodyPost_ret (v := .tuple #[.agg (askV {} (.slice none 0 0) (.slice none 0 0) (.slice none 0 0) (.slice none 0 0) (.slice none 0 0)), .int .i64 4]) (dec_out _ _ _ _ _ (by rfl) (by rfl) hb rfl) rfl (by rw [HF.out]; exact 
          (DecP.none 4 _ _ (hM4.bel.trans ((Keeps.sets (w.heap.size + 1) (.inl (List.mem_singleton.2 rfl)) _ 0 _ (Keeps.refl [w.heap.size + 1] _)).below (fun i hi => by rw [List.mem_singleton.1 hi]; omega) hM4.bel.size))))
      · cases x
        all_goals
          go_wp2_with ((with_reducible refine wpList_store_mid (op := ⟨none, .store 29 (.tmp 2) (.tmp 41), _, _, _, _⟩) rfl 29 (.tmp 2) (.tmp 41) rfl (w.heap.size + 1) 0 (askV {} (.slice none 0 0) (.slice none 0 0) (.slice none 0 0) (.slice none 0 0) (.slice none 0 0)) ?_ ?_ (hM4.b1.there _ (Nat.le_refl _)) (askInfo' _ _ _ _ _ _) (askOne _ _ _ _ _ _ rfl rfl rfl rfl rfl) ?_); (· rfl); (· rfl))
          have hb := hM4.b1.store (askV {} (.slice none 0 0) (.slice none 0 0) (.slice none 0 0) (.slice none 0 0) (.slice none 0 0)) rfl
          refine bodyPost_ret (v := .tuple #[.agg (askV {} (.slice none 0 0) (.slice none 0 0) (.slice none 0 0) (.slice none 0 0) (.slice none 0 0)), .int .i64 4]) (dec_out _ _ _ _ _ (by rfl) (by rfl) hb rfl) rfl (by rw [HF.out]; exact 
            (DecP.none 4 _ _ (hM4.bel.trans ((Keeps.sets (w.heap.size + 1) (.inl (List.mem_singleton.2 rfl)) _ 0 _ (Keeps.refl [w.heap.size + 1] _)).below (fun i hi => by rw [List.mem_singleton.1 hi]; omega) hM4.bel.size))))
    · have hx : x = false := by cases x; rfl; exact absurd (Or.inl rfl) hbad
      have hl : l = [] := by
        by_cases h : l = []
        · exact h
        · exact absurd (Or.inr h) hbad
      subst hx
      have hF : decR (a, l, false) = (a, 0) := by unfold decR; rw [if_neg hbad]
      have HF := Lib.hid hF
      have hp : ¬ p < s.size := by
        have : l.length = s.size - p := by rw [hp2]; exact drop_len s p
        rw [hl] at this; simp at this; omega
      clear hF hbad hl hp2 hp3
      obtain ⟨fs, hu⟩ := askTy
      have HU := Lib.hid hu
      clear hu
      have har := h3.ar
      have hone : (askV a kv vv av nv fv).all (·.oneCell') = true := by
        obtain ⟨kv', vv', av', nv', fv', e, o1, o2, o3, o4, o5⟩ := har.ex
        rw [Value.agg.injEq] at e
        rw [e]
        exact askOne _ _ _ _ _ _ o1.one o2.one o3.one o4.one o5.one
      have HO := Lib.hid hone
      have hbl : w3.heap[w2.heap.size + 1]? = some (.cells (askV a kv vv av nv fv) 29 (0, 0)) := h3.blk
      have HBL := Lib.hid hbl
      clear hbl
      clear hone
      have hsz := h3.kp.size
      simp at hsz
      go_wp2_with (first
        | ((with_reducible refine wpList_load_row (o := ⟨some 42, .load 29 (.tmp 7), _, _, _, _⟩) rfl 29 (.tmp 7) rfl (w2.heap.size + 1) ?_ 29 (askV a kv vv av nv fv) (0, 0) (.struct fs) HBL.out HU.out ?_ (askInfo' _ _ _ _ _ _) ?_); (· rfl); (· rfl))
        | ((with_reducible refine wpList_store_mid (op := ⟨none, .store 29 (.tmp 2) (.tmp 42), _, _, _, _⟩) rfl 29 (.tmp 2) (.tmp 42) rfl (w.heap.size + 1) 0 (askV a kv vv av nv fv) ?_ ?_ (hM4.b1.there _ (Nat.le_refl _)) (askInfo' _ _ _ _ _ _) (HO.out) ?_); (· rfl); (· rfl)))
      have hb := hM4.b1.store (askV a kv vv av nv fv) rfl
      have hk := Keeps.sets (w.heap.size + 1) (.inl (List.mem_singleton.2 rfl)) (askV a kv vv av nv fv).toList 0 _ (Keeps.refl [w.heap.size + 1] w3)
      refine bodyPost_ret (v := .tuple #[.agg (askV a kv vv av nv fv), .int .i64 0]) (dec_out _ _ _ _ _ (by rfl) (by rfl) hb rfl) rfl ?_
      rw [HF.out]
      refine ⟨_, rfl, ?_, hM4.bel.trans (hk.below (fun i hi => by rw [List.mem_singleton.1 hi]; omega) hM4.bel.size)⟩
      refine har.step (fun b hb => hk.block b hb.2 (fun e => ?_)) (fun b hb => ⟨?_, Nat.lt_of_lt_of_le hb.2 hk.size⟩)
      · rw [List.mem_singleton.1 e] at hb
        have := hb.1
        simp at this; omega
      · have := hb.1
        simp at this; omega
end Go.Proofs.Ytojgeilihoilnaa
namespace Go.Proofs.Ytojgeilihoilnaa
open Go.ChangeShapes Go.WideShapes Go.ChangeAt Go.RowKit
set_option linter.unusedVariables false
attribute [local go_sem ↓] Go.wp_at_zero Go.wp_at_succ

set_option maxHeartbeats 600000 in
set_option maxRecDepth 100000 in
theorem dec_read_execute (k : UInt8) (s : ByteArray) (w : World) (i wr : Nat) (hk : Instr.findNow (.int .u8) (u8 k) kEs.toList 0 = some (some (i, .agg #[fnV 40, fnV wr]))) (hr : rightL (k, s.data.toList) = true) (hs : s.size ≤ 1099511627776) (d : Kd)
    (hd : ∀ (R A : Nat) (w0 : World) (w : World) (kv vv av nv fv : Value), AI R A s w0 { kind := k } s.data.toList false kv vv av nv fv w → Calls Try.prog 40 #[.pointer (some ⟨R, 0, none⟩), .pointer (some ⟨A, 0, none⟩)] w (AiP R A s w0 (readD d { kind := k } s.data.toList false))) :
    Calls Try.prog 9 #[.agg #[u8 k, .string s]] w (DecP (decR (readD d { kind := k } s.data.toList false)) w) := by
  have hml := fun w1 => @mid_late w w1 k s (fnV 40) (fnV wr)
  have hme := fun w1 => @mid_early w w1 k s .nilFunc .nilFunc (fnV 40) (fnV wr)
  have dr := fun w => right_any k s w (by omega)
  rw [hr] at dr
  clear hr
  have hnew := fun R A w => AI.new R A s w k
  generalize readD d { kind := k } s.data.toList false = F at *
  obtain ⟨a, l, x⟩ := F
  unfold u8 at *
  go_enter Try.func9, Try.ntmps9
  go_upto_region 1 with fail
  go_cut [4, 5] (fun s4 s5 wx => ∃ X, s4 = .pointer (some ⟨X, 0, none⟩) ∧ s5 = .bool true ∧ Mid w k s X (fnV 40) (fnV wr) wx)
  case first =>
    go_region_held3 (fun w' => w'.cell? ⟨w.heap.size, 0, none⟩ = some (.int .u8 (k.toNat : Int))) (go_keep) ((go_at_call 17; refine (kinds_kp _).mono ?_; rintro e w1 ⟨b, rfl, hb, hB⟩; have hl := look_yes w1 b _ _ hb _ _ _ hk; have hl2 := look_yes (w1.alloc (.cells #[.nilFunc, .nilFunc] 42)) b _ _ ((Below.heap_alloc w1 _ b (Array.getElem?_eq_some_iff.1 hb).1).trans hb) _ _ _ hk; have c0 : w1.cell? ⟨w.heap.size, 0, none⟩ = some (.int .u8 (k.toNat : Int)) := (by rw [(bcell hB).1 _ _ (by simp; omega)]; simp [go_sem]); have n1 : w1.heap.size ≠ w.heap.size := (by have := hB.size; simp at this; omega); have n2 : w.heap.size ≠ w1.heap.size := n1.symm; have n3 : w.heap.size + 2 ≠ w.heap.size := (by omega); obtain ⟨hcc, hff⟩ := bcell hB))
    all_goals
      clear hcc hff hl hl2
      go_wp2_with fail
      go_meet
      first
        | exact ⟨w1.heap.size, rfl, rfl, hml _ hB⟩
        | exact ⟨w.heap.size + 2, rfl, rfl, hme _ hB⟩
  case rest =>
    obtain ⟨X, rfl, rfl, hM⟩ := hcut
    clear hml hme
    have c0 : wc.cell? ⟨w.heap.size, 0, none⟩ = some (.int .u8 (k.toNat : Int)) := hM.b0.cell 0
    have c1 : wc.cell? ⟨w.heap.size, 1, none⟩ = some (.string s) := hM.b0.cell 1
    go_wp2_with (go_at_call 18; refine (dr _).mono ?_; rintro e w2 ⟨rfl, hb2⟩; have hM2 := hM.below hb2; have e0 : w2.cell? ⟨w.heap.size, 0, none⟩ = some (.int .u8 (k.toNat : Int)) := hM2.b0.cell 0; have e1 : w2.cell? ⟨w.heap.size, 1, none⟩ = some (.string s) := hM2.b0.cell 1; have e2 : w2.cell? ⟨X, 0, none⟩ = some (fnV 40) := hM2.bX.cell 0; have l0 : w.heap.size < w2.heap.size := hM2.b0.lt; have l1 : X < w2.heap.size := hM2.bX.lt; clear c0 c1 hM)
    have hR := Blk.new w2 47 #[.string s, .int .i64 0, .bool false]
    have hA := Blk.new (w2.alloc (.cells #[.string s, .int .i64 0, .bool false] 47)) 29 (askV { kind := k } (.slice none 0 0) (.slice none 0 0) (.slice none 0 0) (.slice none 0 0) (.slice none 0 0))
    rw [show (w2.alloc (.cells #[.string s, .int .i64 0, .bool false] 47)).heap.size = w2.heap.size + 1 by simp] at hA
    have hI := hnew w2.heap.size (w2.heap.size + 1) _ (hR.alloc _) hA (by omega)
    have hM3 := (hM2.below ((Below.refl _ _).alloc (Nat.le_refl _) (.cells #[.string s, .int .i64 0, .bool false] 47))).below ((Below.refl _ _).alloc (Nat.le_refl _) (.cells (askV { kind := k } (.slice none 0 0) (.slice none 0 0) (.slice none 0 0) (.slice none 0 0) (.slice none 0 0)) 29))
    refine (hd _ _ _ _ _ _ _ _ _ hI).mono ?_; rintro e w3 ⟨rfl, kv, vv, av, nv, fv, h3⟩
    have lb0 := hM2.b0.lt
    have lb1 := hM2.b1.lt
    have lbX := hM2.bX.lt
    have hM4 := hM3.kept h3.kp (by simp; omega) (by simp; omega) (by simp; omega) (by intro i hi; simp at hi; omega)
    clear hR hA hI hM3
    obtain ⟨p, hp1, hp2, hp3⟩ := h3.rd
    have r1 : w3.cell? ⟨w2.heap.size, 1, none⟩ = some (.int .i64 p) := hp3.cell 1
    have r2 : w3.cell? ⟨w2.heap.size, 2, none⟩ = some (.bool x) := hp3.cell 2
    have r3 : w3.cell? ⟨w.heap.size, 1, none⟩ = some (.string s) := hM4.b0.cell 1
    clear e0 e1 e2 hb2
    simp only at h3 hp2
    dsimp only
    by_cases hbad : x = true ∨ l ≠ []
    · have hF : decR (a, l, x) = ({}, 4) := by unfold decR; rw [if_pos hbad]
      have HF := Lib.hid hF
      clear hF h3
      have hp : x = true ∨ p < s.size := by
        rcases hbad with h | h
        · exact .inl h
        · right
          have : l.length = s.size - p := by rw [hp2]; exact drop_len s p
          have : 0 < l.length := List.length_pos_iff.2 h
          omega
      clear hbad hp2 hp3
      rcases hp with rfl | hp
      · go_wp2_with ((with_reducible refine wpList_store_mid (op := ⟨none, .store 29 (.tmp 2) (.tmp 41), _, _, _, _⟩) rfl 29 (.tmp 2) (.tmp 41) rfl (w.heap.size + 1) 0 (askV {} (.slice none 0 0) (.slice none 0 0) (.slice none 0 0) (.slice none 0 0) (.slice none 0 0)) ?_ ?_ (hM4.b1.there _ (Nat.le_refl _)) (askInfo' _ _ _ _ _ _) (askOne _ _ _ _ _ _ rfl rfl rfl rfl rfl) ?_); (· rfl); (· rfl))
        have hb := hM4.b1.store (askV {} (.slice none 0 0) (.slice none 0 0) (.slice none 0 0) (.slice none 0 0) (.slice none 0 0)) rfl
        refine bodyPost_ret (v := .tuple #[.agg (askV {} (.slice none 0 0) (.slice none 0 0) (.slice none 0 0) (.slice none 0 0) (.slice none 0 0)), .int .i64 4]) (dec_out _ _ _ _ _ (by rfl) (by rfl) hb rfl) rfl (by rw [HF.out]; exact 
          (DecP.none 4 _ _ (hM4.bel.trans ((Keeps.sets (w.heap.size + 1) (.inl (List.mem_singleton.2 rfl)) _ 0 _ (Keeps.refl [w.heap.size + 1] _)).below (fun i hi => by rw [List.mem_singleton.1 hi]; omega) hM4.bel.size))))
      · cases x
        all_goals
          go_wp2_with ((with_reducible refine wpList_store_mid (op := ⟨none, .store 29 (.tmp 2) (.tmp 41), _, _, _, _⟩) rfl 29 (.tmp 2) (.tmp 41) rfl (w.heap.size + 1) 0 (askV {} (.slice none 0 0) (.slice none 0 0) (.slice none 0 0) (.slice none 0 0) (.slice none 0 0)) ?_ ?_ (hM4.b1.there _ (Nat.le_refl _)) (askInfo' _ _ _ _ _ _) (askOne _ _ _ _ _ _ rfl rfl rfl rfl rfl) ?_); (· rfl); (· rfl))
          have hb := hM4.b1.store (askV {} (.slice none 0 0) (.slice none 0 0) (.slice none 0 0) (.slice none 0 0) (.slice none 0 0)) rfl
          refine bodyPost_ret (v := .tuple #[.agg (askV {} (.slice none 0 0) (.slice none 0 0) (.slice none 0 0) (.slice none 0 0) (.slice none 0 0)), .int .i64 4]) (dec_out _ _ _ _ _ (by rfl) (by rfl) hb rfl) rfl (by rw [HF.out]; exact 
            (DecP.none 4 _ _ (hM4.bel.trans ((Keeps.sets (w.heap.size + 1) (.inl (List.mem_singleton.2 rfl)) _ 0 _ (Keeps.refl [w.heap.size + 1] _)).below (fun i hi => by rw [List.mem_singleton.1 hi]; omega) hM4.bel.size))))
    · have hx : x = false := by cases x; rfl; exact absurd (Or.inl rfl) hbad
      have hl : l = [] := by
        by_cases h : l = []
        · exact h
        · exact absurd (Or.inr h) hbad
      subst hx
      have hF : decR (a, l, false) = (a, 0) := by unfold decR; rw [if_neg hbad]
      have HF := Lib.hid hF
      have hp : ¬ p < s.size := by
        have : l.length = s.size - p := by rw [hp2]; exact drop_len s p
        rw [hl] at this; simp at this; omega
      clear hF hbad hl hp2 hp3
      obtain ⟨fs, hu⟩ := askTy
      have HU := Lib.hid hu
      clear hu
      have har := h3.ar
      have hone : (askV a kv vv av nv fv).all (·.oneCell') = true := by
        obtain ⟨kv', vv', av', nv', fv', e, o1, o2, o3, o4, o5⟩ := har.ex
        rw [Value.agg.injEq] at e
        rw [e]
        exact askOne _ _ _ _ _ _ o1.one o2.one o3.one o4.one o5.one
      have HO := Lib.hid hone
      have hbl : w3.heap[w2.heap.size + 1]? = some (.cells (askV a kv vv av nv fv) 29 (0, 0)) := h3.blk
      have HBL := Lib.hid hbl
      clear hbl
      clear hone
      have hsz := h3.kp.size
      simp at hsz
      go_wp2_with (first
        | ((with_reducible refine wpList_load_row (o := ⟨some 42, .load 29 (.tmp 7), _, _, _, _⟩) rfl 29 (.tmp 7) rfl (w2.heap.size + 1) ?_ 29 (askV a kv vv av nv fv) (0, 0) (.struct fs) HBL.out HU.out ?_ (askInfo' _ _ _ _ _ _) ?_); (· rfl); (· rfl))
        | ((with_reducible refine wpList_store_mid (op := ⟨none, .store 29 (.tmp 2) (.tmp 42), _, _, _, _⟩) rfl 29 (.tmp 2) (.tmp 42) rfl (w.heap.size + 1) 0 (askV a kv vv av nv fv) ?_ ?_ (hM4.b1.there _ (Nat.le_refl _)) (askInfo' _ _ _ _ _ _) (HO.out) ?_); (· rfl); (· rfl)))
      have hb := hM4.b1.store (askV a kv vv av nv fv) rfl
      have hk := Keeps.sets (w.heap.size + 1) (.inl (List.mem_singleton.2 rfl)) (askV a kv vv av nv fv).toList 0 _ (Keeps.refl [w.heap.size + 1] w3)
      refine bodyPost_ret (v := .tuple #[.agg (askV a kv vv av nv fv), .int .i64 0]) (dec_out _ _ _ _ _ (by rfl) (by rfl) hb rfl) rfl ?_
      rw [HF.out]
      refine ⟨_, rfl, ?_, hM4.bel.trans (hk.below (fun i hi => by rw [List.mem_singleton.1 hi]; omega) hM4.bel.size)⟩
      refine har.step (fun b hb => hk.block b hb.2 (fun e => ?_)) (fun b hb => ⟨?_, Nat.lt_of_lt_of_le hb.2 hk.size⟩)
      · rw [List.mem_singleton.1 e] at hb
        have := hb.1
        simp at this; omega
      · have := hb.1
        simp at this; omega
end Go.Proofs.Ytojgeilihoilnaa
