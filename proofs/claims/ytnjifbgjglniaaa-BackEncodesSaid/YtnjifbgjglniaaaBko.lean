/- What package back's Decode answers, for every message. Condition: the body is of at most 2^40 bytes. -/
import Derived.Test.YtnjifbgjglniaaaBkn
namespace Go.Proofs.Ytnjifbgjglniaaa.BK
open Go.Proofs.Ytnjifbgjglniaaa
open Go.ChangeShapes Go.WideShapes Go.ChangeAt Go.RowKit
set_option linter.unusedVariables false
set_option linter.unusedSimpArgs false
set_option maxRecDepth 100000
attribute [local go_sem ↓] Go.wp_at_zero Go.wp_at_succ


set_option maxHeartbeats 800000 in
theorem dec_read_login (k : UInt8) (s : ByteArray) (w : World) (hk : kd k = some .login) (hr : rightL (k, s.data.toList) = true) (hs : s.size ≤ 1099511627776) :
    Calls Try.prog 9 #[.agg #[u8 k, .string s]] w (DecP (decR (readD .login { kind := k } s.data.toList false)) w) := by
  have hst : ∀ (i : Nat) (W : World) (p : Addr) (md), (store p (.func (.func i) #[] #[]) md).run Try.prog W = stored Try.prog W p (.func (.func i) #[] #[]) md := fun i W p md => run_store Try.prog W p _ md rfl
  have db := bodies_some k .login hk
  have hmn := fun w1 => @mid_new w w1 k s (fnV (rdN .login)) (fnV (wrN .login))
  have dr := fun w => right_any k s w (by omega)
  rw [hr] at dr
  have hd : ∀ (R A : Nat) (w0 : World) (w : World) (kv vv nv : Value), AI R A s w0 { kind := k } s.data.toList false kv vv nv w → Calls Try.prog 37 #[.pointer (some ⟨R, 0, none⟩), .pointer (some ⟨A, 0, none⟩)] w (AiP R A s w0 (readD .login { kind := k } s.data.toList false)) := fun R A w0 w kv vv nv h => rlogin_any R A s w0 _ _ _ kv vv nv w h hs
  have hnew := fun R A w => AI.new R A s w k
  generalize readD .login { kind := k } s.data.toList false = F at *
  obtain ⟨a, l, x⟩ := F
  simp only [rdN] at db hmn
  generalize wrN .login = wr at *
  clear hr hk
  unfold u8 at *
  go_enter Try.func9, Try.ntmps9
  go_wp2_with fail
  refine (db _).mono ?_; rintro e w1 ⟨rfl, hb1⟩
  have hM := hmn w1 hb1
  clear hmn hb1 db
  have c0 : (w1.alloc (.cells #[fnV 37, fnV wr] 51)).cell? ⟨w.heap.size, 0, none⟩ = some (.int .u8 (k.toNat : Int)) := hM.b0.cell 0
  have c1 : (w1.alloc (.cells #[fnV 37, fnV wr] 51)).cell? ⟨w.heap.size, 1, none⟩ = some (.string s) := hM.b0.cell 1
  go_wp2_with fail
  refine (dr _).mono ?_; rintro e w2 ⟨rfl, hb2⟩
  have hM2 := hM.below hb2
  have e0 : w2.cell? ⟨w.heap.size, 0, none⟩ = some (.int .u8 (k.toNat : Int)) := hM2.b0.cell 0
  have e1 : w2.cell? ⟨w.heap.size, 1, none⟩ = some (.string s) := hM2.b0.cell 1
  have e2 : w2.cell? ⟨w1.heap.size, 0, none⟩ = some (fnV 37) := hM2.bX.cell 0
  have l0 : w.heap.size < w2.heap.size := hM2.b0.lt
  have l1 : w1.heap.size < w2.heap.size := hM2.bX.lt
  clear c0 c1 hM hb2
  go_wp2_with fail
  have hR := Blk.new w2 55 #[.string s, .int .i64 0, .bool false]
  have hA := Blk.new (w2.alloc (.cells #[.string s, .int .i64 0, .bool false] 55)) 28 (tellV { kind := k } (.slice none 0 0) (.slice none 0 0) (.slice none 0 0))
  rw [show (w2.alloc (.cells #[.string s, .int .i64 0, .bool false] 55)).heap.size = w2.heap.size + 1 by simp] at hA
  have hI := hnew w2.heap.size (w2.heap.size + 1) _ (hR.alloc _) hA (by omega)
  have hM3 := (hM2.below ((Below.refl _ _).alloc (Nat.le_refl _) (.cells #[.string s, .int .i64 0, .bool false] 55))).below ((Below.refl _ _).alloc (Nat.le_refl _) (.cells (tellV { kind := k } (.slice none 0 0) (.slice none 0 0) (.slice none 0 0)) 28))
  refine (hd _ _ _ _ _ _ _ hI).mono ?_; rintro e w3 ⟨rfl, kv, vv, nv, h3⟩
  have lb0 := hM2.b0.lt
  have lb1 := hM2.b1.lt
  have lbX := hM2.bX.lt
  have hM4 := hM3.kept h3.kp (by simp; omega) (by simp; omega) (by simp; omega) (by intro i hi; simp at hi; omega)
  clear hR hA hI hM3
  obtain ⟨p, hp1, hp2, hp3⟩ := h3.rd
  have r1 : w3.cell? ⟨w2.heap.size, 1, none⟩ = some (.int .i64 p) := hp3.cell 1
  have r2 : w3.cell? ⟨w2.heap.size, 2, none⟩ = some (.bool x) := hp3.cell 2
  have r3 : w3.cell? ⟨w.heap.size, 1, none⟩ = some (.string s) := hM4.b0.cell 1
  clear e0 e1 e2 hd hnew
  simp only at h3 hp2
  dsimp only
  by_cases hbad : x = true ∨ l ≠ []
  · have hF : decR (a, l, x) = ({}, 4) := by unfold decR; rw [if_pos hbad]
    have HF := Lib.hid hF
    clear hF h3
    have hp : x = true ∨ p < s.size := by
      rcases hbad with h | h
      · exact .inl h
      · right
        have : l.length = s.size - p := by rw [hp2]; exact drop_len s p
        have : 0 < l.length := List.length_pos_iff.2 h
        omega
    clear hbad hp2 hp3
    rcases hp with rfl | hp
    · go_wp2_with ((with_reducible refine wpList_store_mid (op := ⟨none, .store 28 (.tmp 2) (.tmp 40), _, _, _, _⟩) rfl 28 (.tmp 2) (.tmp 40) rfl (w.heap.size + 1) 0 (tellV {} (.slice none 0 0) (.slice none 0 0) (.slice none 0 0)) ?_ ?_ (hM4.b1.there _ (Nat.le_refl _)) (tellInfo' _ _ _ _) (tellOne _ _ _ _ rfl rfl rfl) ?_); (· rfl); (· rfl))
      have hb := hM4.b1.store (tellV {} (.slice none 0 0) (.slice none 0 0) (.slice none 0 0)) rfl
      refine bodyPost_ret (v := .tuple #[.agg (tellV {} (.slice none 0 0) (.slice none 0 0) (.slice none 0 0)), .int .i64 4]) (dec_out _ _ _ _ _ (by rfl) (by rfl) hb rfl) rfl ?_
      rw [HF.out]
      exact DecP.none 4 _ _ (hM4.bel.trans ((Keeps.sets (w.heap.size + 1) (.inl (List.mem_singleton.2 rfl)) _ 0 _ (Keeps.refl [w.heap.size + 1] _)).below (fun i hi => by rw [List.mem_singleton.1 hi]; omega) hM4.bel.size))
    · cases x
      all_goals
        go_wp2_with ((with_reducible refine wpList_store_mid (op := ⟨none, .store 28 (.tmp 2) (.tmp 40), _, _, _, _⟩) rfl 28 (.tmp 2) (.tmp 40) rfl (w.heap.size + 1) 0 (tellV {} (.slice none 0 0) (.slice none 0 0) (.slice none 0 0)) ?_ ?_ (hM4.b1.there _ (Nat.le_refl _)) (tellInfo' _ _ _ _) (tellOne _ _ _ _ rfl rfl rfl) ?_); (· rfl); (· rfl))
        have hb := hM4.b1.store (tellV {} (.slice none 0 0) (.slice none 0 0) (.slice none 0 0)) rfl
        refine bodyPost_ret (v := .tuple #[.agg (tellV {} (.slice none 0 0) (.slice none 0 0) (.slice none 0 0)), .int .i64 4]) (dec_out _ _ _ _ _ (by rfl) (by rfl) hb rfl) rfl ?_
        rw [HF.out]
        exact DecP.none 4 _ _ (hM4.bel.trans ((Keeps.sets (w.heap.size + 1) (.inl (List.mem_singleton.2 rfl)) _ 0 _ (Keeps.refl [w.heap.size + 1] _)).below (fun i hi => by rw [List.mem_singleton.1 hi]; omega) hM4.bel.size))
  · have hx : x = false := by cases x; rfl; exact absurd (Or.inl rfl) hbad
    have hl : l = [] := by
      by_cases h : l = []
      · exact h
      · exact absurd (Or.inr h) hbad
    subst hx
    have hF : decR (a, l, false) = (a, 0) := by unfold decR; rw [if_neg hbad]
    have HF := Lib.hid hF
    have hp : ¬ p < s.size := by
      have : l.length = s.size - p := by rw [hp2]; exact drop_len s p
      rw [hl] at this; simp at this; omega
    clear hF hbad hl hp2 hp3
    obtain ⟨fs, hu⟩ := tellTy
    have HU := Lib.hid hu
    clear hu
    have har := h3.ar
    have hone : (tellV a kv vv nv).all (·.oneCell') = true := by
      obtain ⟨kv', vv', nv', e, o1, o2, o3⟩ := har.ex
      rw [Value.agg.injEq] at e
      rw [e]
      exact tellOne _ _ _ _ o1.one o2.one o3.one
    have HO := Lib.hid hone
    have hbl : w3.heap[w2.heap.size + 1]? = some (.cells (tellV a kv vv nv) 28 (0, 0)) := h3.blk
    have HBL := Lib.hid hbl
    clear hbl
    clear hone
    have hsz := h3.kp.size
    simp at hsz
    go_wp2_with (first
      | ((with_reducible refine wpList_load_row (o := ⟨some 41, .load 28 (.tmp 7), _, _, _, _⟩) rfl 28 (.tmp 7) rfl (w2.heap.size + 1) ?_ 28 (tellV a kv vv nv) (0, 0) (.struct fs) HBL.out HU.out ?_ (tellInfo' _ _ _ _) ?_); (· rfl); (· rfl))
      | ((with_reducible refine wpList_store_mid (op := ⟨none, .store 28 (.tmp 2) (.tmp 41), _, _, _, _⟩) rfl 28 (.tmp 2) (.tmp 41) rfl (w.heap.size + 1) 0 (tellV a kv vv nv) ?_ ?_ (hM4.b1.there _ (Nat.le_refl _)) (tellInfo' _ _ _ _) (HO.out) ?_); (· rfl); (· rfl)))
    have hb := hM4.b1.store (tellV a kv vv nv) rfl
    have hk := Keeps.sets (w.heap.size + 1) (.inl (List.mem_singleton.2 rfl)) (tellV a kv vv nv).toList 0 _ (Keeps.refl [w.heap.size + 1] w3)
    refine bodyPost_ret (v := .tuple #[.agg (tellV a kv vv nv), .int .i64 0]) (dec_out _ _ _ _ _ (by rfl) (by rfl) hb rfl) rfl ?_
    rw [HF.out]
    refine ⟨_, rfl, ?_, hM4.bel.trans (hk.below (fun i hi => by rw [List.mem_singleton.1 hi]; omega) hM4.bel.size)⟩
    refine har.step (fun b hb => hk.block b hb.2 (fun e => ?_)) (fun b hb => ⟨?_, Nat.lt_of_lt_of_le hb.2 hk.size⟩)
    · rw [List.mem_singleton.1 e] at hb
      have := hb.1
      simp at this; omega
    · have := hb.1
      simp at this; omega

set_option maxHeartbeats 800000 in
theorem dec_read_secret (k : UInt8) (s : ByteArray) (w : World) (hk : kd k = some .secret) (hr : rightL (k, s.data.toList) = true) (hs : s.size ≤ 1099511627776) :
    Calls Try.prog 9 #[.agg #[u8 k, .string s]] w (DecP (decR (readD .secret { kind := k } s.data.toList false)) w) := by
  have hst : ∀ (i : Nat) (W : World) (p : Addr) (md), (store p (.func (.func i) #[] #[]) md).run Try.prog W = stored Try.prog W p (.func (.func i) #[] #[]) md := fun i W p md => run_store Try.prog W p _ md rfl
  have db := bodies_some k .secret hk
  have hmn := fun w1 => @mid_new w w1 k s (fnV (rdN .secret)) (fnV (wrN .secret))
  have dr := fun w => right_any k s w (by omega)
  rw [hr] at dr
  have hd : ∀ (R A : Nat) (w0 : World) (w : World) (kv vv nv : Value), AI R A s w0 { kind := k } s.data.toList false kv vv nv w → Calls Try.prog 39 #[.pointer (some ⟨R, 0, none⟩), .pointer (some ⟨A, 0, none⟩)] w (AiP R A s w0 (readD .secret { kind := k } s.data.toList false)) := fun R A w0 w kv vv nv h => rsecret_any R A s w0 _ _ _ kv vv nv w h hs
  have hnew := fun R A w => AI.new R A s w k
  generalize readD .secret { kind := k } s.data.toList false = F at *
  obtain ⟨a, l, x⟩ := F
  simp only [rdN] at db hmn
  generalize wrN .secret = wr at *
  clear hr hk
  unfold u8 at *
  go_enter Try.func9, Try.ntmps9
  go_wp2_with fail
  refine (db _).mono ?_; rintro e w1 ⟨rfl, hb1⟩
  have hM := hmn w1 hb1
  clear hmn hb1 db
  have c0 : (w1.alloc (.cells #[fnV 39, fnV wr] 51)).cell? ⟨w.heap.size, 0, none⟩ = some (.int .u8 (k.toNat : Int)) := hM.b0.cell 0
  have c1 : (w1.alloc (.cells #[fnV 39, fnV wr] 51)).cell? ⟨w.heap.size, 1, none⟩ = some (.string s) := hM.b0.cell 1
  go_wp2_with fail
  refine (dr _).mono ?_; rintro e w2 ⟨rfl, hb2⟩
  have hM2 := hM.below hb2
  have e0 : w2.cell? ⟨w.heap.size, 0, none⟩ = some (.int .u8 (k.toNat : Int)) := hM2.b0.cell 0
  have e1 : w2.cell? ⟨w.heap.size, 1, none⟩ = some (.string s) := hM2.b0.cell 1
  have e2 : w2.cell? ⟨w1.heap.size, 0, none⟩ = some (fnV 39) := hM2.bX.cell 0
  have l0 : w.heap.size < w2.heap.size := hM2.b0.lt
  have l1 : w1.heap.size < w2.heap.size := hM2.bX.lt
  clear c0 c1 hM hb2
  go_wp2_with fail
  have hR := Blk.new w2 55 #[.string s, .int .i64 0, .bool false]
  have hA := Blk.new (w2.alloc (.cells #[.string s, .int .i64 0, .bool false] 55)) 28 (tellV { kind := k } (.slice none 0 0) (.slice none 0 0) (.slice none 0 0))
  rw [show (w2.alloc (.cells #[.string s, .int .i64 0, .bool false] 55)).heap.size = w2.heap.size + 1 by simp] at hA
  have hI := hnew w2.heap.size (w2.heap.size + 1) _ (hR.alloc _) hA (by omega)
  have hM3 := (hM2.below ((Below.refl _ _).alloc (Nat.le_refl _) (.cells #[.string s, .int .i64 0, .bool false] 55))).below ((Below.refl _ _).alloc (Nat.le_refl _) (.cells (tellV { kind := k } (.slice none 0 0) (.slice none 0 0) (.slice none 0 0)) 28))
  refine (hd _ _ _ _ _ _ _ hI).mono ?_; rintro e w3 ⟨rfl, kv, vv, nv, h3⟩
  have lb0 := hM2.b0.lt
  have lb1 := hM2.b1.lt
  have lbX := hM2.bX.lt
  have hM4 := hM3.kept h3.kp (by simp; omega) (by simp; omega) (by simp; omega) (by intro i hi; simp at hi; omega)
  clear hR hA hI hM3
  obtain ⟨p, hp1, hp2, hp3⟩ := h3.rd
  have r1 : w3.cell? ⟨w2.heap.size, 1, none⟩ = some (.int .i64 p) := hp3.cell 1
  have r2 : w3.cell? ⟨w2.heap.size, 2, none⟩ = some (.bool x) := hp3.cell 2
  have r3 : w3.cell? ⟨w.heap.size, 1, none⟩ = some (.string s) := hM4.b0.cell 1
  clear e0 e1 e2 hd hnew
  simp only at h3 hp2
  dsimp only
  by_cases hbad : x = true ∨ l ≠ []
  · have hF : decR (a, l, x) = ({}, 4) := by unfold decR; rw [if_pos hbad]
    have HF := Lib.hid hF
    clear hF h3
    have hp : x = true ∨ p < s.size := by
      rcases hbad with h | h
      · exact .inl h
      · right
        have : l.length = s.size - p := by rw [hp2]; exact drop_len s p
        have : 0 < l.length := List.length_pos_iff.2 h
        omega
    clear hbad hp2 hp3
    rcases hp with rfl | hp
    · go_wp2_with ((with_reducible refine wpList_store_mid (op := ⟨none, .store 28 (.tmp 2) (.tmp 40), _, _, _, _⟩) rfl 28 (.tmp 2) (.tmp 40) rfl (w.heap.size + 1) 0 (tellV {} (.slice none 0 0) (.slice none 0 0) (.slice none 0 0)) ?_ ?_ (hM4.b1.there _ (Nat.le_refl _)) (tellInfo' _ _ _ _) (tellOne _ _ _ _ rfl rfl rfl) ?_); (· rfl); (· rfl))
      have hb := hM4.b1.store (tellV {} (.slice none 0 0) (.slice none 0 0) (.slice none 0 0)) rfl
      refine bodyPost_ret (v := .tuple #[.agg (tellV {} (.slice none 0 0) (.slice none 0 0) (.slice none 0 0)), .int .i64 4]) (dec_out _ _ _ _ _ (by rfl) (by rfl) hb rfl) rfl ?_
      rw [HF.out]
      exact DecP.none 4 _ _ (hM4.bel.trans ((Keeps.sets (w.heap.size + 1) (.inl (List.mem_singleton.2 rfl)) _ 0 _ (Keeps.refl [w.heap.size + 1] _)).below (fun i hi => by rw [List.mem_singleton.1 hi]; omega) hM4.bel.size))
    · cases x
      all_goals
        go_wp2_with ((with_reducible refine wpList_store_mid (op := ⟨none, .store 28 (.tmp 2) (.tmp 40), _, _, _, _⟩) rfl 28 (.tmp 2) (.tmp 40) rfl (w.heap.size + 1) 0 (tellV {} (.slice none 0 0) (.slice none 0 0) (.slice none 0 0)) ?_ ?_ (hM4.b1.there _ (Nat.le_refl _)) (tellInfo' _ _ _ _) (tellOne _ _ _ _ rfl rfl rfl) ?_); (· rfl); (· rfl))
        have hb := hM4.b1.store (tellV {} (.slice none 0 0) (.slice none 0 0) (.slice none 0 0)) rfl
        refine bodyPost_ret (v := .tuple #[.agg (tellV {} (.slice none 0 0) (.slice none 0 0) (.slice none 0 0)), .int .i64 4]) (dec_out _ _ _ _ _ (by rfl) (by rfl) hb rfl) rfl ?_
        rw [HF.out]
        exact DecP.none 4 _ _ (hM4.bel.trans ((Keeps.sets (w.heap.size + 1) (.inl (List.mem_singleton.2 rfl)) _ 0 _ (Keeps.refl [w.heap.size + 1] _)).below (fun i hi => by rw [List.mem_singleton.1 hi]; omega) hM4.bel.size))
  · have hx : x = false := by cases x; rfl; exact absurd (Or.inl rfl) hbad
    have hl : l = [] := by
      by_cases h : l = []
      · exact h
      · exact absurd (Or.inr h) hbad
    subst hx
    have hF : decR (a, l, false) = (a, 0) := by unfold decR; rw [if_neg hbad]
    have HF := Lib.hid hF
    have hp : ¬ p < s.size := by
      have : l.length = s.size - p := by rw [hp2]; exact drop_len s p
      rw [hl] at this; simp at this; omega
    clear hF hbad hl hp2 hp3
    obtain ⟨fs, hu⟩ := tellTy
    have HU := Lib.hid hu
    clear hu
    have har := h3.ar
    have hone : (tellV a kv vv nv).all (·.oneCell') = true := by
      obtain ⟨kv', vv', nv', e, o1, o2, o3⟩ := har.ex
      rw [Value.agg.injEq] at e
      rw [e]
      exact tellOne _ _ _ _ o1.one o2.one o3.one
    have HO := Lib.hid hone
    have hbl : w3.heap[w2.heap.size + 1]? = some (.cells (tellV a kv vv nv) 28 (0, 0)) := h3.blk
    have HBL := Lib.hid hbl
    clear hbl
    clear hone
    have hsz := h3.kp.size
    simp at hsz
    go_wp2_with (first
      | ((with_reducible refine wpList_load_row (o := ⟨some 41, .load 28 (.tmp 7), _, _, _, _⟩) rfl 28 (.tmp 7) rfl (w2.heap.size + 1) ?_ 28 (tellV a kv vv nv) (0, 0) (.struct fs) HBL.out HU.out ?_ (tellInfo' _ _ _ _) ?_); (· rfl); (· rfl))
      | ((with_reducible refine wpList_store_mid (op := ⟨none, .store 28 (.tmp 2) (.tmp 41), _, _, _, _⟩) rfl 28 (.tmp 2) (.tmp 41) rfl (w.heap.size + 1) 0 (tellV a kv vv nv) ?_ ?_ (hM4.b1.there _ (Nat.le_refl _)) (tellInfo' _ _ _ _) (HO.out) ?_); (· rfl); (· rfl)))
    have hb := hM4.b1.store (tellV a kv vv nv) rfl
    have hk := Keeps.sets (w.heap.size + 1) (.inl (List.mem_singleton.2 rfl)) (tellV a kv vv nv).toList 0 _ (Keeps.refl [w.heap.size + 1] w3)
    refine bodyPost_ret (v := .tuple #[.agg (tellV a kv vv nv), .int .i64 0]) (dec_out _ _ _ _ _ (by rfl) (by rfl) hb rfl) rfl ?_
    rw [HF.out]
    refine ⟨_, rfl, ?_, hM4.bel.trans (hk.below (fun i hi => by rw [List.mem_singleton.1 hi]; omega) hM4.bel.size)⟩
    refine har.step (fun b hb => hk.block b hb.2 (fun e => ?_)) (fun b hb => ⟨?_, Nat.lt_of_lt_of_le hb.2 hk.size⟩)
    · rw [List.mem_singleton.1 e] at hb
      have := hb.1
      simp at this; omega
    · have := hb.1
      simp at this; omega

set_option maxHeartbeats 800000 in
theorem dec_read_status (k : UInt8) (s : ByteArray) (w : World) (hk : kd k = some .status) (hr : rightL (k, s.data.toList) = true) (hs : s.size ≤ 1099511627776) :
    Calls Try.prog 9 #[.agg #[u8 k, .string s]] w (DecP (decR (readD .status { kind := k } s.data.toList false)) w) := by
  have hst : ∀ (i : Nat) (W : World) (p : Addr) (md), (store p (.func (.func i) #[] #[]) md).run Try.prog W = stored Try.prog W p (.func (.func i) #[] #[]) md := fun i W p md => run_store Try.prog W p _ md rfl
  have db := bodies_some k .status hk
  have hmn := fun w1 => @mid_new w w1 k s (fnV (rdN .status)) (fnV (wrN .status))
  have dr := fun w => right_any k s w (by omega)
  rw [hr] at dr
  have hd : ∀ (R A : Nat) (w0 : World) (w : World) (kv vv nv : Value), AI R A s w0 { kind := k } s.data.toList false kv vv nv w → Calls Try.prog 41 #[.pointer (some ⟨R, 0, none⟩), .pointer (some ⟨A, 0, none⟩)] w (AiP R A s w0 (readD .status { kind := k } s.data.toList false)) := fun R A w0 w kv vv nv h => rstatus_any R A s w0 _ _ _ kv vv nv w h hs
  have hnew := fun R A w => AI.new R A s w k
  generalize readD .status { kind := k } s.data.toList false = F at *
  obtain ⟨a, l, x⟩ := F
  simp only [rdN] at db hmn
  generalize wrN .status = wr at *
  clear hr hk
  unfold u8 at *
  go_enter Try.func9, Try.ntmps9
  go_wp2_with fail
  refine (db _).mono ?_; rintro e w1 ⟨rfl, hb1⟩
  have hM := hmn w1 hb1
  clear hmn hb1 db
  have c0 : (w1.alloc (.cells #[fnV 41, fnV wr] 51)).cell? ⟨w.heap.size, 0, none⟩ = some (.int .u8 (k.toNat : Int)) := hM.b0.cell 0
  have c1 : (w1.alloc (.cells #[fnV 41, fnV wr] 51)).cell? ⟨w.heap.size, 1, none⟩ = some (.string s) := hM.b0.cell 1
  go_wp2_with fail
  refine (dr _).mono ?_; rintro e w2 ⟨rfl, hb2⟩
  have hM2 := hM.below hb2
  have e0 : w2.cell? ⟨w.heap.size, 0, none⟩ = some (.int .u8 (k.toNat : Int)) := hM2.b0.cell 0
  have e1 : w2.cell? ⟨w.heap.size, 1, none⟩ = some (.string s) := hM2.b0.cell 1
  have e2 : w2.cell? ⟨w1.heap.size, 0, none⟩ = some (fnV 41) := hM2.bX.cell 0
  have l0 : w.heap.size < w2.heap.size := hM2.b0.lt
  have l1 : w1.heap.size < w2.heap.size := hM2.bX.lt
  clear c0 c1 hM hb2
  go_wp2_with fail
  have hR := Blk.new w2 55 #[.string s, .int .i64 0, .bool false]
  have hA := Blk.new (w2.alloc (.cells #[.string s, .int .i64 0, .bool false] 55)) 28 (tellV { kind := k } (.slice none 0 0) (.slice none 0 0) (.slice none 0 0))
  rw [show (w2.alloc (.cells #[.string s, .int .i64 0, .bool false] 55)).heap.size = w2.heap.size + 1 by simp] at hA
  have hI := hnew w2.heap.size (w2.heap.size + 1) _ (hR.alloc _) hA (by omega)
  have hM3 := (hM2.below ((Below.refl _ _).alloc (Nat.le_refl _) (.cells #[.string s, .int .i64 0, .bool false] 55))).below ((Below.refl _ _).alloc (Nat.le_refl _) (.cells (tellV { kind := k } (.slice none 0 0) (.slice none 0 0) (.slice none 0 0)) 28))
  refine (hd _ _ _ _ _ _ _ hI).mono ?_; rintro e w3 ⟨rfl, kv, vv, nv, h3⟩
  have lb0 := hM2.b0.lt
  have lb1 := hM2.b1.lt
  have lbX := hM2.bX.lt
  have hM4 := hM3.kept h3.kp (by simp; omega) (by simp; omega) (by simp; omega) (by intro i hi; simp at hi; omega)
  clear hR hA hI hM3
  obtain ⟨p, hp1, hp2, hp3⟩ := h3.rd
  have r1 : w3.cell? ⟨w2.heap.size, 1, none⟩ = some (.int .i64 p) := hp3.cell 1
  have r2 : w3.cell? ⟨w2.heap.size, 2, none⟩ = some (.bool x) := hp3.cell 2
  have r3 : w3.cell? ⟨w.heap.size, 1, none⟩ = some (.string s) := hM4.b0.cell 1
  clear e0 e1 e2 hd hnew
  simp only at h3 hp2
  dsimp only
  by_cases hbad : x = true ∨ l ≠ []
  · have hF : decR (a, l, x) = ({}, 4) := by unfold decR; rw [if_pos hbad]
    have HF := Lib.hid hF
    clear hF h3
    have hp : x = true ∨ p < s.size := by
      rcases hbad with h | h
      · exact .inl h
      · right
        have : l.length = s.size - p := by rw [hp2]; exact drop_len s p
        have : 0 < l.length := List.length_pos_iff.2 h
        omega
    clear hbad hp2 hp3
    rcases hp with rfl | hp
    · go_wp2_with ((with_reducible refine wpList_store_mid (op := ⟨none, .store 28 (.tmp 2) (.tmp 40), _, _, _, _⟩) rfl 28 (.tmp 2) (.tmp 40) rfl (w.heap.size + 1) 0 (tellV {} (.slice none 0 0) (.slice none 0 0) (.slice none 0 0)) ?_ ?_ (hM4.b1.there _ (Nat.le_refl _)) (tellInfo' _ _ _ _) (tellOne _ _ _ _ rfl rfl rfl) ?_); (· rfl); (· rfl))
      have hb := hM4.b1.store (tellV {} (.slice none 0 0) (.slice none 0 0) (.slice none 0 0)) rfl
      refine bodyPost_ret (v := .tuple #[.agg (tellV {} (.slice none 0 0) (.slice none 0 0) (.slice none 0 0)), .int .i64 4]) (dec_out _ _ _ _ _ (by rfl) (by rfl) hb rfl) rfl ?_
      rw [HF.out]
      exact DecP.none 4 _ _ (hM4.bel.trans ((Keeps.sets (w.heap.size + 1) (.inl (List.mem_singleton.2 rfl)) _ 0 _ (Keeps.refl [w.heap.size + 1] _)).below (fun i hi => by rw [List.mem_singleton.1 hi]; omega) hM4.bel.size))
    · cases x
      all_goals
        go_wp2_with ((with_reducible refine wpList_store_mid (op := ⟨none, .store 28 (.tmp 2) (.tmp 40), _, _, _, _⟩) rfl 28 (.tmp 2) (.tmp 40) rfl (w.heap.size + 1) 0 (tellV {} (.slice none 0 0) (.slice none 0 0) (.slice none 0 0)) ?_ ?_ (hM4.b1.there _ (Nat.le_refl _)) (tellInfo' _ _ _ _) (tellOne _ _ _ _ rfl rfl rfl) ?_); (· rfl); (· rfl))
        have hb := hM4.b1.store (tellV {} (.slice none 0 0) (.slice none 0 0) (.slice none 0 0)) rfl
        refine bodyPost_ret (v := .tuple #[.agg (tellV {} (.slice none 0 0) (.slice none 0 0) (.slice none 0 0)), .int .i64 4]) (dec_out _ _ _ _ _ (by rfl) (by rfl) hb rfl) rfl ?_
        rw [HF.out]
        exact DecP.none 4 _ _ (hM4.bel.trans ((Keeps.sets (w.heap.size + 1) (.inl (List.mem_singleton.2 rfl)) _ 0 _ (Keeps.refl [w.heap.size + 1] _)).below (fun i hi => by rw [List.mem_singleton.1 hi]; omega) hM4.bel.size))
  · have hx : x = false := by cases x; rfl; exact absurd (Or.inl rfl) hbad
    have hl : l = [] := by
      by_cases h : l = []
      · exact h
      · exact absurd (Or.inr h) hbad
    subst hx
    have hF : decR (a, l, false) = (a, 0) := by unfold decR; rw [if_neg hbad]
    have HF := Lib.hid hF
    have hp : ¬ p < s.size := by
      have : l.length = s.size - p := by rw [hp2]; exact drop_len s p
      rw [hl] at this; simp at this; omega
    clear hF hbad hl hp2 hp3
    obtain ⟨fs, hu⟩ := tellTy
    have HU := Lib.hid hu
    clear hu
    have har := h3.ar
    have hone : (tellV a kv vv nv).all (·.oneCell') = true := by
      obtain ⟨kv', vv', nv', e, o1, o2, o3⟩ := har.ex
      rw [Value.agg.injEq] at e
      rw [e]
      exact tellOne _ _ _ _ o1.one o2.one o3.one
    have HO := Lib.hid hone
    have hbl : w3.heap[w2.heap.size + 1]? = some (.cells (tellV a kv vv nv) 28 (0, 0)) := h3.blk
    have HBL := Lib.hid hbl
    clear hbl
    clear hone
    have hsz := h3.kp.size
    simp at hsz
    go_wp2_with (first
      | ((with_reducible refine wpList_load_row (o := ⟨some 41, .load 28 (.tmp 7), _, _, _, _⟩) rfl 28 (.tmp 7) rfl (w2.heap.size + 1) ?_ 28 (tellV a kv vv nv) (0, 0) (.struct fs) HBL.out HU.out ?_ (tellInfo' _ _ _ _) ?_); (· rfl); (· rfl))
      | ((with_reducible refine wpList_store_mid (op := ⟨none, .store 28 (.tmp 2) (.tmp 41), _, _, _, _⟩) rfl 28 (.tmp 2) (.tmp 41) rfl (w.heap.size + 1) 0 (tellV a kv vv nv) ?_ ?_ (hM4.b1.there _ (Nat.le_refl _)) (tellInfo' _ _ _ _) (HO.out) ?_); (· rfl); (· rfl)))
    have hb := hM4.b1.store (tellV a kv vv nv) rfl
    have hk := Keeps.sets (w.heap.size + 1) (.inl (List.mem_singleton.2 rfl)) (tellV a kv vv nv).toList 0 _ (Keeps.refl [w.heap.size + 1] w3)
    refine bodyPost_ret (v := .tuple #[.agg (tellV a kv vv nv), .int .i64 0]) (dec_out _ _ _ _ _ (by rfl) (by rfl) hb rfl) rfl ?_
    rw [HF.out]
    refine ⟨_, rfl, ?_, hM4.bel.trans (hk.below (fun i hi => by rw [List.mem_singleton.1 hi]; omega) hM4.bel.size)⟩
    refine har.step (fun b hb => hk.block b hb.2 (fun e => ?_)) (fun b hb => ⟨?_, Nat.lt_of_lt_of_le hb.2 hk.size⟩)
    · rw [List.mem_singleton.1 e] at hb
      have := hb.1
      simp at this; omega
    · have := hb.1
      simp at this; omega

set_option maxHeartbeats 800000 in
theorem dec_read_done (k : UInt8) (s : ByteArray) (w : World) (hk : kd k = some .done) (hr : rightL (k, s.data.toList) = true) (hs : s.size ≤ 1099511627776) :
    Calls Try.prog 9 #[.agg #[u8 k, .string s]] w (DecP (decR (readD .done { kind := k } s.data.toList false)) w) := by
  have hst : ∀ (i : Nat) (W : World) (p : Addr) (md), (store p (.func (.func i) #[] #[]) md).run Try.prog W = stored Try.prog W p (.func (.func i) #[] #[]) md := fun i W p md => run_store Try.prog W p _ md rfl
  have db := bodies_some k .done hk
  have hmn := fun w1 => @mid_new w w1 k s (fnV (rdN .done)) (fnV (wrN .done))
  have dr := fun w => right_any k s w (by omega)
  rw [hr] at dr
  have hd : ∀ (R A : Nat) (w0 : World) (w : World) (kv vv nv : Value), AI R A s w0 { kind := k } s.data.toList false kv vv nv w → Calls Try.prog 43 #[.pointer (some ⟨R, 0, none⟩), .pointer (some ⟨A, 0, none⟩)] w (AiP R A s w0 (readD .done { kind := k } s.data.toList false)) := fun R A w0 w kv vv nv h => rdone_any R A s w0 _ _ _ kv vv nv w h hs
  have hnew := fun R A w => AI.new R A s w k
  generalize readD .done { kind := k } s.data.toList false = F at *
  obtain ⟨a, l, x⟩ := F
  simp only [rdN] at db hmn
  generalize wrN .done = wr at *
  clear hr hk
  unfold u8 at *
  go_enter Try.func9, Try.ntmps9
  go_wp2_with fail
  refine (db _).mono ?_; rintro e w1 ⟨rfl, hb1⟩
  have hM := hmn w1 hb1
  clear hmn hb1 db
  have c0 : (w1.alloc (.cells #[fnV 43, fnV wr] 51)).cell? ⟨w.heap.size, 0, none⟩ = some (.int .u8 (k.toNat : Int)) := hM.b0.cell 0
  have c1 : (w1.alloc (.cells #[fnV 43, fnV wr] 51)).cell? ⟨w.heap.size, 1, none⟩ = some (.string s) := hM.b0.cell 1
  go_wp2_with fail
  refine (dr _).mono ?_; rintro e w2 ⟨rfl, hb2⟩
  have hM2 := hM.below hb2
  have e0 : w2.cell? ⟨w.heap.size, 0, none⟩ = some (.int .u8 (k.toNat : Int)) := hM2.b0.cell 0
  have e1 : w2.cell? ⟨w.heap.size, 1, none⟩ = some (.string s) := hM2.b0.cell 1
  have e2 : w2.cell? ⟨w1.heap.size, 0, none⟩ = some (fnV 43) := hM2.bX.cell 0
  have l0 : w.heap.size < w2.heap.size := hM2.b0.lt
  have l1 : w1.heap.size < w2.heap.size := hM2.bX.lt
  clear c0 c1 hM hb2
  go_wp2_with fail
  have hR := Blk.new w2 55 #[.string s, .int .i64 0, .bool false]
  have hA := Blk.new (w2.alloc (.cells #[.string s, .int .i64 0, .bool false] 55)) 28 (tellV { kind := k } (.slice none 0 0) (.slice none 0 0) (.slice none 0 0))
  rw [show (w2.alloc (.cells #[.string s, .int .i64 0, .bool false] 55)).heap.size = w2.heap.size + 1 by simp] at hA
  have hI := hnew w2.heap.size (w2.heap.size + 1) _ (hR.alloc _) hA (by omega)
  have hM3 := (hM2.below ((Below.refl _ _).alloc (Nat.le_refl _) (.cells #[.string s, .int .i64 0, .bool false] 55))).below ((Below.refl _ _).alloc (Nat.le_refl _) (.cells (tellV { kind := k } (.slice none 0 0) (.slice none 0 0) (.slice none 0 0)) 28))
  refine (hd _ _ _ _ _ _ _ hI).mono ?_; rintro e w3 ⟨rfl, kv, vv, nv, h3⟩
  have lb0 := hM2.b0.lt
  have lb1 := hM2.b1.lt
  have lbX := hM2.bX.lt
  have hM4 := hM3.kept h3.kp (by simp; omega) (by simp; omega) (by simp; omega) (by intro i hi; simp at hi; omega)
  clear hR hA hI hM3
  obtain ⟨p, hp1, hp2, hp3⟩ := h3.rd
  have r1 : w3.cell? ⟨w2.heap.size, 1, none⟩ = some (.int .i64 p) := hp3.cell 1
  have r2 : w3.cell? ⟨w2.heap.size, 2, none⟩ = some (.bool x) := hp3.cell 2
  have r3 : w3.cell? ⟨w.heap.size, 1, none⟩ = some (.string s) := hM4.b0.cell 1
  clear e0 e1 e2 hd hnew
  simp only at h3 hp2
  dsimp only
  by_cases hbad : x = true ∨ l ≠ []
  · have hF : decR (a, l, x) = ({}, 4) := by unfold decR; rw [if_pos hbad]
    have HF := Lib.hid hF
    clear hF h3
    have hp : x = true ∨ p < s.size := by
      rcases hbad with h | h
      · exact .inl h
      · right
        have : l.length = s.size - p := by rw [hp2]; exact drop_len s p
        have : 0 < l.length := List.length_pos_iff.2 h
        omega
    clear hbad hp2 hp3
    rcases hp with rfl | hp
    · go_wp2_with ((with_reducible refine wpList_store_mid (op := ⟨none, .store 28 (.tmp 2) (.tmp 40), _, _, _, _⟩) rfl 28 (.tmp 2) (.tmp 40) rfl (w.heap.size + 1) 0 (tellV {} (.slice none 0 0) (.slice none 0 0) (.slice none 0 0)) ?_ ?_ (hM4.b1.there _ (Nat.le_refl _)) (tellInfo' _ _ _ _) (tellOne _ _ _ _ rfl rfl rfl) ?_); (· rfl); (· rfl))
      have hb := hM4.b1.store (tellV {} (.slice none 0 0) (.slice none 0 0) (.slice none 0 0)) rfl
      refine bodyPost_ret (v := .tuple #[.agg (tellV {} (.slice none 0 0) (.slice none 0 0) (.slice none 0 0)), .int .i64 4]) (dec_out _ _ _ _ _ (by rfl) (by rfl) hb rfl) rfl ?_
      rw [HF.out]
      exact DecP.none 4 _ _ (hM4.bel.trans ((Keeps.sets (w.heap.size + 1) (.inl (List.mem_singleton.2 rfl)) _ 0 _ (Keeps.refl [w.heap.size + 1] _)).below (fun i hi => by rw [List.mem_singleton.1 hi]; omega) hM4.bel.size))
    · cases x
      all_goals
        go_wp2_with ((with_reducible refine wpList_store_mid (op := ⟨none, .store 28 (.tmp 2) (.tmp 40), _, _, _, _⟩) rfl 28 (.tmp 2) (.tmp 40) rfl (w.heap.size + 1) 0 (tellV {} (.slice none 0 0) (.slice none 0 0) (.slice none 0 0)) ?_ ?_ (hM4.b1.there _ (Nat.le_refl _)) (tellInfo' _ _ _ _) (tellOne _ _ _ _ rfl rfl rfl) ?_); (· rfl); (· rfl))
        have hb := hM4.b1.store (tellV {} (.slice none 0 0) (.slice none 0 0) (.slice none 0 0)) rfl
        refine bodyPost_ret (v := .tuple #[.agg (tellV {} (.slice none 0 0) (.slice none 0 0) (.slice none 0 0)), .int .i64 4]) (dec_out _ _ _ _ _ (by rfl) (by rfl) hb rfl) rfl ?_
        rw [HF.out]
        exact DecP.none 4 _ _ (hM4.bel.trans ((Keeps.sets (w.heap.size + 1) (.inl (List.mem_singleton.2 rfl)) _ 0 _ (Keeps.refl [w.heap.size + 1] _)).below (fun i hi => by rw [List.mem_singleton.1 hi]; omega) hM4.bel.size))
  · have hx : x = false := by cases x; rfl; exact absurd (Or.inl rfl) hbad
    have hl : l = [] := by
      by_cases h : l = []
      · exact h
      · exact absurd (Or.inr h) hbad
    subst hx
    have hF : decR (a, l, false) = (a, 0) := by unfold decR; rw [if_neg hbad]
    have HF := Lib.hid hF
    have hp : ¬ p < s.size := by
      have : l.length = s.size - p := by rw [hp2]; exact drop_len s p
      rw [hl] at this; simp at this; omega
    clear hF hbad hl hp2 hp3
    obtain ⟨fs, hu⟩ := tellTy
    have HU := Lib.hid hu
    clear hu
    have har := h3.ar
    have hone : (tellV a kv vv nv).all (·.oneCell') = true := by
      obtain ⟨kv', vv', nv', e, o1, o2, o3⟩ := har.ex
      rw [Value.agg.injEq] at e
      rw [e]
      exact tellOne _ _ _ _ o1.one o2.one o3.one
    have HO := Lib.hid hone
    have hbl : w3.heap[w2.heap.size + 1]? = some (.cells (tellV a kv vv nv) 28 (0, 0)) := h3.blk
    have HBL := Lib.hid hbl
    clear hbl
    clear hone
    have hsz := h3.kp.size
    simp at hsz
    go_wp2_with (first
      | ((with_reducible refine wpList_load_row (o := ⟨some 41, .load 28 (.tmp 7), _, _, _, _⟩) rfl 28 (.tmp 7) rfl (w2.heap.size + 1) ?_ 28 (tellV a kv vv nv) (0, 0) (.struct fs) HBL.out HU.out ?_ (tellInfo' _ _ _ _) ?_); (· rfl); (· rfl))
      | ((with_reducible refine wpList_store_mid (op := ⟨none, .store 28 (.tmp 2) (.tmp 41), _, _, _, _⟩) rfl 28 (.tmp 2) (.tmp 41) rfl (w.heap.size + 1) 0 (tellV a kv vv nv) ?_ ?_ (hM4.b1.there _ (Nat.le_refl _)) (tellInfo' _ _ _ _) (HO.out) ?_); (· rfl); (· rfl)))
    have hb := hM4.b1.store (tellV a kv vv nv) rfl
    have hk := Keeps.sets (w.heap.size + 1) (.inl (List.mem_singleton.2 rfl)) (tellV a kv vv nv).toList 0 _ (Keeps.refl [w.heap.size + 1] w3)
    refine bodyPost_ret (v := .tuple #[.agg (tellV a kv vv nv), .int .i64 0]) (dec_out _ _ _ _ _ (by rfl) (by rfl) hb rfl) rfl ?_
    rw [HF.out]
    refine ⟨_, rfl, ?_, hM4.bel.trans (hk.below (fun i hi => by rw [List.mem_singleton.1 hi]; omega) hM4.bel.size)⟩
    refine har.step (fun b hb => hk.block b hb.2 (fun e => ?_)) (fun b hb => ⟨?_, Nat.lt_of_lt_of_le hb.2 hk.size⟩)
    · rw [List.mem_singleton.1 e] at hb
      have := hb.1
      simp at this; omega
    · have := hb.1
      simp at this; omega

set_option maxHeartbeats 800000 in
theorem dec_read_setting (k : UInt8) (s : ByteArray) (w : World) (hk : kd k = some .setting) (hr : rightL (k, s.data.toList) = true) (hs : s.size ≤ 1099511627776) :
    Calls Try.prog 9 #[.agg #[u8 k, .string s]] w (DecP (decR (readD .setting { kind := k } s.data.toList false)) w) := by
  have hst : ∀ (i : Nat) (W : World) (p : Addr) (md), (store p (.func (.func i) #[] #[]) md).run Try.prog W = stored Try.prog W p (.func (.func i) #[] #[]) md := fun i W p md => run_store Try.prog W p _ md rfl
  have db := bodies_some k .setting hk
  have hmn := fun w1 => @mid_new w w1 k s (fnV (rdN .setting)) (fnV (wrN .setting))
  have dr := fun w => right_any k s w (by omega)
  rw [hr] at dr
  have hd : ∀ (R A : Nat) (w0 : World) (w : World) (kv vv nv : Value), AI R A s w0 { kind := k } s.data.toList false kv vv nv w → Calls Try.prog 45 #[.pointer (some ⟨R, 0, none⟩), .pointer (some ⟨A, 0, none⟩)] w (AiP R A s w0 (readD .setting { kind := k } s.data.toList false)) := fun R A w0 w kv vv nv h => rsetting_any R A s w0 _ _ _ kv vv nv w h hs
  have hnew := fun R A w => AI.new R A s w k
  generalize readD .setting { kind := k } s.data.toList false = F at *
  obtain ⟨a, l, x⟩ := F
  simp only [rdN] at db hmn
  generalize wrN .setting = wr at *
  clear hr hk
  unfold u8 at *
  go_enter Try.func9, Try.ntmps9
  go_wp2_with fail
  refine (db _).mono ?_; rintro e w1 ⟨rfl, hb1⟩
  have hM := hmn w1 hb1
  clear hmn hb1 db
  have c0 : (w1.alloc (.cells #[fnV 45, fnV wr] 51)).cell? ⟨w.heap.size, 0, none⟩ = some (.int .u8 (k.toNat : Int)) := hM.b0.cell 0
  have c1 : (w1.alloc (.cells #[fnV 45, fnV wr] 51)).cell? ⟨w.heap.size, 1, none⟩ = some (.string s) := hM.b0.cell 1
  go_wp2_with fail
  refine (dr _).mono ?_; rintro e w2 ⟨rfl, hb2⟩
  have hM2 := hM.below hb2
  have e0 : w2.cell? ⟨w.heap.size, 0, none⟩ = some (.int .u8 (k.toNat : Int)) := hM2.b0.cell 0
  have e1 : w2.cell? ⟨w.heap.size, 1, none⟩ = some (.string s) := hM2.b0.cell 1
  have e2 : w2.cell? ⟨w1.heap.size, 0, none⟩ = some (fnV 45) := hM2.bX.cell 0
  have l0 : w.heap.size < w2.heap.size := hM2.b0.lt
  have l1 : w1.heap.size < w2.heap.size := hM2.bX.lt
  clear c0 c1 hM hb2
  go_wp2_with fail
  have hR := Blk.new w2 55 #[.string s, .int .i64 0, .bool false]
  have hA := Blk.new (w2.alloc (.cells #[.string s, .int .i64 0, .bool false] 55)) 28 (tellV { kind := k } (.slice none 0 0) (.slice none 0 0) (.slice none 0 0))
  rw [show (w2.alloc (.cells #[.string s, .int .i64 0, .bool false] 55)).heap.size = w2.heap.size + 1 by simp] at hA
  have hI := hnew w2.heap.size (w2.heap.size + 1) _ (hR.alloc _) hA (by omega)
  have hM3 := (hM2.below ((Below.refl _ _).alloc (Nat.le_refl _) (.cells #[.string s, .int .i64 0, .bool false] 55))).below ((Below.refl _ _).alloc (Nat.le_refl _) (.cells (tellV { kind := k } (.slice none 0 0) (.slice none 0 0) (.slice none 0 0)) 28))
  refine (hd _ _ _ _ _ _ _ hI).mono ?_; rintro e w3 ⟨rfl, kv, vv, nv, h3⟩
  have lb0 := hM2.b0.lt
  have lb1 := hM2.b1.lt
  have lbX := hM2.bX.lt
  have hM4 := hM3.kept h3.kp (by simp; omega) (by simp; omega) (by simp; omega) (by intro i hi; simp at hi; omega)
  clear hR hA hI hM3
  obtain ⟨p, hp1, hp2, hp3⟩ := h3.rd
  have r1 : w3.cell? ⟨w2.heap.size, 1, none⟩ = some (.int .i64 p) := hp3.cell 1
  have r2 : w3.cell? ⟨w2.heap.size, 2, none⟩ = some (.bool x) := hp3.cell 2
  have r3 : w3.cell? ⟨w.heap.size, 1, none⟩ = some (.string s) := hM4.b0.cell 1
  clear e0 e1 e2 hd hnew
  simp only at h3 hp2
  dsimp only
  by_cases hbad : x = true ∨ l ≠ []
  · have hF : decR (a, l, x) = ({}, 4) := by unfold decR; rw [if_pos hbad]
    have HF := Lib.hid hF
    clear hF h3
    have hp : x = true ∨ p < s.size := by
      rcases hbad with h | h
      · exact .inl h
      · right
        have : l.length = s.size - p := by rw [hp2]; exact drop_len s p
        have : 0 < l.length := List.length_pos_iff.2 h
        omega
    clear hbad hp2 hp3
    rcases hp with rfl | hp
    · go_wp2_with ((with_reducible refine wpList_store_mid (op := ⟨none, .store 28 (.tmp 2) (.tmp 40), _, _, _, _⟩) rfl 28 (.tmp 2) (.tmp 40) rfl (w.heap.size + 1) 0 (tellV {} (.slice none 0 0) (.slice none 0 0) (.slice none 0 0)) ?_ ?_ (hM4.b1.there _ (Nat.le_refl _)) (tellInfo' _ _ _ _) (tellOne _ _ _ _ rfl rfl rfl) ?_); (· rfl); (· rfl))
      have hb := hM4.b1.store (tellV {} (.slice none 0 0) (.slice none 0 0) (.slice none 0 0)) rfl
      refine bodyPost_ret (v := .tuple #[.agg (tellV {} (.slice none 0 0) (.slice none 0 0) (.slice none 0 0)), .int .i64 4]) (dec_out _ _ _ _ _ (by rfl) (by rfl) hb rfl) rfl ?_
      rw [HF.out]
      exact DecP.none 4 _ _ (hM4.bel.trans ((Keeps.sets (w.heap.size + 1) (.inl (List.mem_singleton.2 rfl)) _ 0 _ (Keeps.refl [w.heap.size + 1] _)).below (fun i hi => by rw [List.mem_singleton.1 hi]; omega) hM4.bel.size))
    · cases x
      all_goals
        go_wp2_with ((with_reducible refine wpList_store_mid (op := ⟨none, .store 28 (.tmp 2) (.tmp 40), _, _, _, _⟩) rfl 28 (.tmp 2) (.tmp 40) rfl (w.heap.size + 1) 0 (tellV {} (.slice none 0 0) (.slice none 0 0) (.slice none 0 0)) ?_ ?_ (hM4.b1.there _ (Nat.le_refl _)) (tellInfo' _ _ _ _) (tellOne _ _ _ _ rfl rfl rfl) ?_); (· rfl); (· rfl))
        have hb := hM4.b1.store (tellV {} (.slice none 0 0) (.slice none 0 0) (.slice none 0 0)) rfl
        refine bodyPost_ret (v := .tuple #[.agg (tellV {} (.slice none 0 0) (.slice none 0 0) (.slice none 0 0)), .int .i64 4]) (dec_out _ _ _ _ _ (by rfl) (by rfl) hb rfl) rfl ?_
        rw [HF.out]
        exact DecP.none 4 _ _ (hM4.bel.trans ((Keeps.sets (w.heap.size + 1) (.inl (List.mem_singleton.2 rfl)) _ 0 _ (Keeps.refl [w.heap.size + 1] _)).below (fun i hi => by rw [List.mem_singleton.1 hi]; omega) hM4.bel.size))
  · have hx : x = false := by cases x; rfl; exact absurd (Or.inl rfl) hbad
    have hl : l = [] := by
      by_cases h : l = []
      · exact h
      · exact absurd (Or.inr h) hbad
    subst hx
    have hF : decR (a, l, false) = (a, 0) := by unfold decR; rw [if_neg hbad]
    have HF := Lib.hid hF
    have hp : ¬ p < s.size := by
      have : l.length = s.size - p := by rw [hp2]; exact drop_len s p
      rw [hl] at this; simp at this; omega
    clear hF hbad hl hp2 hp3
    obtain ⟨fs, hu⟩ := tellTy
    have HU := Lib.hid hu
    clear hu
    have har := h3.ar
    have hone : (tellV a kv vv nv).all (·.oneCell') = true := by
      obtain ⟨kv', vv', nv', e, o1, o2, o3⟩ := har.ex
      rw [Value.agg.injEq] at e
      rw [e]
      exact tellOne _ _ _ _ o1.one o2.one o3.one
    have HO := Lib.hid hone
    have hbl : w3.heap[w2.heap.size + 1]? = some (.cells (tellV a kv vv nv) 28 (0, 0)) := h3.blk
    have HBL := Lib.hid hbl
    clear hbl
    clear hone
    have hsz := h3.kp.size
    simp at hsz
    go_wp2_with (first
      | ((with_reducible refine wpList_load_row (o := ⟨some 41, .load 28 (.tmp 7), _, _, _, _⟩) rfl 28 (.tmp 7) rfl (w2.heap.size + 1) ?_ 28 (tellV a kv vv nv) (0, 0) (.struct fs) HBL.out HU.out ?_ (tellInfo' _ _ _ _) ?_); (· rfl); (· rfl))
      | ((with_reducible refine wpList_store_mid (op := ⟨none, .store 28 (.tmp 2) (.tmp 41), _, _, _, _⟩) rfl 28 (.tmp 2) (.tmp 41) rfl (w.heap.size + 1) 0 (tellV a kv vv nv) ?_ ?_ (hM4.b1.there _ (Nat.le_refl _)) (tellInfo' _ _ _ _) (HO.out) ?_); (· rfl); (· rfl)))
    have hb := hM4.b1.store (tellV a kv vv nv) rfl
    have hk := Keeps.sets (w.heap.size + 1) (.inl (List.mem_singleton.2 rfl)) (tellV a kv vv nv).toList 0 _ (Keeps.refl [w.heap.size + 1] w3)
    refine bodyPost_ret (v := .tuple #[.agg (tellV a kv vv nv), .int .i64 0]) (dec_out _ _ _ _ _ (by rfl) (by rfl) hb rfl) rfl ?_
    rw [HF.out]
    refine ⟨_, rfl, ?_, hM4.bel.trans (hk.below (fun i hi => by rw [List.mem_singleton.1 hi]; omega) hM4.bel.size)⟩
    refine har.step (fun b hb => hk.block b hb.2 (fun e => ?_)) (fun b hb => ⟨?_, Nat.lt_of_lt_of_le hb.2 hk.size⟩)
    · rw [List.mem_singleton.1 e] at hb
      have := hb.1
      simp at this; omega
    · have := hb.1
      simp at this; omega

set_option maxHeartbeats 800000 in
theorem dec_read_nothing (k : UInt8) (s : ByteArray) (w : World) (hk : kd k = some .nothing) (hr : rightL (k, s.data.toList) = true) (hs : s.size ≤ 1099511627776) :
    Calls Try.prog 9 #[.agg #[u8 k, .string s]] w (DecP (decR (readD .nothing { kind := k } s.data.toList false)) w) := by
  have hst : ∀ (i : Nat) (W : World) (p : Addr) (md), (store p (.func (.func i) #[] #[]) md).run Try.prog W = stored Try.prog W p (.func (.func i) #[] #[]) md := fun i W p md => run_store Try.prog W p _ md rfl
  have db := bodies_some k .nothing hk
  have hmn := fun w1 => @mid_new w w1 k s (fnV (rdN .nothing)) (fnV (wrN .nothing))
  have dr := fun w => right_any k s w (by omega)
  rw [hr] at dr
  have hd : ∀ (R A : Nat) (w0 : World) (w : World) (kv vv nv : Value), AI R A s w0 { kind := k } s.data.toList false kv vv nv w → Calls Try.prog 53 #[.pointer (some ⟨R, 0, none⟩), .pointer (some ⟨A, 0, none⟩)] w (AiP R A s w0 (readD .nothing { kind := k } s.data.toList false)) := fun R A w0 w kv vv nv h => rnothing_any R A s w0 _ _ _ kv vv nv w h
  have hnew := fun R A w => AI.new R A s w k
  generalize readD .nothing { kind := k } s.data.toList false = F at *
  obtain ⟨a, l, x⟩ := F
  simp only [rdN] at db hmn
  generalize wrN .nothing = wr at *
  clear hr hk
  unfold u8 at *
  go_enter Try.func9, Try.ntmps9
  go_wp2_with fail
  refine (db _).mono ?_; rintro e w1 ⟨rfl, hb1⟩
  have hM := hmn w1 hb1
  clear hmn hb1 db
  have c0 : (w1.alloc (.cells #[fnV 53, fnV wr] 51)).cell? ⟨w.heap.size, 0, none⟩ = some (.int .u8 (k.toNat : Int)) := hM.b0.cell 0
  have c1 : (w1.alloc (.cells #[fnV 53, fnV wr] 51)).cell? ⟨w.heap.size, 1, none⟩ = some (.string s) := hM.b0.cell 1
  go_wp2_with fail
  refine (dr _).mono ?_; rintro e w2 ⟨rfl, hb2⟩
  have hM2 := hM.below hb2
  have e0 : w2.cell? ⟨w.heap.size, 0, none⟩ = some (.int .u8 (k.toNat : Int)) := hM2.b0.cell 0
  have e1 : w2.cell? ⟨w.heap.size, 1, none⟩ = some (.string s) := hM2.b0.cell 1
  have e2 : w2.cell? ⟨w1.heap.size, 0, none⟩ = some (fnV 53) := hM2.bX.cell 0
  have l0 : w.heap.size < w2.heap.size := hM2.b0.lt
  have l1 : w1.heap.size < w2.heap.size := hM2.bX.lt
  clear c0 c1 hM hb2
  go_wp2_with fail
  have hR := Blk.new w2 55 #[.string s, .int .i64 0, .bool false]
  have hA := Blk.new (w2.alloc (.cells #[.string s, .int .i64 0, .bool false] 55)) 28 (tellV { kind := k } (.slice none 0 0) (.slice none 0 0) (.slice none 0 0))
  rw [show (w2.alloc (.cells #[.string s, .int .i64 0, .bool false] 55)).heap.size = w2.heap.size + 1 by simp] at hA
  have hI := hnew w2.heap.size (w2.heap.size + 1) _ (hR.alloc _) hA (by omega)
  have hM3 := (hM2.below ((Below.refl _ _).alloc (Nat.le_refl _) (.cells #[.string s, .int .i64 0, .bool false] 55))).below ((Below.refl _ _).alloc (Nat.le_refl _) (.cells (tellV { kind := k } (.slice none 0 0) (.slice none 0 0) (.slice none 0 0)) 28))
  refine (hd _ _ _ _ _ _ _ hI).mono ?_; rintro e w3 ⟨rfl, kv, vv, nv, h3⟩
  have lb0 := hM2.b0.lt
  have lb1 := hM2.b1.lt
  have lbX := hM2.bX.lt
  have hM4 := hM3.kept h3.kp (by simp; omega) (by simp; omega) (by simp; omega) (by intro i hi; simp at hi; omega)
  clear hR hA hI hM3
  obtain ⟨p, hp1, hp2, hp3⟩ := h3.rd
  have r1 : w3.cell? ⟨w2.heap.size, 1, none⟩ = some (.int .i64 p) := hp3.cell 1
  have r2 : w3.cell? ⟨w2.heap.size, 2, none⟩ = some (.bool x) := hp3.cell 2
  have r3 : w3.cell? ⟨w.heap.size, 1, none⟩ = some (.string s) := hM4.b0.cell 1
  clear e0 e1 e2 hd hnew
  simp only at h3 hp2
  dsimp only
  by_cases hbad : x = true ∨ l ≠ []
  · have hF : decR (a, l, x) = ({}, 4) := by unfold decR; rw [if_pos hbad]
    have HF := Lib.hid hF
    clear hF h3
    have hp : x = true ∨ p < s.size := by
      rcases hbad with h | h
      · exact .inl h
      · right
        have : l.length = s.size - p := by rw [hp2]; exact drop_len s p
        have : 0 < l.length := List.length_pos_iff.2 h
        omega
    clear hbad hp2 hp3
    rcases hp with rfl | hp
    · go_wp2_with ((with_reducible refine wpList_store_mid (op := ⟨none, .store 28 (.tmp 2) (.tmp 40), _, _, _, _⟩) rfl 28 (.tmp 2) (.tmp 40) rfl (w.heap.size + 1) 0 (tellV {} (.slice none 0 0) (.slice none 0 0) (.slice none 0 0)) ?_ ?_ (hM4.b1.there _ (Nat.le_refl _)) (tellInfo' _ _ _ _) (tellOne _ _ _ _ rfl rfl rfl) ?_); (· rfl); (· rfl))
      have hb := hM4.b1.store (tellV {} (.slice none 0 0) (.slice none 0 0) (.slice none 0 0)) rfl
      refine bodyPost_ret (v := .tuple #[.agg (tellV {} (.slice none 0 0) (.slice none 0 0) (.slice none 0 0)), .int .i64 4]) (dec_out _ _ _ _ _ (by rfl) (by rfl) hb rfl) rfl ?_
      rw [HF.out]
      exact DecP.none 4 _ _ (hM4.bel.trans ((Keeps.sets (w.heap.size + 1) (.inl (List.mem_singleton.2 rfl)) _ 0 _ (Keeps.refl [w.heap.size + 1] _)).below (fun i hi => by rw [List.mem_singleton.1 hi]; omega) hM4.bel.size))
    · cases x
      all_goals
        go_wp2_with ((with_reducible refine wpList_store_mid (op := ⟨none, .store 28 (.tmp 2) (.tmp 40), _, _, _, _⟩) rfl 28 (.tmp 2) (.tmp 40) rfl (w.heap.size + 1) 0 (tellV {} (.slice none 0 0) (.slice none 0 0) (.slice none 0 0)) ?_ ?_ (hM4.b1.there _ (Nat.le_refl _)) (tellInfo' _ _ _ _) (tellOne _ _ _ _ rfl rfl rfl) ?_); (· rfl); (· rfl))
        have hb := hM4.b1.store (tellV {} (.slice none 0 0) (.slice none 0 0) (.slice none 0 0)) rfl
        refine bodyPost_ret (v := .tuple #[.agg (tellV {} (.slice none 0 0) (.slice none 0 0) (.slice none 0 0)), .int .i64 4]) (dec_out _ _ _ _ _ (by rfl) (by rfl) hb rfl) rfl ?_
        rw [HF.out]
        exact DecP.none 4 _ _ (hM4.bel.trans ((Keeps.sets (w.heap.size + 1) (.inl (List.mem_singleton.2 rfl)) _ 0 _ (Keeps.refl [w.heap.size + 1] _)).below (fun i hi => by rw [List.mem_singleton.1 hi]; omega) hM4.bel.size))
  · have hx : x = false := by cases x; rfl; exact absurd (Or.inl rfl) hbad
    have hl : l = [] := by
      by_cases h : l = []
      · exact h
      · exact absurd (Or.inr h) hbad
    subst hx
    have hF : decR (a, l, false) = (a, 0) := by unfold decR; rw [if_neg hbad]
    have HF := Lib.hid hF
    have hp : ¬ p < s.size := by
      have : l.length = s.size - p := by rw [hp2]; exact drop_len s p
      rw [hl] at this; simp at this; omega
    clear hF hbad hl hp2 hp3
    obtain ⟨fs, hu⟩ := tellTy
    have HU := Lib.hid hu
    clear hu
    have har := h3.ar
    have hone : (tellV a kv vv nv).all (·.oneCell') = true := by
      obtain ⟨kv', vv', nv', e, o1, o2, o3⟩ := har.ex
      rw [Value.agg.injEq] at e
      rw [e]
      exact tellOne _ _ _ _ o1.one o2.one o3.one
    have HO := Lib.hid hone
    have hbl : w3.heap[w2.heap.size + 1]? = some (.cells (tellV a kv vv nv) 28 (0, 0)) := h3.blk
    have HBL := Lib.hid hbl
    clear hbl
    clear hone
    have hsz := h3.kp.size
    simp at hsz
    go_wp2_with (first
      | ((with_reducible refine wpList_load_row (o := ⟨some 41, .load 28 (.tmp 7), _, _, _, _⟩) rfl 28 (.tmp 7) rfl (w2.heap.size + 1) ?_ 28 (tellV a kv vv nv) (0, 0) (.struct fs) HBL.out HU.out ?_ (tellInfo' _ _ _ _) ?_); (· rfl); (· rfl))
      | ((with_reducible refine wpList_store_mid (op := ⟨none, .store 28 (.tmp 2) (.tmp 41), _, _, _, _⟩) rfl 28 (.tmp 2) (.tmp 41) rfl (w.heap.size + 1) 0 (tellV a kv vv nv) ?_ ?_ (hM4.b1.there _ (Nat.le_refl _)) (tellInfo' _ _ _ _) (HO.out) ?_); (· rfl); (· rfl)))
    have hb := hM4.b1.store (tellV a kv vv nv) rfl
    have hk := Keeps.sets (w.heap.size + 1) (.inl (List.mem_singleton.2 rfl)) (tellV a kv vv nv).toList 0 _ (Keeps.refl [w.heap.size + 1] w3)
    refine bodyPost_ret (v := .tuple #[.agg (tellV a kv vv nv), .int .i64 0]) (dec_out _ _ _ _ _ (by rfl) (by rfl) hb rfl) rfl ?_
    rw [HF.out]
    refine ⟨_, rfl, ?_, hM4.bel.trans (hk.below (fun i hi => by rw [List.mem_singleton.1 hi]; omega) hM4.bel.size)⟩
    refine har.step (fun b hb => hk.block b hb.2 (fun e => ?_)) (fun b hb => ⟨?_, Nat.lt_of_lt_of_le hb.2 hk.size⟩)
    · rw [List.mem_singleton.1 e] at hb
      have := hb.1
      simp at this; omega
    · have := hb.1
      simp at this; omega

set_option maxHeartbeats 800000 in
theorem dec_read_columns (k : UInt8) (s : ByteArray) (w : World) (hk : kd k = some .columns) (hr : rightL (k, s.data.toList) = true) (hs : s.size ≤ 1099511627776) :
    Calls Try.prog 9 #[.agg #[u8 k, .string s]] w (DecP (decR (readD .columns { kind := k } s.data.toList false)) w) := by
  have hst : ∀ (i : Nat) (W : World) (p : Addr) (md), (store p (.func (.func i) #[] #[]) md).run Try.prog W = stored Try.prog W p (.func (.func i) #[] #[]) md := fun i W p md => run_store Try.prog W p _ md rfl
  have db := bodies_some k .columns hk
  have hmn := fun w1 => @mid_new w w1 k s (fnV (rdN .columns)) (fnV (wrN .columns))
  have dr := fun w => right_any k s w (by omega)
  rw [hr] at dr
  have hd : ∀ (R A : Nat) (w0 : World) (w : World) (kv vv nv : Value), AI R A s w0 { kind := k } s.data.toList false kv vv nv w → Calls Try.prog 47 #[.pointer (some ⟨R, 0, none⟩), .pointer (some ⟨A, 0, none⟩)] w (AiP R A s w0 (readD .columns { kind := k } s.data.toList false)) := fun R A w0 w kv vv nv h => rcolumns_any R A s w0 k _ _ kv vv nv w h hs
  have hnew := fun R A w => AI.new R A s w k
  generalize readD .columns { kind := k } s.data.toList false = F at *
  obtain ⟨a, l, x⟩ := F
  simp only [rdN] at db hmn
  generalize wrN .columns = wr at *
  clear hr hk
  unfold u8 at *
  go_enter Try.func9, Try.ntmps9
  go_wp2_with fail
  refine (db _).mono ?_; rintro e w1 ⟨rfl, hb1⟩
  have hM := hmn w1 hb1
  clear hmn hb1 db
  have c0 : (w1.alloc (.cells #[fnV 47, fnV wr] 51)).cell? ⟨w.heap.size, 0, none⟩ = some (.int .u8 (k.toNat : Int)) := hM.b0.cell 0
  have c1 : (w1.alloc (.cells #[fnV 47, fnV wr] 51)).cell? ⟨w.heap.size, 1, none⟩ = some (.string s) := hM.b0.cell 1
  go_wp2_with fail
  refine (dr _).mono ?_; rintro e w2 ⟨rfl, hb2⟩
  have hM2 := hM.below hb2
  have e0 : w2.cell? ⟨w.heap.size, 0, none⟩ = some (.int .u8 (k.toNat : Int)) := hM2.b0.cell 0
  have e1 : w2.cell? ⟨w.heap.size, 1, none⟩ = some (.string s) := hM2.b0.cell 1
  have e2 : w2.cell? ⟨w1.heap.size, 0, none⟩ = some (fnV 47) := hM2.bX.cell 0
  have l0 : w.heap.size < w2.heap.size := hM2.b0.lt
  have l1 : w1.heap.size < w2.heap.size := hM2.bX.lt
  clear c0 c1 hM hb2
  go_wp2_with fail
  have hR := Blk.new w2 55 #[.string s, .int .i64 0, .bool false]
  have hA := Blk.new (w2.alloc (.cells #[.string s, .int .i64 0, .bool false] 55)) 28 (tellV { kind := k } (.slice none 0 0) (.slice none 0 0) (.slice none 0 0))
  rw [show (w2.alloc (.cells #[.string s, .int .i64 0, .bool false] 55)).heap.size = w2.heap.size + 1 by simp] at hA
  have hI := hnew w2.heap.size (w2.heap.size + 1) _ (hR.alloc _) hA (by omega)
  have hM3 := (hM2.below ((Below.refl _ _).alloc (Nat.le_refl _) (.cells #[.string s, .int .i64 0, .bool false] 55))).below ((Below.refl _ _).alloc (Nat.le_refl _) (.cells (tellV { kind := k } (.slice none 0 0) (.slice none 0 0) (.slice none 0 0)) 28))
  refine (hd _ _ _ _ _ _ _ hI).mono ?_; rintro e w3 ⟨rfl, kv, vv, nv, h3⟩
  have lb0 := hM2.b0.lt
  have lb1 := hM2.b1.lt
  have lbX := hM2.bX.lt
  have hM4 := hM3.kept h3.kp (by simp; omega) (by simp; omega) (by simp; omega) (by intro i hi; simp at hi; omega)
  clear hR hA hI hM3
  obtain ⟨p, hp1, hp2, hp3⟩ := h3.rd
  have r1 : w3.cell? ⟨w2.heap.size, 1, none⟩ = some (.int .i64 p) := hp3.cell 1
  have r2 : w3.cell? ⟨w2.heap.size, 2, none⟩ = some (.bool x) := hp3.cell 2
  have r3 : w3.cell? ⟨w.heap.size, 1, none⟩ = some (.string s) := hM4.b0.cell 1
  clear e0 e1 e2 hd hnew
  simp only at h3 hp2
  dsimp only
  by_cases hbad : x = true ∨ l ≠ []
  · have hF : decR (a, l, x) = ({}, 4) := by unfold decR; rw [if_pos hbad]
    have HF := Lib.hid hF
    clear hF h3
    have hp : x = true ∨ p < s.size := by
      rcases hbad with h | h
      · exact .inl h
      · right
        have : l.length = s.size - p := by rw [hp2]; exact drop_len s p
        have : 0 < l.length := List.length_pos_iff.2 h
        omega
    clear hbad hp2 hp3
    rcases hp with rfl | hp
    · go_wp2_with ((with_reducible refine wpList_store_mid (op := ⟨none, .store 28 (.tmp 2) (.tmp 40), _, _, _, _⟩) rfl 28 (.tmp 2) (.tmp 40) rfl (w.heap.size + 1) 0 (tellV {} (.slice none 0 0) (.slice none 0 0) (.slice none 0 0)) ?_ ?_ (hM4.b1.there _ (Nat.le_refl _)) (tellInfo' _ _ _ _) (tellOne _ _ _ _ rfl rfl rfl) ?_); (· rfl); (· rfl))
      have hb := hM4.b1.store (tellV {} (.slice none 0 0) (.slice none 0 0) (.slice none 0 0)) rfl
      refine bodyPost_ret (v := .tuple #[.agg (tellV {} (.slice none 0 0) (.slice none 0 0) (.slice none 0 0)), .int .i64 4]) (dec_out _ _ _ _ _ (by rfl) (by rfl) hb rfl) rfl ?_
      rw [HF.out]
      exact DecP.none 4 _ _ (hM4.bel.trans ((Keeps.sets (w.heap.size + 1) (.inl (List.mem_singleton.2 rfl)) _ 0 _ (Keeps.refl [w.heap.size + 1] _)).below (fun i hi => by rw [List.mem_singleton.1 hi]; omega) hM4.bel.size))
    · cases x
      all_goals
        go_wp2_with ((with_reducible refine wpList_store_mid (op := ⟨none, .store 28 (.tmp 2) (.tmp 40), _, _, _, _⟩) rfl 28 (.tmp 2) (.tmp 40) rfl (w.heap.size + 1) 0 (tellV {} (.slice none 0 0) (.slice none 0 0) (.slice none 0 0)) ?_ ?_ (hM4.b1.there _ (Nat.le_refl _)) (tellInfo' _ _ _ _) (tellOne _ _ _ _ rfl rfl rfl) ?_); (· rfl); (· rfl))
        have hb := hM4.b1.store (tellV {} (.slice none 0 0) (.slice none 0 0) (.slice none 0 0)) rfl
        refine bodyPost_ret (v := .tuple #[.agg (tellV {} (.slice none 0 0) (.slice none 0 0) (.slice none 0 0)), .int .i64 4]) (dec_out _ _ _ _ _ (by rfl) (by rfl) hb rfl) rfl ?_
        rw [HF.out]
        exact DecP.none 4 _ _ (hM4.bel.trans ((Keeps.sets (w.heap.size + 1) (.inl (List.mem_singleton.2 rfl)) _ 0 _ (Keeps.refl [w.heap.size + 1] _)).below (fun i hi => by rw [List.mem_singleton.1 hi]; omega) hM4.bel.size))
  · have hx : x = false := by cases x; rfl; exact absurd (Or.inl rfl) hbad
    have hl : l = [] := by
      by_cases h : l = []
      · exact h
      · exact absurd (Or.inr h) hbad
    subst hx
    have hF : decR (a, l, false) = (a, 0) := by unfold decR; rw [if_neg hbad]
    have HF := Lib.hid hF
    have hp : ¬ p < s.size := by
      have : l.length = s.size - p := by rw [hp2]; exact drop_len s p
      rw [hl] at this; simp at this; omega
    clear hF hbad hl hp2 hp3
    obtain ⟨fs, hu⟩ := tellTy
    have HU := Lib.hid hu
    clear hu
    have har := h3.ar
    have hone : (tellV a kv vv nv).all (·.oneCell') = true := by
      obtain ⟨kv', vv', nv', e, o1, o2, o3⟩ := har.ex
      rw [Value.agg.injEq] at e
      rw [e]
      exact tellOne _ _ _ _ o1.one o2.one o3.one
    have HO := Lib.hid hone
    have hbl : w3.heap[w2.heap.size + 1]? = some (.cells (tellV a kv vv nv) 28 (0, 0)) := h3.blk
    have HBL := Lib.hid hbl
    clear hbl
    clear hone
    have hsz := h3.kp.size
    simp at hsz
    go_wp2_with (first
      | ((with_reducible refine wpList_load_row (o := ⟨some 41, .load 28 (.tmp 7), _, _, _, _⟩) rfl 28 (.tmp 7) rfl (w2.heap.size + 1) ?_ 28 (tellV a kv vv nv) (0, 0) (.struct fs) HBL.out HU.out ?_ (tellInfo' _ _ _ _) ?_); (· rfl); (· rfl))
      | ((with_reducible refine wpList_store_mid (op := ⟨none, .store 28 (.tmp 2) (.tmp 41), _, _, _, _⟩) rfl 28 (.tmp 2) (.tmp 41) rfl (w.heap.size + 1) 0 (tellV a kv vv nv) ?_ ?_ (hM4.b1.there _ (Nat.le_refl _)) (tellInfo' _ _ _ _) (HO.out) ?_); (· rfl); (· rfl)))
    have hb := hM4.b1.store (tellV a kv vv nv) rfl
    have hk := Keeps.sets (w.heap.size + 1) (.inl (List.mem_singleton.2 rfl)) (tellV a kv vv nv).toList 0 _ (Keeps.refl [w.heap.size + 1] w3)
    refine bodyPost_ret (v := .tuple #[.agg (tellV a kv vv nv), .int .i64 0]) (dec_out _ _ _ _ _ (by rfl) (by rfl) hb rfl) rfl ?_
    rw [HF.out]
    refine ⟨_, rfl, ?_, hM4.bel.trans (hk.below (fun i hi => by rw [List.mem_singleton.1 hi]; omega) hM4.bel.size)⟩
    refine har.step (fun b hb => hk.block b hb.2 (fun e => ?_)) (fun b hb => ⟨?_, Nat.lt_of_lt_of_le hb.2 hk.size⟩)
    · rw [List.mem_singleton.1 e] at hb
      have := hb.1
      simp at this; omega
    · have := hb.1
      simp at this; omega

set_option maxHeartbeats 800000 in
theorem dec_read_row (k : UInt8) (s : ByteArray) (w : World) (hk : kd k = some .row) (hr : rightL (k, s.data.toList) = true) (hs : s.size ≤ 1099511627776) :
    Calls Try.prog 9 #[.agg #[u8 k, .string s]] w (DecP (decR (readD .row { kind := k } s.data.toList false)) w) := by
  have hst : ∀ (i : Nat) (W : World) (p : Addr) (md), (store p (.func (.func i) #[] #[]) md).run Try.prog W = stored Try.prog W p (.func (.func i) #[] #[]) md := fun i W p md => run_store Try.prog W p _ md rfl
  have db := bodies_some k .row hk
  have hmn := fun w1 => @mid_new w w1 k s (fnV (rdN .row)) (fnV (wrN .row))
  have dr := fun w => right_any k s w (by omega)
  rw [hr] at dr
  have hd : ∀ (R A : Nat) (w0 : World) (w : World) (kv vv nv : Value), AI R A s w0 { kind := k } s.data.toList false kv vv nv w → Calls Try.prog 49 #[.pointer (some ⟨R, 0, none⟩), .pointer (some ⟨A, 0, none⟩)] w (AiP R A s w0 (readD .row { kind := k } s.data.toList false)) := fun R A w0 w kv vv nv h => rrow_any R A s w0 k _ _ kv vv nv w h hs
  have hnew := fun R A w => AI.new R A s w k
  generalize readD .row { kind := k } s.data.toList false = F at *
  obtain ⟨a, l, x⟩ := F
  simp only [rdN] at db hmn
  generalize wrN .row = wr at *
  clear hr hk
  unfold u8 at *
  go_enter Try.func9, Try.ntmps9
  go_wp2_with fail
  refine (db _).mono ?_; rintro e w1 ⟨rfl, hb1⟩
  have hM := hmn w1 hb1
  clear hmn hb1 db
  have c0 : (w1.alloc (.cells #[fnV 49, fnV wr] 51)).cell? ⟨w.heap.size, 0, none⟩ = some (.int .u8 (k.toNat : Int)) := hM.b0.cell 0
  have c1 : (w1.alloc (.cells #[fnV 49, fnV wr] 51)).cell? ⟨w.heap.size, 1, none⟩ = some (.string s) := hM.b0.cell 1
  go_wp2_with fail
  refine (dr _).mono ?_; rintro e w2 ⟨rfl, hb2⟩
  have hM2 := hM.below hb2
  have e0 : w2.cell? ⟨w.heap.size, 0, none⟩ = some (.int .u8 (k.toNat : Int)) := hM2.b0.cell 0
  have e1 : w2.cell? ⟨w.heap.size, 1, none⟩ = some (.string s) := hM2.b0.cell 1
  have e2 : w2.cell? ⟨w1.heap.size, 0, none⟩ = some (fnV 49) := hM2.bX.cell 0
  have l0 : w.heap.size < w2.heap.size := hM2.b0.lt
  have l1 : w1.heap.size < w2.heap.size := hM2.bX.lt
  clear c0 c1 hM hb2
  go_wp2_with fail
  have hR := Blk.new w2 55 #[.string s, .int .i64 0, .bool false]
  have hA := Blk.new (w2.alloc (.cells #[.string s, .int .i64 0, .bool false] 55)) 28 (tellV { kind := k } (.slice none 0 0) (.slice none 0 0) (.slice none 0 0))
  rw [show (w2.alloc (.cells #[.string s, .int .i64 0, .bool false] 55)).heap.size = w2.heap.size + 1 by simp] at hA
  have hI := hnew w2.heap.size (w2.heap.size + 1) _ (hR.alloc _) hA (by omega)
  have hM3 := (hM2.below ((Below.refl _ _).alloc (Nat.le_refl _) (.cells #[.string s, .int .i64 0, .bool false] 55))).below ((Below.refl _ _).alloc (Nat.le_refl _) (.cells (tellV { kind := k } (.slice none 0 0) (.slice none 0 0) (.slice none 0 0)) 28))
  refine (hd _ _ _ _ _ _ _ hI).mono ?_; rintro e w3 ⟨rfl, kv, vv, nv, h3⟩
  have lb0 := hM2.b0.lt
  have lb1 := hM2.b1.lt
  have lbX := hM2.bX.lt
  have hM4 := hM3.kept h3.kp (by simp; omega) (by simp; omega) (by simp; omega) (by intro i hi; simp at hi; omega)
  clear hR hA hI hM3
  obtain ⟨p, hp1, hp2, hp3⟩ := h3.rd
  have r1 : w3.cell? ⟨w2.heap.size, 1, none⟩ = some (.int .i64 p) := hp3.cell 1
  have r2 : w3.cell? ⟨w2.heap.size, 2, none⟩ = some (.bool x) := hp3.cell 2
  have r3 : w3.cell? ⟨w.heap.size, 1, none⟩ = some (.string s) := hM4.b0.cell 1
  clear e0 e1 e2 hd hnew
  simp only at h3 hp2
  dsimp only
  by_cases hbad : x = true ∨ l ≠ []
  · have hF : decR (a, l, x) = ({}, 4) := by unfold decR; rw [if_pos hbad]
    have HF := Lib.hid hF
    clear hF h3
    have hp : x = true ∨ p < s.size := by
      rcases hbad with h | h
      · exact .inl h
      · right
        have : l.length = s.size - p := by rw [hp2]; exact drop_len s p
        have : 0 < l.length := List.length_pos_iff.2 h
        omega
    clear hbad hp2 hp3
    rcases hp with rfl | hp
    · go_wp2_with ((with_reducible refine wpList_store_mid (op := ⟨none, .store 28 (.tmp 2) (.tmp 40), _, _, _, _⟩) rfl 28 (.tmp 2) (.tmp 40) rfl (w.heap.size + 1) 0 (tellV {} (.slice none 0 0) (.slice none 0 0) (.slice none 0 0)) ?_ ?_ (hM4.b1.there _ (Nat.le_refl _)) (tellInfo' _ _ _ _) (tellOne _ _ _ _ rfl rfl rfl) ?_); (· rfl); (· rfl))
      have hb := hM4.b1.store (tellV {} (.slice none 0 0) (.slice none 0 0) (.slice none 0 0)) rfl
      refine bodyPost_ret (v := .tuple #[.agg (tellV {} (.slice none 0 0) (.slice none 0 0) (.slice none 0 0)), .int .i64 4]) (dec_out _ _ _ _ _ (by rfl) (by rfl) hb rfl) rfl ?_
      rw [HF.out]
      exact DecP.none 4 _ _ (hM4.bel.trans ((Keeps.sets (w.heap.size + 1) (.inl (List.mem_singleton.2 rfl)) _ 0 _ (Keeps.refl [w.heap.size + 1] _)).below (fun i hi => by rw [List.mem_singleton.1 hi]; omega) hM4.bel.size))
    · cases x
      all_goals
        go_wp2_with ((with_reducible refine wpList_store_mid (op := ⟨none, .store 28 (.tmp 2) (.tmp 40), _, _, _, _⟩) rfl 28 (.tmp 2) (.tmp 40) rfl (w.heap.size + 1) 0 (tellV {} (.slice none 0 0) (.slice none 0 0) (.slice none 0 0)) ?_ ?_ (hM4.b1.there _ (Nat.le_refl _)) (tellInfo' _ _ _ _) (tellOne _ _ _ _ rfl rfl rfl) ?_); (· rfl); (· rfl))
        have hb := hM4.b1.store (tellV {} (.slice none 0 0) (.slice none 0 0) (.slice none 0 0)) rfl
        refine bodyPost_ret (v := .tuple #[.agg (tellV {} (.slice none 0 0) (.slice none 0 0) (.slice none 0 0)), .int .i64 4]) (dec_out _ _ _ _ _ (by rfl) (by rfl) hb rfl) rfl ?_
        rw [HF.out]
        exact DecP.none 4 _ _ (hM4.bel.trans ((Keeps.sets (w.heap.size + 1) (.inl (List.mem_singleton.2 rfl)) _ 0 _ (Keeps.refl [w.heap.size + 1] _)).below (fun i hi => by rw [List.mem_singleton.1 hi]; omega) hM4.bel.size))
  · have hx : x = false := by cases x; rfl; exact absurd (Or.inl rfl) hbad
    have hl : l = [] := by
      by_cases h : l = []
      · exact h
      · exact absurd (Or.inr h) hbad
    subst hx
    have hF : decR (a, l, false) = (a, 0) := by unfold decR; rw [if_neg hbad]
    have HF := Lib.hid hF
    have hp : ¬ p < s.size := by
      have : l.length = s.size - p := by rw [hp2]; exact drop_len s p
      rw [hl] at this; simp at this; omega
    clear hF hbad hl hp2 hp3
    obtain ⟨fs, hu⟩ := tellTy
    have HU := Lib.hid hu
    clear hu
    have har := h3.ar
    have hone : (tellV a kv vv nv).all (·.oneCell') = true := by
      obtain ⟨kv', vv', nv', e, o1, o2, o3⟩ := har.ex
      rw [Value.agg.injEq] at e
      rw [e]
      exact tellOne _ _ _ _ o1.one o2.one o3.one
    have HO := Lib.hid hone
    have hbl : w3.heap[w2.heap.size + 1]? = some (.cells (tellV a kv vv nv) 28 (0, 0)) := h3.blk
    have HBL := Lib.hid hbl
    clear hbl
    clear hone
    have hsz := h3.kp.size
    simp at hsz
    go_wp2_with (first
      | ((with_reducible refine wpList_load_row (o := ⟨some 41, .load 28 (.tmp 7), _, _, _, _⟩) rfl 28 (.tmp 7) rfl (w2.heap.size + 1) ?_ 28 (tellV a kv vv nv) (0, 0) (.struct fs) HBL.out HU.out ?_ (tellInfo' _ _ _ _) ?_); (· rfl); (· rfl))
      | ((with_reducible refine wpList_store_mid (op := ⟨none, .store 28 (.tmp 2) (.tmp 41), _, _, _, _⟩) rfl 28 (.tmp 2) (.tmp 41) rfl (w.heap.size + 1) 0 (tellV a kv vv nv) ?_ ?_ (hM4.b1.there _ (Nat.le_refl _)) (tellInfo' _ _ _ _) (HO.out) ?_); (· rfl); (· rfl)))
    have hb := hM4.b1.store (tellV a kv vv nv) rfl
    have hk := Keeps.sets (w.heap.size + 1) (.inl (List.mem_singleton.2 rfl)) (tellV a kv vv nv).toList 0 _ (Keeps.refl [w.heap.size + 1] w3)
    refine bodyPost_ret (v := .tuple #[.agg (tellV a kv vv nv), .int .i64 0]) (dec_out _ _ _ _ _ (by rfl) (by rfl) hb rfl) rfl ?_
    rw [HF.out]
    refine ⟨_, rfl, ?_, hM4.bel.trans (hk.below (fun i hi => by rw [List.mem_singleton.1 hi]; omega) hM4.bel.size)⟩
    refine har.step (fun b hb => hk.block b hb.2 (fun e => ?_)) (fun b hb => ⟨?_, Nat.lt_of_lt_of_le hb.2 hk.size⟩)
    · rw [List.mem_singleton.1 e] at hb
      have := hb.1
      simp at this; omega
    · have := hb.1
      simp at this; omega

set_option maxHeartbeats 800000 in
theorem dec_read_fields (k : UInt8) (s : ByteArray) (w : World) (hk : kd k = some .fields) (hr : rightL (k, s.data.toList) = true) (hs : s.size ≤ 1099511627776) :
    Calls Try.prog 9 #[.agg #[u8 k, .string s]] w (DecP (decR (readD .fields { kind := k } s.data.toList false)) w) := by
  have hst : ∀ (i : Nat) (W : World) (p : Addr) (md), (store p (.func (.func i) #[] #[]) md).run Try.prog W = stored Try.prog W p (.func (.func i) #[] #[]) md := fun i W p md => run_store Try.prog W p _ md rfl
  have db := bodies_some k .fields hk
  have hmn := fun w1 => @mid_new w w1 k s (fnV (rdN .fields)) (fnV (wrN .fields))
  have dr := fun w => right_any k s w (by omega)
  rw [hr] at dr
  have hd : ∀ (R A : Nat) (w0 : World) (w : World) (kv vv nv : Value), AI R A s w0 { kind := k } s.data.toList false kv vv nv w → Calls Try.prog 51 #[.pointer (some ⟨R, 0, none⟩), .pointer (some ⟨A, 0, none⟩)] w (AiP R A s w0 (readD .fields { kind := k } s.data.toList false)) := fun R A w0 w kv vv nv h => rfields_any R A s w0 k _ _ kv vv nv w h hs
  have hnew := fun R A w => AI.new R A s w k
  generalize readD .fields { kind := k } s.data.toList false = F at *
  obtain ⟨a, l, x⟩ := F
  simp only [rdN] at db hmn
  generalize wrN .fields = wr at *
  clear hr hk
  unfold u8 at *
  go_enter Try.func9, Try.ntmps9
  go_wp2_with fail
  refine (db _).mono ?_; rintro e w1 ⟨rfl, hb1⟩
  have hM := hmn w1 hb1
  clear hmn hb1 db
  have c0 : (w1.alloc (.cells #[fnV 51, fnV wr] 51)).cell? ⟨w.heap.size, 0, none⟩ = some (.int .u8 (k.toNat : Int)) := hM.b0.cell 0
  have c1 : (w1.alloc (.cells #[fnV 51, fnV wr] 51)).cell? ⟨w.heap.size, 1, none⟩ = some (.string s) := hM.b0.cell 1
  go_wp2_with fail
  refine (dr _).mono ?_; rintro e w2 ⟨rfl, hb2⟩
  have hM2 := hM.below hb2
  have e0 : w2.cell? ⟨w.heap.size, 0, none⟩ = some (.int .u8 (k.toNat : Int)) := hM2.b0.cell 0
  have e1 : w2.cell? ⟨w.heap.size, 1, none⟩ = some (.string s) := hM2.b0.cell 1
  have e2 : w2.cell? ⟨w1.heap.size, 0, none⟩ = some (fnV 51) := hM2.bX.cell 0
  have l0 : w.heap.size < w2.heap.size := hM2.b0.lt
  have l1 : w1.heap.size < w2.heap.size := hM2.bX.lt
  clear c0 c1 hM hb2
  go_wp2_with fail
  have hR := Blk.new w2 55 #[.string s, .int .i64 0, .bool false]
  have hA := Blk.new (w2.alloc (.cells #[.string s, .int .i64 0, .bool false] 55)) 28 (tellV { kind := k } (.slice none 0 0) (.slice none 0 0) (.slice none 0 0))
  rw [show (w2.alloc (.cells #[.string s, .int .i64 0, .bool false] 55)).heap.size = w2.heap.size + 1 by simp] at hA
  have hI := hnew w2.heap.size (w2.heap.size + 1) _ (hR.alloc _) hA (by omega)
  have hM3 := (hM2.below ((Below.refl _ _).alloc (Nat.le_refl _) (.cells #[.string s, .int .i64 0, .bool false] 55))).below ((Below.refl _ _).alloc (Nat.le_refl _) (.cells (tellV { kind := k } (.slice none 0 0) (.slice none 0 0) (.slice none 0 0)) 28))
  refine (hd _ _ _ _ _ _ _ hI).mono ?_; rintro e w3 ⟨rfl, kv, vv, nv, h3⟩
  have lb0 := hM2.b0.lt
  have lb1 := hM2.b1.lt
  have lbX := hM2.bX.lt
  have hM4 := hM3.kept h3.kp (by simp; omega) (by simp; omega) (by simp; omega) (by intro i hi; simp at hi; omega)
  clear hR hA hI hM3
  obtain ⟨p, hp1, hp2, hp3⟩ := h3.rd
  have r1 : w3.cell? ⟨w2.heap.size, 1, none⟩ = some (.int .i64 p) := hp3.cell 1
  have r2 : w3.cell? ⟨w2.heap.size, 2, none⟩ = some (.bool x) := hp3.cell 2
  have r3 : w3.cell? ⟨w.heap.size, 1, none⟩ = some (.string s) := hM4.b0.cell 1
  clear e0 e1 e2 hd hnew
  simp only at h3 hp2
  dsimp only
  by_cases hbad : x = true ∨ l ≠ []
  · have hF : decR (a, l, x) = ({}, 4) := by unfold decR; rw [if_pos hbad]
    have HF := Lib.hid hF
    clear hF h3
    have hp : x = true ∨ p < s.size := by
      rcases hbad with h | h
      · exact .inl h
      · right
        have : l.length = s.size - p := by rw [hp2]; exact drop_len s p
        have : 0 < l.length := List.length_pos_iff.2 h
        omega
    clear hbad hp2 hp3
    rcases hp with rfl | hp
    · go_wp2_with ((with_reducible refine wpList_store_mid (op := ⟨none, .store 28 (.tmp 2) (.tmp 40), _, _, _, _⟩) rfl 28 (.tmp 2) (.tmp 40) rfl (w.heap.size + 1) 0 (tellV {} (.slice none 0 0) (.slice none 0 0) (.slice none 0 0)) ?_ ?_ (hM4.b1.there _ (Nat.le_refl _)) (tellInfo' _ _ _ _) (tellOne _ _ _ _ rfl rfl rfl) ?_); (· rfl); (· rfl))
      have hb := hM4.b1.store (tellV {} (.slice none 0 0) (.slice none 0 0) (.slice none 0 0)) rfl
      refine bodyPost_ret (v := .tuple #[.agg (tellV {} (.slice none 0 0) (.slice none 0 0) (.slice none 0 0)), .int .i64 4]) (dec_out _ _ _ _ _ (by rfl) (by rfl) hb rfl) rfl ?_
      rw [HF.out]
      exact DecP.none 4 _ _ (hM4.bel.trans ((Keeps.sets (w.heap.size + 1) (.inl (List.mem_singleton.2 rfl)) _ 0 _ (Keeps.refl [w.heap.size + 1] _)).below (fun i hi => by rw [List.mem_singleton.1 hi]; omega) hM4.bel.size))
    · cases x
      all_goals
        go_wp2_with ((with_reducible refine wpList_store_mid (op := ⟨none, .store 28 (.tmp 2) (.tmp 40), _, _, _, _⟩) rfl 28 (.tmp 2) (.tmp 40) rfl (w.heap.size + 1) 0 (tellV {} (.slice none 0 0) (.slice none 0 0) (.slice none 0 0)) ?_ ?_ (hM4.b1.there _ (Nat.le_refl _)) (tellInfo' _ _ _ _) (tellOne _ _ _ _ rfl rfl rfl) ?_); (· rfl); (· rfl))
        have hb := hM4.b1.store (tellV {} (.slice none 0 0) (.slice none 0 0) (.slice none 0 0)) rfl
        refine bodyPost_ret (v := .tuple #[.agg (tellV {} (.slice none 0 0) (.slice none 0 0) (.slice none 0 0)), .int .i64 4]) (dec_out _ _ _ _ _ (by rfl) (by rfl) hb rfl) rfl ?_
        rw [HF.out]
        exact DecP.none 4 _ _ (hM4.bel.trans ((Keeps.sets (w.heap.size + 1) (.inl (List.mem_singleton.2 rfl)) _ 0 _ (Keeps.refl [w.heap.size + 1] _)).below (fun i hi => by rw [List.mem_singleton.1 hi]; omega) hM4.bel.size))
  · have hx : x = false := by cases x; rfl; exact absurd (Or.inl rfl) hbad
    have hl : l = [] := by
      by_cases h : l = []
      · exact h
      · exact absurd (Or.inr h) hbad
    subst hx
    have hF : decR (a, l, false) = (a, 0) := by unfold decR; rw [if_neg hbad]
    have HF := Lib.hid hF
    have hp : ¬ p < s.size := by
      have : l.length = s.size - p := by rw [hp2]; exact drop_len s p
      rw [hl] at this; simp at this; omega
    clear hF hbad hl hp2 hp3
    obtain ⟨fs, hu⟩ := tellTy
    have HU := Lib.hid hu
    clear hu
    have har := h3.ar
    have hone : (tellV a kv vv nv).all (·.oneCell') = true := by
      obtain ⟨kv', vv', nv', e, o1, o2, o3⟩ := har.ex
      rw [Value.agg.injEq] at e
      rw [e]
      exact tellOne _ _ _ _ o1.one o2.one o3.one
    have HO := Lib.hid hone
    have hbl : w3.heap[w2.heap.size + 1]? = some (.cells (tellV a kv vv nv) 28 (0, 0)) := h3.blk
    have HBL := Lib.hid hbl
    clear hbl
    clear hone
    have hsz := h3.kp.size
    simp at hsz
    go_wp2_with (first
      | ((with_reducible refine wpList_load_row (o := ⟨some 41, .load 28 (.tmp 7), _, _, _, _⟩) rfl 28 (.tmp 7) rfl (w2.heap.size + 1) ?_ 28 (tellV a kv vv nv) (0, 0) (.struct fs) HBL.out HU.out ?_ (tellInfo' _ _ _ _) ?_); (· rfl); (· rfl))
      | ((with_reducible refine wpList_store_mid (op := ⟨none, .store 28 (.tmp 2) (.tmp 41), _, _, _, _⟩) rfl 28 (.tmp 2) (.tmp 41) rfl (w.heap.size + 1) 0 (tellV a kv vv nv) ?_ ?_ (hM4.b1.there _ (Nat.le_refl _)) (tellInfo' _ _ _ _) (HO.out) ?_); (· rfl); (· rfl)))
    have hb := hM4.b1.store (tellV a kv vv nv) rfl
    have hk := Keeps.sets (w.heap.size + 1) (.inl (List.mem_singleton.2 rfl)) (tellV a kv vv nv).toList 0 _ (Keeps.refl [w.heap.size + 1] w3)
    refine bodyPost_ret (v := .tuple #[.agg (tellV a kv vv nv), .int .i64 0]) (dec_out _ _ _ _ _ (by rfl) (by rfl) hb rfl) rfl ?_
    rw [HF.out]
    refine ⟨_, rfl, ?_, hM4.bel.trans (hk.below (fun i hi => by rw [List.mem_singleton.1 hi]; omega) hM4.bel.size)⟩
    refine har.step (fun b hb => hk.block b hb.2 (fun e => ?_)) (fun b hb => ⟨?_, Nat.lt_of_lt_of_le hb.2 hk.size⟩)
    · rw [List.mem_singleton.1 e] at hb
      have := hb.1
      simp at this; omega
    · have := hb.1
      simp at this; omega

theorem dec_any (k : UInt8) (s : ByteArray) (w : World) (hs : s.size ≤ 1099511627776) :
    Calls Try.prog 9 #[.agg #[u8 k, .string s]] w (DecP (decP k s.data.toList) w) := by
  cases hk : kd k with
  | none =>
    have e : decP k s.data.toList = ({}, 5) := by unfold decP; rw [hk]
    rw [e]; exact dec_kind k s w hk
  | some d =>
    cases hr : rightL (k, s.data.toList)
    · rw [decP_no k _ d hk hr]; exact dec_form k s w d hk hr (by omega)
    · rw [decP_yes k _ d hk hr]
      cases d
      · exact dec_read_login k s w hk hr hs
      · exact dec_read_secret k s w hk hr hs
      · exact dec_read_status k s w hk hr hs
      · exact dec_read_done k s w hk hr hs
      · exact dec_read_setting k s w hk hr hs
      · exact dec_read_columns k s w hk hr hs
      · exact dec_read_row k s w hk hr hs
      · exact dec_read_fields k s w hk hr hs
      · exact dec_read_nothing k s w hk hr hs
end Go.Proofs.Ytnjifbgjglniaaa.BK
