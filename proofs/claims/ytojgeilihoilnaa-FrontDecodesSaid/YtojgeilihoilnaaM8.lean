/- What package front's writer writes of a start, and of a portal's arguments. Condition: what is asked is of at most so many and so long texts (Few).
   What package front's writer writes of a portal's arguments. Condition: what is asked is of at most so many and so long texts (Few).
   When slices.Equal, and the document's own Texts, call two lists alike: just if they are the same. Condition: the lists are of at most 2^40 elements.
   Steps of a walk that are taken one operation at a time, each by a law, with no simplifier: for long statements of many guarded operations.
   When package front's same calls two asks the same: just if they are. Condition: the lists are of at most 2^40 elements.
   What package front's short answers: whether lists and texts are short enough for a message. Condition: what is asked is of at most so many and so long texts (Few).
   More steps of a walk that are taken one operation at a time: chains of && whose terms look at one field. -/
import Derived.Test.YtojgeilihoilnaaM7
import Derived.Test.YtojgeilihoilnaaM4
import Derived.BigFrame
import Derived.Shelf.Abstract
set_option linter.unusedSimpArgs false
set_option linter.unusedVariables false
namespace Go.Proofs.Ytojgeilihoilnaa
open Go.ChangeShapes Go.WideShapes Go.ChangeAt Go.RowKit
set_option linter.unusedVariables false
attribute [local go_sem ↓] Go.wp_at_zero Go.wp_at_succ

theorem LR.get {P : Nat → Prop} {w : World} {v : Value} {xs : List Value} (h : LR P w v xs) (hn : xs ≠ []) : ∃ p off cap, v = .slice (some ⟨p, off, none⟩) xs.length cap ∧ xs.length ≤ cap ∧ cap ≤ maxLen ∧ P p ∧ ∀ (j : Nat) (x : Value), xs[j]? = some x → w.cell? ⟨p, off + j, none⟩ = some x := by
  obtain ⟨A, cap, e, h1, h2, h3⟩ := h
  obtain ⟨p, off, e2, hp, hc⟩ := h3 hn
  exact ⟨p, off, cap, by rw [e, e2], h1, h2, hp, hc⟩
theorem LR.addr {P : Nat → Prop} {w : World} {A : Option Addr} {n cap : Nat} {xs : List Value} (h : LR P w (.slice A n cap) xs) (hn : xs ≠ []) : ∃ p off, A = some ⟨p, off, none⟩ ∧ P p ∧ ∀ (j : Nat) (x : Value), xs[j]? = some x → w.cell? ⟨p, off + j, none⟩ = some x := by
  obtain ⟨p, off, cap', e, _, _, hp, hc⟩ := h.get hn
  injection e with e _ _
  exact ⟨p, off, e, hp, hc⟩
theorem ne_strs {l : List Tx} {k : Nat} (h : k < l.length) : strs l ≠ [] := by intro e; have := congrArg List.length e; rw [strs_len] at this; simp at this; rw [this] at h; simp at h
theorem ne_bools {l : List Bool} {k : Nat} (h : k < l.length) : bools l ≠ [] := by intro e; have := congrArg List.length e; rw [bools_len] at this; simp at this; rw [this] at h; simp at h
theorem ne_ints {l : List Int} {k : Nat} (h : k < l.length) : ints l ≠ [] := by intro e; have := congrArg List.length e; rw [ints_len] at this; simp at this; rw [this] at h; simp at h
theorem strs_get (l : List Tx) (k : Nat) (h : k < l.length) : (strs l)[k]? = some (.string (ba l[k])) := by simp [strs, h]
theorem bools_get (l : List Bool) (k : Nat) (h : k < l.length) : (bools l)[k]? = some (.bool l[k]) := by simp [bools, h]
theorem ints_get (l : List Int) (k : Nat) (h : k < l.length) : (ints l)[k]? = some (.int .i64 l[k]) := by simp [ints, h]

theorem wcancel_any (W : Nat) (a : Ask) (kv vv av nv fv : Value) (w : World) (h : WB w W []) (hc : a.cancel = true) :
    Calls Try.prog 29 #[.pointer (some ⟨W, 0, none⟩), .agg (askV a kv vv av nv fv)] w (WsP W (bodyD .start a) w) := by
  have h0 := WI.new (a := a) (kv := kv) (vv := vv) (av := av) (nv := nv) (fv := fv) h
  have eb : bodyD .start a = [] ++ n32 80877102 ++ n32 a.pid ++ n32 a.secret := by simp [bodyD, hc]
  rw [eb]; clear eb
  have HC := Lib.hid hc
  unfold askV at *
  rw [hc] at *
  clear hc
  go_enter Try.func29, Try.ntmps29
  go_wp2_with fail
  refine (w4_any W [] _ 80877102 h0.wb (by simp)).mono ?_; rintro e w1 ⟨rfl, hw1, hk1⟩
  have h1 := h0.step hw1 hk1
  have c1 : w1.cell? ⟨w.heap.size, 12, none⟩ = some (.int .i64 a.pid) := h1.cell 12
  clear hw1 hk1
  go_wp2_with fail
  refine (w4_any W _ _ a.pid h1.wb (by simp [n32_len])).mono ?_; rintro e w2 ⟨rfl, hw2, hk2⟩
  have h2 := h1.step hw2 hk2
  have c2 : w2.cell? ⟨w.heap.size, 13, none⟩ = some (.int .i64 a.secret) := h2.cell 13
  clear hw2 hk2
  go_wp2_with fail
  refine (w4_any W _ _ a.secret h2.wb (by simp [n32_len])).mono ?_; rintro e w3 ⟨rfl, hw3, hk3⟩
  have h3 := h2.step hw3 hk3
  go_wp2
  go_end0
  exact h3.done

set_option maxHeartbeats 1000000 in
set_option maxRecDepth 100000 in
theorem wstart_any (W : Nat) (a : Ask) (kv vv av nv fv : Value) (w : World) (h : WB w W []) (hc : a.cancel = false) (f : Few a) (hk : LR (fun i => i < w.heap.size ∧ i ≠ W) w kv (strs a.keys)) (hv : LR (fun i => i < w.heap.size ∧ i ≠ W) w vv (strs a.vals)) :
    Calls Try.prog 29 #[.pointer (some ⟨W, 0, none⟩), .agg (askV a kv vv av nv fv)] w (WsP W (bodyD .start a) w) := by
  have h0 := WI.new (a := a) (kv := kv) (vv := vv) (av := av) (nv := nv) (fv := fv) h
  have eb : bodyD .start a = n32 196608 ++ pairsW a.keys a.vals ++ txt [] := by simp [bodyD, hc, txt, upto0]
  rw [eb]; clear eb
  obtain ⟨A4, c4, e4, hc1, hc2⟩ := hk.form
  obtain ⟨A5, c5, e5, hc3, hc4⟩ := hv.form
  rw [strs_len] at e4 e5 hc1 hc3
  have fk := f.keys
  have fv1 := f.vals
  have HF := Lib.hid f
  have HK := Lib.hid hk
  have HV := Lib.hid hv
  clear hk hv f
  have hW0 := h0.wb
  have H0 := Lib.hid h0
  clear h0
  subst e4 e5
  unfold askV
  rw [hc]
  have HC := Lib.hid hc
  clear hc
  go_enter Try.func29, Try.ntmps29
  go_wp2_with fail
  refine (w4_any W [] _ 196608 (by have := H0.out.wb; unfold askV at this; rw [HC.out] at this; exact this) (by simp)).mono ?_; rintro e w1 ⟨rfl, hw1, hk1⟩
  have h1 : WI W w.heap.size ([] ++ n32 196608) a (.slice A4 a.keys.length c4) (.slice A5 a.vals.length c5) av nv fv w w1 := H0.out.step hw1 (by unfold askV; rw [HC.out]; exact hk1)
  have q4 : w1.cell? ⟨w.heap.size, 4, none⟩ = some (.slice A4 a.keys.length c4) := h1.cell 4
  have q5 : w1.cell? ⟨w.heap.size, 5, none⟩ = some (.slice A5 a.vals.length c5) := h1.cell 5
  clear hw1 hk1 hW0
  obtain ⟨M, hM⟩ : ∃ M, min a.keys.length a.vals.length = M := ⟨_, rfl⟩
  have hM1 : M ≤ a.keys.length := by omega
  have hM2 : M ≤ a.vals.length := by omega
  have hmin : min (a.keys.length : Int) (a.vals.length : Int) = (M : Int) := by omega
  have HM := Lib.hid hM
  have HN := Lib.hid hmin
  clear hM hmin
  go_wp2
  rw [HN.out]
  go_loopw [26] (fun i wr => ∃ k : Nat, k ≤ M ∧ i = .int .i64 k ∧ WI W w.heap.size (n32 196608 ++ pairsW (a.keys.take k) (a.vals.take k)) a (.slice A4 a.keys.length c4) (.slice A5 a.vals.length c5) av nv fv w wr) (fun i _ => M - (intOf i).toNat)
  case atStart => exact ⟨0, Nat.zero_le _, rfl, by simpa [pairsW] using h1⟩
  case round =>
    obtain ⟨k, hk, rfl, hi⟩ := hrel
    clear h1 q4 q5
    by_cases hlt : k < M
    · have k1 : k < a.keys.length := by omega
      have k2 : k < a.vals.length := by omega
      obtain ⟨p4, o4, rfl, hp4, hg4⟩ := (hi.row HK.out).addr (ne_strs k1)
      obtain ⟨p5, o5, rfl, hp5, hg5⟩ := (hi.row HV.out).addr (ne_strs k2)
      have x4 := hg4 k _ (strs_get a.keys k k1)
      have hs := pairsW_step a.keys a.vals k k1 k2
      have HS := Lib.hid hs
      have HG5 := Lib.hid hg5
      clear hg4 hs hg5
      have q4 : wr.cell? ⟨w.heap.size, 4, none⟩ = some (.slice (some ⟨p4, o4, none⟩) a.keys.length c4) := hi.cell 4
      have t4 := HF.out.keysT a.keys[k] (List.getElem_mem _)
      have t5 := HF.out.valsT a.vals[k] (List.getElem_mem _)
      have hfew := pairsW_few (a.keys.take k) (a.vals.take k) (fun t ht => HF.out.keysT t (List.mem_of_mem_take ht)) (fun t ht => HF.out.valsT t (List.mem_of_mem_take ht))
      have hlen : (a.keys.take k).length ≤ 1000 := by rw [List.length_take]; omega
      have u4 := txt_len a.keys[k]
      have hb : (n32 196608 ++ pairsW (a.keys.take k) (a.vals.take k)).length ≤ 1000000000 := by rw [List.length_append, n32_len]; omega
      clear hfew hlen
      generalize hKk : a.keys[k] = K at *
      generalize hVk : a.vals[k] = V at *
      have HKk := Lib.hid hKk
      have HVk := Lib.hid hVk
      clear hKk hVk
      go_wp2_with fail
      refine (wtext_any W _ _ K hi.wb (by omega) (by omega)).mono ?_; rintro e w2 ⟨rfl, hw2, hk2⟩
      have h2 := hi.step hw2 hk2
      have x5 : w2.cell? ⟨p5, o5 + k, none⟩ = some (.string (ba V)) := (hk2.cells p5 (Nat.lt_of_lt_of_le hp5.1 hi.kp.size) (by simpa using hp5.2) _).trans (by rw [← HVk.out]; exact HG5.out k _ (strs_get a.vals k k2))
      have q5 : w2.cell? ⟨w.heap.size, 5, none⟩ = some (.slice (some ⟨p5, o5, none⟩) a.vals.length c5) := h2.cell 5
      clear hw2 hk2 x4 q4 hi
      go_wp2_with fail
      refine (wtext_any W _ _ V h2.wb (by rw [List.length_append]; omega) (by omega)).mono ?_; rintro e w3 ⟨rfl, hw3, hk3⟩
      have h3 := h2.step hw3 hk3
      clear hw3 hk3 x5 q5 h2
      go_wp2
      go_roundw
      case rel => exact ⟨k + 1, by omega, by go_num, by rw [HS.out]; simpa using h3⟩
      case measure => simp [intOf]; omega
    · have e : k = M := by omega
      subst e
      have hb : pairsW (a.keys.take k) (a.vals.take k) = pairsW a.keys a.vals := by rw [← HM.out]; exact pairsW_min a.keys a.vals
      rw [hb] at hi
      have hfew := pairsW_few a.keys a.vals HF.out.keysT HF.out.valsT
      clear hb
      go_wp2_with fail
      refine (wtext_any W _ _ [] hi.wb (by rw [List.length_append, n32_len]; omega) (by simp)).mono ?_; rintro e w2 ⟨rfl, hw2, hk2⟩
      have h2 := hi.step hw2 hk2
      go_wp2
      go_end0
      exact h2.done
end Go.Proofs.Ytojgeilihoilnaa
namespace Go.Proofs.Ytojgeilihoilnaa
open Go.ChangeShapes Go.WideShapes Go.ChangeAt Go.RowKit
set_option linter.unusedVariables false
attribute [local go_sem ↓] Go.wp_at_zero Go.wp_at_succ

theorem WI.put {W X : Nat} {b : Tx} {a : Ask} {kv vv av nv fv : Value} {w0 w : World} (h : WI W X b a kv vv av nv fv w0 w) (K : Tx) : WI W X (b ++ K) a kv vv av nv fv w0 (w.setCell ⟨W, 0, none⟩ (.string (ba b ++ ba K))).drew := by
  have e : ba b ++ ba K = ba (b ++ K) := ba_append b K
  rw [e]
  refine h.step (b' := b ++ K) ?_ ((Keeps.refl _ _).set _ _ _ (.inl (by simp))).drew
  exact (show Blk _ _ _ _ from Blk.set_ h.wb 0 (.string (ba (b ++ K))))

set_option maxHeartbeats 2000000 in
set_option maxRecDepth 100000 in
theorem wbind_any (W : Nat) (a : Ask) (kv vv av nv fv : Value) (w : World) (h : WB w W []) (f : Few a) (hk : LR (fun i => i < w.heap.size ∧ i ≠ W) w av (strs a.args)) (hv : LR (fun i => i < w.heap.size ∧ i ≠ W) w nv (bools a.null)) (hf : LR (fun i => i < w.heap.size ∧ i ≠ W) w fv (ints a.formats)) :
    Calls Try.prog 37 #[.pointer (some ⟨W, 0, none⟩), .agg (askV a kv vv av nv fv)] w (WsP W (bodyD .bind a) w) := by
  have h0 := WI.new (a := a) (kv := kv) (vv := vv) (av := av) (nv := nv) (fv := fv) h
  have eb : bodyD .bind a = (txt a.portal ++ txt a.name ++ n16 0 ++ n16 (min a.args.length a.null.length : Nat)) ++ argsW a.args a.null ++ n16 a.formats.length ++ fmtW a.formats := by simp [bodyD]
  rw [eb]; clear eb
  obtain ⟨A6, c6, e6, hc1, hc2⟩ := hk.form
  obtain ⟨A7, c7, e7, hc3, hc4⟩ := hv.form
  obtain ⟨A8, c8, e8, hc5, hc6⟩ := hf.form
  rw [strs_len] at e6 hc1
  rw [bools_len] at e7 hc3
  rw [ints_len] at e8 hc5
  have fk := f.args
  have fv1 := f.null
  have ff := f.fmts
  have fp := f.portal
  have fn := f.name
  have tp := txt_len a.portal
  have tn := txt_len a.name
  have HF := Lib.hid f
  have HK := Lib.hid hk
  have HV := Lib.hid hv
  have HW := Lib.hid hf
  clear hk hv hf f
  subst e6 e7 e8
  unfold askV at *
  go_enter Try.func37, Try.ntmps37
  go_wp2_with fail
  refine (wtext_any W [] _ a.portal h0.wb (by simp) (by omega)).mono ?_; rintro e w1 ⟨rfl, hw1, hk1⟩
  have h1 := h0.step hw1 hk1
  have c1 : w1.cell? ⟨w.heap.size, 1, none⟩ = some (.string (ba a.name)) := h1.cell 1
  clear hw1 hk1 h0
  go_wp2_with fail
  refine (wtext_any W _ _ a.name h1.wb (by simp; omega) (by omega)).mono ?_; rintro e w2 ⟨rfl, hw2, hk2⟩
  have h2 := h1.step hw2 hk2
  clear hw2 hk2 h1 c1
  go_wp2_with fail
  refine (w2_any W _ _ 0 h2.wb (by simp; omega)).mono ?_; rintro e w3 ⟨rfl, hw3, hk3⟩
  have h3 := h2.step hw3 hk3
  clear hw3 hk3 h2
  obtain ⟨M, hM⟩ : ∃ M, min a.args.length a.null.length = M := ⟨_, rfl⟩
  have hM1 : M ≤ a.args.length := by omega
  have hM2 : M ≤ a.null.length := by omega
  have hmin : min (a.args.length : Int) (a.null.length : Int) = (M : Int) := by omega
  have q6 : w3.cell? ⟨w.heap.size, 6, none⟩ = some (.slice A6 a.args.length c6) := h3.cell 6
  have q7 : w3.cell? ⟨w.heap.size, 7, none⟩ = some (.slice A7 a.null.length c7) := h3.cell 7
  have HM := Lib.hid hM
  clear hM
  go_wp2_with fail
  refine (w2_any W _ _ (M : Int) h3.wb (by simp [n16_len]; omega)).mono ?_; rintro e w4 ⟨rfl, hw4, hk4⟩
  have h4 := h3.step hw4 hk4
  clear hw4 hk4 h3 q6 q7 hmin
  go_wp2
  rw [HM.out]
  have hB0 : ([] ++ txt a.portal ++ txt a.name ++ n16 0 ++ n16 (M : Int) : Tx).length ≤ 100000 := by simp [n16_len]; omega
  obtain ⟨B0, hB⟩ : ∃ B0 : Tx, B0 = [] ++ txt a.portal ++ txt a.name ++ n16 0 ++ n16 (M : Int) := ⟨_, rfl⟩
  rw [← hB] at h4 hB0
  have HB : Hid (txt a.portal ++ txt a.name ++ n16 0 ++ n16 (M : Int) = B0) := Lib.hid (by rw [hB]; simp)
  clear hB
  go_loopw [29] (fun i wr => ∃ k : Nat, k ≤ M ∧ i = .int .i64 k ∧ WI W w.heap.size (B0 ++ argsW (a.args.take k) (a.null.take k)) a kv vv (.slice A6 a.args.length c6) (.slice A7 a.null.length c7) (.slice A8 a.formats.length c8) w wr) (fun i _ => M - (intOf i).toNat)
  case atStart => exact ⟨0, Nat.zero_le _, rfl, by simpa [argsW] using h4⟩
  case round =>
    obtain ⟨k, hk, rfl, hi⟩ := hrel
    clear h4
    by_cases hlt : k < M
    · have k1 : k < a.args.length := by omega
      have k2 : k < a.null.length := by omega
      obtain ⟨p6, o6, rfl, hp6, hg6⟩ := (hi.row HK.out).addr (ne_strs k1)
      obtain ⟨p7, o7, rfl, hp7, hg7⟩ := (hi.row HV.out).addr (ne_bools k2)
      have x7 := hg7 k _ (bools_get a.null k k2)
      have x6 := hg6 k _ (strs_get a.args k k1)
      have HS := Lib.hid (argsW_step a.args a.null k k1 k2)
      clear hg6 hg7
      have q7 : wr.cell? ⟨w.heap.size, 7, none⟩ = some (.slice (some ⟨p7, o7, none⟩) a.null.length c7) := hi.cell 7
      have q6 : wr.cell? ⟨w.heap.size, 6, none⟩ = some (.slice (some ⟨p6, o6, none⟩) a.args.length c6) := hi.cell 6
      have t6 := HF.out.argsT a.args[k] (List.getElem_mem _)
      have hfew := argsW_few (a.args.take k) (a.null.take k) (fun t ht => HF.out.argsT t (List.mem_of_mem_take ht))
      have hlen : (a.args.take k).length ≤ 1000 := by rw [List.length_take]; omega
      have hb : (B0 ++ argsW (a.args.take k) (a.null.take k)).length ≤ 1000000000 := by rw [List.length_append]; omega
      clear hfew hlen
      generalize hKk : a.args[k] = K at *
      generalize hNk : a.null[k] = N at *
      clear hKk hNk
      cases N
      · have sz : (ba K).size ≤ 10000 := by rw [ba_size]; exact t6
        have hlK : (K.length : Int) = ((ba K).size : Int) := by rw [ba_size]
        have HL := Lib.hid hlK
        clear hlK
        go_wp2_with fail
        refine (w4_any W _ _ _ hi.wb (by omega)).mono ?_; rintro e w5 ⟨rfl, hw5, hk5⟩
        have h5 := hi.step hw5 hk5
        have y6 : w5.cell? ⟨p6, o6 + k, none⟩ = some (.string (ba K)) := (hk5.cells p6 (Nat.lt_of_lt_of_le hp6.1 hi.kp.size) (by simpa using hp6.2) _).trans x6
        have z6 : w5.cell? ⟨w.heap.size, 6, none⟩ = some (.slice (some ⟨p6, o6, none⟩) a.args.length c6) := h5.cell 6
        clear hw5 hk5 hi q6 q7 x6 x7
        have g0 : w5.cell? ⟨W, 0, none⟩ = some (.string (ba _)) := Blk.cell h5.wb 0
        have g1 : w5.frozen? ⟨W, 0, none⟩ = false := Blk.frozen h5.wb 0
        have s1 : (ba (B0 ++ argsW (a.args.take k) (a.null.take k) ++ n32 ((ba K).size : Int))).size ≤ 1000000004 := by rw [ba_size, List.length_append, n32_len]; omega
        have hput := h5.put K
        have i1 : (0 : Int) ≤ (k : Int) := by omega
        have i2 : (k : Int) < (a.args.length : Int) := by omega
        obtain ⟨B1, hB1⟩ : ∃ B1, B1 = B0 ++ argsW (a.args.take k) (a.null.take k) ++ n32 ((ba K).size : Int) := ⟨_, rfl⟩
        rw [← hB1] at g0 s1 hput
        have HB1 := Lib.hid hB1
        clear hB1 h5
        go_wp2_with fail
        go_region
        all_goals
          go_wp2
          go_roundw
          case rel => exact ⟨k + 1, by omega, by go_num, by have e : B1 ++ K = B0 ++ argsW (a.args.take (k + 1)) (a.null.take (k + 1)) := by { rw [HB1.out, HS.out, argW_false, HL.out]; simp }; rw [e] at hput; exact hput⟩
          case measure => simp [intOf]; omega
      · go_wp2_with fail
        refine (w4_any W _ _ _ hi.wb (by omega)).mono ?_; rintro e w5 ⟨rfl, hw5, hk5⟩
        have h5 := hi.step hw5 hk5
        clear hw5 hk5 hi q6 q7 x6 x7
        go_wp2
        go_roundw
        case rel => exact ⟨k + 1, by omega, by go_num, by rw [HS.out, argW_true]; simpa using h5⟩
        case measure => simp [intOf]; omega
    · have e : k = M := by omega
      subst e
      have hb : argsW (a.args.take k) (a.null.take k) = argsW a.args a.null := by rw [← HM.out]; exact argsW_min a.args a.null
      rw [hb] at hi
      have hfew := argsW_few a.args a.null HF.out.argsT
      clear hb
      have q8 : wr.cell? ⟨w.heap.size, 8, none⟩ = some (.slice A8 a.formats.length c8) := hi.cell 8
      go_wp2_with fail
      refine (w2_any W _ _ _ hi.wb (by rw [List.length_append]; omega)).mono ?_; rintro e w5 ⟨rfl, hw5, hk5⟩
      have h5 := hi.step hw5 hk5
      have q8' : w5.cell? ⟨w.heap.size, 8, none⟩ = some (.slice A8 a.formats.length c8) := h5.cell 8
      clear hw5 hk5 hi q8
      have hB1 : (B0 ++ argsW a.args a.null ++ n16 (a.formats.length : Int)).length ≤ 200000000 := by simp [n16_len]; omega
      obtain ⟨B1, hB⟩ : ∃ B1 : Tx, B1 = B0 ++ argsW a.args a.null ++ n16 (a.formats.length : Int) := ⟨_, rfl⟩
      rw [← hB] at h5 hB1
      have HB1 := Lib.hid hB
      clear hB
      go_wp2
      obtain ⟨wo, rfl⟩ : ∃ wo : World, wo = wr := ⟨_, rfl⟩
      go_loopw [68] (fun i wr => ∃ j : Nat, j ≤ a.formats.length ∧ i = .int .i64 j ∧ WI W w.heap.size (B1 ++ fmtW (a.formats.take j)) a kv vv (.slice A6 a.args.length c6) (.slice A7 a.null.length c7) (.slice A8 a.formats.length c8) w wr) (fun i _ => a.formats.length - (intOf i).toNat)
      case atStart => exact ⟨0, Nat.zero_le _, rfl, by simpa [fmtW] using h5⟩
      case round =>
        obtain ⟨j, hj, rfl, hi⟩ := hrel
        clear h5 q8'
        by_cases hlt : j < a.formats.length
        · obtain ⟨p8, o8, rfl, hp8, hg8⟩ := (hi.row HW.out).addr (ne_ints hlt)
          have x8 := hg8 j _ (ints_get a.formats j hlt)
          have HS := Lib.hid (fmtW_step a.formats j hlt)
          have hl := fmtW_len (a.formats.take j)
          have hlen : (a.formats.take j).length ≤ 1000 := by rw [List.length_take]; omega
          have hb : (B1 ++ fmtW (a.formats.take j)).length ≤ 1000000000 := by rw [List.length_append]; omega
          clear hg8 hl hlen
          generalize hFj : a.formats[j] = Fj at *
          clear hFj
          go_wp2_with fail
          refine (w2_any W _ _ _ hi.wb (by omega)).mono ?_; rintro e w6 ⟨rfl, hw6, hk6⟩
          have h6 := hi.step hw6 hk6
          clear hw6 hk6 hi x8
          go_wp2
          go_roundw
          case rel => exact ⟨j + 1, by omega, by go_num, by rw [HS.out]; simpa using h6⟩
          case measure => simp [intOf]; omega
        · have e : j = a.formats.length := by omega
          subst e
          rw [List.take_length] at hi
          go_wp2
          go_end0
          rw [HM.out, HB.out, ← HB1.out]
          exact hi.done
end Go.Proofs.Ytojgeilihoilnaa
namespace Go.Proofs.Ytojgeilihoilnaa
open Go.ChangeShapes Go.WideShapes Go.ChangeAt Go.RowKit
set_option linter.unusedVariables false

theorem take_eq {α : Type} {xs ys : List α} {k : Nat} (h1 : k < xs.length) (h2 : k < ys.length) (ht : xs.take k = ys.take k) (he : xs[k] = ys[k]) : xs.take (k + 1) = ys.take (k + 1) := by
  rw [List.take_succ_eq_append_getElem h1, List.take_succ_eq_append_getElem h2, ht, he]
theorem drewN_two (w : World) (n m : Nat) : (w.drewN n).drewN m = w.drewN (n + m) := by unfold World.drewN; simp [Nat.add_assoc]
theorem ne_of_get {α : Type} {xs ys : List α} {k : Nat} (h1 : k < xs.length) (h2 : k < ys.length) (he : ¬ xs[k] = ys[k]) : xs ≠ ys := by
  intro e; subst e; exact he rfl

set_option maxHeartbeats 400000 in
theorem eqS_any {P P' : Nat → Prop} (w : World) (v1 v2 : Value) (xs ys : List Tx) (h1 : LR P w v1 (strs xs)) (h2 : LR P' w v2 (strs ys)) (hl1 : xs.length ≤ 1099511627776) (hl2 : ys.length ≤ 1099511627776) :
    Calls Try.prog 50 #[v1, v2] w fun e w' => e = .returned (.bool (decide (xs = ys))) ∧ ∃ n, w' = w.drewN n := by
  obtain ⟨A1, c1, e1, hc1, hm1⟩ := h1.form
  obtain ⟨A2, c2, e2, hc2, hm2⟩ := h2.form
  rw [strs_len] at e1 e2 hc1 hc2
  subst e1 e2
  by_cases hlen : xs.length = ys.length
  · have H1 := Lib.hid h1
    have H2 := Lib.hid h2
    have HL := Lib.hid hlen
    have hbb : ((xs.length : Int) != (ys.length : Int)) = false := by simp; omega
    clear h1 h2 hlen
    go_enter Try.func50, Try.ntmps50
    go_wp2
    go_loopw [13] (fun i wr => ∃ k n : Nat, k ≤ xs.length ∧ i = .int .i64 k ∧ wr = w.drewN n ∧ xs.take k = ys.take k) (fun i _ => xs.length - (intOf i).toNat)
    case atStart => exact ⟨0, 0, Nat.zero_le _, rfl, rfl, rfl⟩
    case round =>
      obtain ⟨k, n, hk, rfl, rfl, ht⟩ := hrel
      have HT := Lib.hid ht
      clear ht
      by_cases hlt : k < xs.length
      · have hlt2 : k < ys.length := by rw [← HL.out]; exact hlt
        obtain ⟨p1, o1, rfl, hp1, hg1⟩ := H1.out.addr (ne_strs hlt)
        obtain ⟨p2, o2, rfl, hp2, hg2⟩ := H2.out.addr (ne_strs hlt2)
        have x1 := hg1 k _ (strs_get xs k hlt)
        have x2 := hg2 k _ (strs_get ys k hlt2)
        clear hg1 hg2
        have i0 : (0 : Int) ≤ (k : Int) := by omega
        have i1 : (k : Int) < (xs.length : Int) := by omega
        have i2 : (k : Int) < (ys.length : Int) := by omega
        by_cases he : xs[k] = ys[k]
        · have HR := Lib.hid (take_eq hlt hlt2 HT.out he)
          rw [← he] at x2
          clear he
          generalize xs[k] = t at *
          go_wp2
          go_quiet (fail)
          go_wp2
          go_roundw
          case rel => exact ⟨k + 1, _, by omega, by go_num, rfl, HR.out⟩
          case measure => simp [intOf]; omega
        · have HR := Lib.hid (ne_of_get hlt hlt2 he)
          generalize hx : xs[k] = t at *
          generalize hy : ys[k] = u at *
          clear hx hy
          have hn : ((ba t).toList == (ba u).toList) = false := by rw [beq_eq_false_iff_ne, Lib.toList_data, Lib.toList_data, ba_list, ba_list]; exact he
          clear he
          go_wp2
          go_quiet (fail)
          go_wp2
          go_ret
          exact ⟨by rw [decide_eq_false HR.out]; rfl, n + nq, by rw [drewN_two]⟩
      · have e : xs = ys := by
          have h := HT.out
          have hl := HL.out
          rwa [List.take_of_length_le (by omega), List.take_of_length_le (by omega)] at h
        have HE := Lib.hid e
        clear e
        go_wp2
        go_ret
        exact ⟨by rw [decide_eq_true HE.out]; rfl, n, rfl⟩
  · have hbb : ((xs.length : Int) != (ys.length : Int)) = true := by simp; omega
    have e : xs ≠ ys := fun e => hlen (by rw [e])
    have HE := Lib.hid e
    clear e h1 h2
    go_enter Try.func50, Try.ntmps50
    go_wp2
    go_ret
    exact ⟨by rw [decide_eq_false HE.out]; rfl, 0, rfl⟩

set_option maxHeartbeats 400000 in
theorem eqI_any {P P' : Nat → Prop} (w : World) (v1 v2 : Value) (xs ys : List Int) (h1 : LR P w v1 (ints xs)) (h2 : LR P' w v2 (ints ys)) (hl1 : xs.length ≤ 1099511627776) (hl2 : ys.length ≤ 1099511627776) :
    Calls Try.prog 52 #[v1, v2] w fun e w' => e = .returned (.bool (decide (xs = ys))) ∧ ∃ n, w' = w.drewN n := by
  obtain ⟨A1, c1, e1, hc1, hm1⟩ := h1.form
  obtain ⟨A2, c2, e2, hc2, hm2⟩ := h2.form
  rw [ints_len] at e1 e2 hc1 hc2
  subst e1 e2
  by_cases hlen : xs.length = ys.length
  · have H1 := Lib.hid h1
    have H2 := Lib.hid h2
    have HL := Lib.hid hlen
    have hbb : ((xs.length : Int) != (ys.length : Int)) = false := by simp; omega
    clear h1 h2 hlen
    go_enter Try.func52, Try.ntmps52
    go_wp2
    go_loopw [13] (fun i wr => ∃ k n : Nat, k ≤ xs.length ∧ i = .int .i64 k ∧ wr = w.drewN n ∧ xs.take k = ys.take k) (fun i _ => xs.length - (intOf i).toNat)
    case atStart => exact ⟨0, 0, Nat.zero_le _, rfl, rfl, rfl⟩
    case round =>
      obtain ⟨k, n, hk, rfl, rfl, ht⟩ := hrel
      have HT := Lib.hid ht
      clear ht
      by_cases hlt : k < xs.length
      · have hlt2 : k < ys.length := by rw [← HL.out]; exact hlt
        obtain ⟨p1, o1, rfl, hp1, hg1⟩ := H1.out.addr (ne_ints hlt)
        obtain ⟨p2, o2, rfl, hp2, hg2⟩ := H2.out.addr (ne_ints hlt2)
        have x1 := hg1 k _ (ints_get xs k hlt)
        have x2 := hg2 k _ (ints_get ys k hlt2)
        clear hg1 hg2
        have i0 : (0 : Int) ≤ (k : Int) := by omega
        have i1 : (k : Int) < (xs.length : Int) := by omega
        have i2 : (k : Int) < (ys.length : Int) := by omega
        by_cases he : xs[k] = ys[k]
        · have HR := Lib.hid (take_eq hlt hlt2 HT.out he)
          rw [← he] at x2
          clear he
          generalize xs[k] = t at *
          go_wp2
          go_quiet (fail)
          go_wp2
          go_roundw
          case rel => exact ⟨k + 1, _, by omega, by go_num, rfl, HR.out⟩
          case measure => simp [intOf]; omega
        · have HR := Lib.hid (ne_of_get hlt hlt2 he)
          generalize hx : xs[k] = t at *
          generalize hy : ys[k] = u at *
          clear hx hy
          have hn : (t == u) = false := by simpa using he
          have hn2 : (t != u) = true := by simpa using he
          clear he
          go_wp2
          go_quiet (fail)
          go_wp2
          go_ret
          exact ⟨by rw [decide_eq_false HR.out]; rfl, n + nq, by rw [drewN_two]⟩
      · have e : xs = ys := by
          have h := HT.out
          have hl := HL.out
          rwa [List.take_of_length_le (by omega), List.take_of_length_le (by omega)] at h
        have HE := Lib.hid e
        clear e
        go_wp2
        go_ret
        exact ⟨by rw [decide_eq_true HE.out]; rfl, n, rfl⟩
  · have hbb : ((xs.length : Int) != (ys.length : Int)) = true := by simp; omega
    have e : xs ≠ ys := fun e => hlen (by rw [e])
    have HE := Lib.hid e
    clear e h1 h2
    go_enter Try.func52, Try.ntmps52
    go_wp2
    go_ret
    exact ⟨by rw [decide_eq_false HE.out]; rfl, 0, rfl⟩

set_option maxHeartbeats 400000 in
theorem eqB_any {P P' : Nat → Prop} (w : World) (v1 v2 : Value) (xs ys : List Bool) (h1 : LR P w v1 (bools xs)) (h2 : LR P' w v2 (bools ys)) (hl1 : xs.length ≤ 1099511627776) (hl2 : ys.length ≤ 1099511627776) :
    Calls Try.prog 51 #[v1, v2] w fun e w' => e = .returned (.bool (decide (xs = ys))) ∧ ∃ n, w' = w.drewN n := by
  obtain ⟨A1, c1, e1, hc1, hm1⟩ := h1.form
  obtain ⟨A2, c2, e2, hc2, hm2⟩ := h2.form
  rw [bools_len] at e1 e2 hc1 hc2
  subst e1 e2
  by_cases hlen : xs.length = ys.length
  · have H1 := Lib.hid h1
    have H2 := Lib.hid h2
    have HL := Lib.hid hlen
    have hbb : ((xs.length : Int) != (ys.length : Int)) = false := by simp; omega
    clear h1 h2 hlen
    go_enter Try.func51, Try.ntmps51
    go_wp2
    go_loopw [13] (fun i wr => ∃ k n : Nat, k ≤ xs.length ∧ i = .int .i64 k ∧ wr = w.drewN n ∧ xs.take k = ys.take k) (fun i _ => xs.length - (intOf i).toNat)
    case atStart => exact ⟨0, 0, Nat.zero_le _, rfl, rfl, rfl⟩
    case round =>
      obtain ⟨k, n, hk, rfl, rfl, ht⟩ := hrel
      have HT := Lib.hid ht
      clear ht
      by_cases hlt : k < xs.length
      · have hlt2 : k < ys.length := by rw [← HL.out]; exact hlt
        obtain ⟨p1, o1, rfl, hp1, hg1⟩ := H1.out.addr (ne_bools hlt)
        obtain ⟨p2, o2, rfl, hp2, hg2⟩ := H2.out.addr (ne_bools hlt2)
        have x1 := hg1 k _ (bools_get xs k hlt)
        have x2 := hg2 k _ (bools_get ys k hlt2)
        clear hg1 hg2
        have i0 : (0 : Int) ≤ (k : Int) := by omega
        have i1 : (k : Int) < (xs.length : Int) := by omega
        have i2 : (k : Int) < (ys.length : Int) := by omega
        by_cases he : xs[k] = ys[k]
        · have HR := Lib.hid (take_eq hlt hlt2 HT.out he)
          rw [← he] at x2
          clear he
          generalize xs[k] = t at *
          go_wp2
          go_quiet (fail)
          go_wp2
          go_roundw
          case rel => exact ⟨k + 1, _, by omega, by go_num, rfl, HR.out⟩
          case measure => simp [intOf]; omega
        · have HR := Lib.hid (ne_of_get hlt hlt2 he)
          generalize hx : xs[k] = t at *
          generalize hy : ys[k] = u at *
          clear hx hy
          cases t <;> cases u
          case false.false => exact absurd rfl he
          case true.true => exact absurd rfl he
          all_goals
            clear he
            go_wp2
            go_quiet (fail)
            go_wp2
            go_ret
            exact ⟨by rw [decide_eq_false HR.out]; rfl, n + nq, by rw [drewN_two]⟩
      · have e : xs = ys := by
          have h := HT.out
          have hl := HL.out
          rwa [List.take_of_length_le (by omega), List.take_of_length_le (by omega)] at h
        have HE := Lib.hid e
        clear e
        go_wp2
        go_ret
        exact ⟨by rw [decide_eq_true HE.out]; rfl, n, rfl⟩
  · have hbb : ((xs.length : Int) != (ys.length : Int)) = true := by simp; omega
    have e : xs ≠ ys := fun e => hlen (by rw [e])
    have HE := Lib.hid e
    clear e h1 h2
    go_enter Try.func51, Try.ntmps51
    go_wp2
    go_ret
    exact ⟨by rw [decide_eq_false HE.out]; rfl, 0, rfl⟩

set_option maxHeartbeats 400000 in
theorem texts_any {P P' : Nat → Prop} (w : World) (v1 v2 : Value) (xs ys : List Tx) (h1 : LR P w v1 (strs xs)) (h2 : LR P' w v2 (strs ys)) (hl1 : xs.length ≤ 1099511627776) (hl2 : ys.length ≤ 1099511627776) :
    Calls Try.prog 21 #[v1, v2] w fun e w' => e = .returned (.bool (decide (xs = ys))) ∧ ∃ n, w' = w.drewN n := by
  obtain ⟨A1, c1, e1, hc1, hm1⟩ := h1.form
  obtain ⟨A2, c2, e2, hc2, hm2⟩ := h2.form
  rw [strs_len] at e1 e2 hc1 hc2
  subst e1 e2
  by_cases hlen : xs.length = ys.length
  · have H1 := Lib.hid h1
    have H2 := Lib.hid h2
    have HL := Lib.hid hlen
    have hbb : ((xs.length : Int) != (ys.length : Int)) = false := by simp; omega
    clear h1 h2 hlen
    go_enter Try.func21, Try.ntmps21
    go_wp2
    go_loopw [5] (fun i wr => ∃ k n : Nat, k ≤ xs.length ∧ i = .int .i64 k ∧ wr = w.drewN n ∧ xs.take k = ys.take k) (fun i _ => xs.length - (intOf i).toNat)
    case atStart => exact ⟨0, 0, Nat.zero_le _, rfl, rfl, rfl⟩
    case round =>
      obtain ⟨k, n, hk, rfl, rfl, ht⟩ := hrel
      have HT := Lib.hid ht
      clear ht
      by_cases hlt : k < xs.length
      · have hlt2 : k < ys.length := by rw [← HL.out]; exact hlt
        obtain ⟨p1, o1, rfl, hp1, hg1⟩ := H1.out.addr (ne_strs hlt)
        obtain ⟨p2, o2, rfl, hp2, hg2⟩ := H2.out.addr (ne_strs hlt2)
        have x1 := hg1 k _ (strs_get xs k hlt)
        have x2 := hg2 k _ (strs_get ys k hlt2)
        clear hg1 hg2
        have i0 : (0 : Int) ≤ (k : Int) := by omega
        have i1 : (k : Int) < (xs.length : Int) := by omega
        have i2 : (k : Int) < (ys.length : Int) := by omega
        by_cases he : xs[k] = ys[k]
        · have HR := Lib.hid (take_eq hlt hlt2 HT.out he)
          rw [← he] at x2
          clear he
          generalize xs[k] = t at *
          go_wp2
          go_quiet (fail)
          go_wp2
          go_roundw
          case rel => exact ⟨k + 1, _, by omega, by go_num, rfl, HR.out⟩
          case measure => simp [intOf]; omega
        · have HR := Lib.hid (ne_of_get hlt hlt2 he)
          generalize hx : xs[k] = t at *
          generalize hy : ys[k] = u at *
          clear hx hy
          have hn : ((ba t).toList == (ba u).toList) = false := by rw [beq_eq_false_iff_ne, Lib.toList_data, Lib.toList_data, ba_list, ba_list]; exact he
          clear he
          go_wp2
          go_quiet (fail)
          go_wp2
          go_ret
          exact ⟨by rw [decide_eq_false HR.out]; rfl, n + nq, by rw [drewN_two]⟩
      · have e : xs = ys := by
          have h := HT.out
          have hl := HL.out
          rwa [List.take_of_length_le (by omega), List.take_of_length_le (by omega)] at h
        have HE := Lib.hid e
        clear e
        go_wp2
        go_ret
        exact ⟨by rw [decide_eq_true HE.out]; rfl, n, rfl⟩
  · have hbb : ((xs.length : Int) != (ys.length : Int)) = true := by simp; omega
    have e : xs ≠ ys := fun e => hlen (by rw [e])
    have HE := Lib.hid e
    clear e h1 h2
    go_enter Try.func21, Try.ntmps21
    go_wp2
    go_ret
    exact ⟨by rw [decide_eq_false HE.out]; rfl, 0, rfl⟩
end Go.Proofs.Ytojgeilihoilnaa
namespace Go.Proofs.Ytojgeilihoilnaa
open Go.ChangeShapes Go.WideShapes Go.ChangeAt Go.RowKit
set_option linter.unusedVariables false

/-- a goal that the walk leaves -/
def Stop (p : Prop) : Prop := p
theorem Stop.go {p : Prop} (h : p) : Stop p := h
section
variable {P : Program} {ops : Array Oper} {Q : Exit → Act → World → Prop} {a : Act} {w : World} {o : Oper} {rest : List Oper}
theorem stop_at (d : Nat) (hd : o.dst = some d) (h : Stop (wpList P ops Q (o :: rest) a w)) : wpList P ops Q (o :: rest) a w := h
/-- an operation that only moves, or is passed over -/
def dryOne (ops : Array Oper) (o : Oper) (a : Act) : Option Act :=
  if Region.wanted o (yielded ops a.tmps) then
    match o.op with
    | .move x => some (a.put o.dst (a.eval x))
    | .assign x => some (a.put o.dst (a.eval x))
    | .pick c x y => match a.eval c with | .bool b => some (a.put o.dst (if b then a.eval x else a.eval y)) | _ => none
    | _ => none
  else some (a.put o.dst undef)
def dryRun (ops : Array Oper) : List Oper → Act → List Oper × Act
  | [], a => ([], a)
  | o :: rest, a => match dryOne ops o a with
    | some a' => dryRun ops rest a'
    | none => (o :: rest, a)
theorem at_draw0 {l : List Oper} (h : ∀ N : Nat, wpList P ops Q l a (w.drewN N)) : wpList P ops Q l a w := h 0
theorem s_val (v : Value) (hw : Region.wanted o (yielded ops a.tmps) = true) (hx : (execOp a.eval o).run P w = .ok (.value v) w) (h : wpList P ops Q rest (a.put o.dst v) w) : wpList P ops Q (o :: rest) a w :=
  BigFrame.wpList_want hw fun K hK => by
    unfold Oper.wp
    rw [hx]
    exact hK _ _ h
theorem s_move (x : Operand) (v : Value) (ho : o.op = .move x) (hv : a.eval x = v) (hw : Region.wanted o (yielded ops a.tmps) = true) (h : wpList P ops Q rest (a.put o.dst v) w) : wpList P ops Q (o :: rest) a w :=
  s_val v hw (by unfold execOp; simp only [ho, Sem.run_pure, hv]) h
theorem s_assign (x : Operand) (v : Value) (ho : o.op = .assign x) (hv : a.eval x = v) (hw : Region.wanted o (yielded ops a.tmps) = true) (h : wpList P ops Q rest (a.put o.dst v) w) : wpList P ops Q (o :: rest) a w :=
  s_val v hw (by unfold execOp; simp only [ho, Sem.run_pure, hv]) h
theorem s_pick (c x y : Operand) (b : Bool) (v : Value) (ho : o.op = .pick c x y) (hc : a.eval c = .bool b) (hv : (if b then a.eval x else a.eval y) = v) (hw : Region.wanted o (yielded ops a.tmps) = true) (h : wpList P ops Q rest (a.put o.dst v) w) : wpList P ops Q (o :: rest) a w :=
  s_val v hw (by unfold execOp; simp only [ho, Sem.run_bind, Sem.run_pure, hc, asBool, Result.andThen_ok, hv]) h
theorem s_field (T : TypeId) (x : Operand) (i : Nat) (u v : Value) (ho : o.op = .fieldAddr T x i) (hx : a.eval x = u) (hF : (Instr.fieldAt T u i).run P w = .ok v w)
    (hw : Region.wanted o (yielded ops a.tmps) = true) (h : wpList P ops Q rest (a.put o.dst v) w) : wpList P ops Q (o :: rest) a w :=
  s_val v hw (by unfold execOp; simp only [ho, Sem.run_bind, Sem.run_pure, hx, hF, Result.andThen_ok]) h
theorem s_load (T : TypeId) (x : Operand) (u v : Value) (ho : o.op = .load T x) (hx : a.eval x = u) (hF : (Instr.loadAt T u).run P w = .ok v w)
    (hw : Region.wanted o (yielded ops a.tmps) = true) (h : wpList P ops Q rest (a.put o.dst v) w) : wpList P ops Q (o :: rest) a w :=
  s_val v hw (by unfold execOp; simp only [ho, Sem.run_bind, Sem.run_pure, hx, hF, Result.andThen_ok]) h
theorem s_bin (op : BinOp) (T T2 : TypeId) (x y : Operand) (u v r : Value) (ho : o.op = .binOp op T x y T2) (hx : a.eval x = u) (hy : a.eval y = v) (hF : ((do eqGuard op T x y u v; binOp op T u v : Sem Value)).run P w = .ok r w)
    (hw : Region.wanted o (yielded ops a.tmps) = true) (h : wpList P ops Q rest (a.put o.dst r) w) : wpList P ops Q (o :: rest) a w :=
  s_val r hw (by unfold execOp; simp only [ho, hx, hy]; rw [Sem.run_bind, hF]; rfl) h
theorem s_box (T : TypeId) (x : Operand) (u v : Value) (w2 : World) (ho : o.op = .box T x) (hx : a.eval x = u) (hF : (Instr.box T u).run P w = .ok v w2)
    (hw : Region.wanted o (yielded ops a.tmps) = true) (h : wpList P ops Q rest (a.put o.dst v) w2) : wpList P ops Q (o :: rest) a w :=
  BigFrame.wpList_want hw fun K hK => by
    have hx2 : (execOp a.eval o).run P w = .ok (.value v) w2 := by unfold execOp; simp only [ho, Sem.run_bind, Sem.run_pure, hx, hF, Result.andThen_ok]
    unfold Oper.wp
    rw [hx2]
    exact hK _ _ h
theorem s_skip (hw : Region.wanted o (yielded ops a.tmps) = false) (h : wpList P ops Q rest (a.put o.dst undef) w) : wpList P ops Q (o :: rest) a w := wpList_skip hw h
theorem s_call2 {d : Option Tmp} {ts : Array TypeId} {ty : TypeId} {pos : String} {after : Array Edge} {g : Option (Nat × Bool)} (f : FuncId) (x y : Operand) (u v : Value) (R : Ending → World → Prop) (hx : a.eval x = u) (hy : a.eval y = v)
    (hw : Region.wanted { dst := d, op := .call { callee := .value (.func f), args := #[x, y], argTypes := ts }, type := ty, pos, after, guard := g } (yielded ops a.tmps) = true) (hen : Enters P f)
    (hc : Calls P f #[u, v] w R) (hR : ∀ e w', R e w' → ∃ r, e = .returned r ∧ wpList P ops Q rest (a.put d r) w') :
    wpList P ops Q ({ dst := d, op := .call { callee := .value (.func f), args := #[x, y], argTypes := ts }, type := ty, pos, after, guard := g } :: rest) a w :=
  BigFrame.wpList_want hw fun K hK => by
    have hne : (execOp a.eval { dst := d, op := .call { callee := .value (.func f), args := #[x, y], argTypes := ts }, type := ty, pos, after, guard := g }).run P w = .ok (.enter f #[u, v]) w := by
      show (callFunc f (#[] ++ #[x, y].map a.eval ++ #[])).run P w = _
      rw [hen]
      simp [hx, hy]
    unfold Oper.wp
    rw [hne, Oper.upon_enter]
    refine hc.mono ?_
    intro e w' h
    obtain ⟨r, rfl, h2⟩ := hR e w' h
    exact hK _ _ h2
theorem dry_one {a' : Act} (h : dryOne ops o a = some a') (hw : wpList P ops Q rest a' w) : wpList P ops Q (o :: rest) a w := by
  unfold dryOne at h
  split at h
  · rename_i hwt
    split at h
    · rename_i x ho
      injection h with h; subst h
      exact s_move x _ ho rfl hwt hw
    · rename_i x ho
      injection h with h; subst h
      exact s_assign x _ ho rfl hwt hw
    · rename_i c x y ho
      split at h
      · rename_i b hb
        injection h with h; subst h
        exact s_pick c x y b _ ho hb rfl hwt hw
      · cases h
    · cases h
  · rename_i hwt
    injection h with h; subst h
    exact wpList_skip (by simpa using hwt) hw
theorem dry_run (l : List Oper) : ∀ (a : Act), wpList P ops Q (dryRun ops l a).1 (dryRun ops l a).2 w → wpList P ops Q l a w := by
  induction l with
  | nil => intro a h; exact h
  | cons o rest ih =>
    intro a h
    unfold dryRun at h
    cases hd : dryOne ops o a with
    | none => rw [hd] at h; exact h
    | some a' => rw [hd] at h; exact dry_one hd (ih a' h)
theorem dry_end {l : List Oper} (t : Tmp) (r : Value) (h : (dryRun ops l a).1 = []) (hr : (dryRun ops l a).2.tmps.getD t undef = r) (hd : (dryRun ops l a).2.defers = []) (hQ : ∀ a' : Act, a'.tmps.getD t undef = r → a'.defers = [] → Q .normal a' w) : wpList P ops Q l a w := by
  refine dry_run l a ?_
  rw [h]
  exact hQ _ hr hd
theorem dry_at {l : List Oper} (h : (dryRun ops l a).1 = []) (hQ : Q .normal (dryRun ops l a).2 w) : wpList P ops Q l a w := by
  refine dry_run l a ?_
  rw [h]; exact hQ
end

/-- the frame a comes of a0 by puts at slots from m on -/
structure Fr (n m : Nat) (a0 a : Act) : Prop where
  size : a.tmps.size = n
  defers : a.defers = a0.defers
  low : ∀ j, j < m → a.tmps.getD j undef = a0.tmps.getD j undef
theorem Fr.refl {n m : Nat} {a : Act} (h : a.tmps.size = n) : Fr n m a a := ⟨h, rfl, fun _ _ => rfl⟩
theorem put_get (a : Act) (d : Nat) (v : Value) (h : d < a.tmps.size) (j : Nat) : (a.put (some d) v).tmps.getD j undef = if j = d then v else a.tmps.getD j undef := by
  show (a.tmps.setIfInBounds d v).getD j undef = _
  simp only [Array.getD_eq_getD_getElem?, Array.getElem?_setIfInBounds]
  by_cases e : j = d
  · subst e; simp [h]
  · rw [if_neg (fun e2 => e e2.symm), if_neg e]
theorem Fr.put {n m : Nat} {a0 a : Act} (h : Fr n m a0 a) (d : Nat) (v : Value) (hm : m ≤ d) (hd : d < n) : Fr n m a0 (a.put (some d) v) :=
  ⟨by show (a.tmps.setIfInBounds d v).size = n; rw [Array.size_setIfInBounds]; exact h.size, h.defers, fun j hj => by rw [put_get a d v (by rw [h.size]; exact hd), if_neg (by omega)]; exact h.low j hj⟩
theorem Fr.get {n m : Nat} {a0 a : Act} (h : Fr n m a0 a) (d : Nat) (v : Value) (hd : d < n) (j : Nat) : (a.put (some d) v).tmps.getD j undef = if j = d then v else a.tmps.getD j undef := put_get a d v (by rw [h.size]; exact hd) j
theorem yield_of {ops : Array Oper} {t : Array Value} {gi m : Nat} {b : Bool} (hg : (ops[gi]?).bind (·.dst) = some m) (hm : m < t.size) (hb : t.getD m undef = .bool b) : yielded ops t gi = some b := by
  unfold yielded
  rw [hg]
  simp only [Option.bind_some]
  have : t[m]? = some (.bool b) := by
    rw [Array.getD_eq_getD_getElem?] at hb
    rw [Array.getElem?_eq_getElem hm] at hb ⊢
    simpa using hb
  rw [this]
theorem wanted_of {o : Oper} {ops : Array Oper} {t : Array Value} {gi m : Nat} {b c : Bool} (hgd : o.guard = some (gi, c)) (hg : (ops[gi]?).bind (·.dst) = some m) (hm : m < t.size) (hb : t.getD m undef = .bool b) : Region.wanted o (yielded ops t) = (b == c) := by
  unfold Region.wanted
  rw [hgd]
  simp only [yield_of hg hm hb]
  cases b <;> cases c <;> rfl
theorem wanted_none {o : Oper} {f : Nat → Option Bool} (h : o.guard = none) : Region.wanted o f = true := by unfold Region.wanted; rw [h]
section
variable {P : Program} {ops : Array Oper} {Q : Exit → Act → World → Prop} {w : World} {a0 a : Act} {rest : List Oper}
/-- a read of a struct's field, guarded by slot m: two operations; or they are passed over -/
theorem two_reads {n m gi : Nat} {g : Bool} (hf : Fr n m a0 a) (d : Nat) (T : TypeId) (x i : Nat) (ty : TypeId) (hg : (ops[gi]?).bind (·.dst) = some m) (hmn : m < n) (hmd : m < d) (hd : d + 1 < n) (hxd : x < d) (c : Bool) (hb : a.tmps.getD m undef = .bool c)
    {t1 t2 : TypeId} {p1 p2 : String} {r1 r2 : Array Edge} (u v y : Value) (hx : a.tmps.getD x undef = u) (hF : (Instr.fieldAt T u i).run P w = .ok v w) (hL : (Instr.loadAt ty v).run P w = .ok y w)
    (h : ∀ a', Fr n m a0 a' → (∀ j, j < d → a'.tmps.getD j undef = a.tmps.getD j undef) → (c = g → a'.tmps.getD (d + 1) undef = y) → wpList P ops Q rest a' w) :
    wpList P ops Q ({ dst := some d, op := .fieldAddr T (.tmp x) i, type := t1, pos := p1, after := r1, guard := some (gi, g) } :: { dst := some (d + 1), op := .load ty (.tmp d), type := t2, pos := p2, after := r2, guard := some (gi, g) } :: rest) a w := by
  by_cases e : c = g
  · have h1 := hf.put d v (by omega) (by omega)
    have h2 := h1.put (d + 1) y (by omega) hd
    refine s_field T (.tmp x) i u v rfl hx hF ((wanted_of rfl hg (by rw [hf.size]; exact hmn) hb).trans (by simp [e])) ?_
    refine s_load ty (.tmp d) v y rfl (by show (a.put (some d) v).tmps.getD d undef = v; rw [hf.get d v (by omega), if_pos rfl]) hL ((wanted_of (b := c) rfl hg (by rw [h1.size]; exact hmn) (by show (a.put (some d) v).tmps.getD m undef = _; rw [hf.get d v (by omega), if_neg (by omega)]; exact hb)).trans (by simp [e])) ?_
    refine h _ h2 (fun j hj => ?_) (fun _ => ?_)
    · show ((a.put (some d) v).put (some (d + 1)) y).tmps.getD j undef = _
      rw [h1.get (d + 1) y hd, if_neg (by omega), hf.get d v (by omega), if_neg (by omega)]
    · show ((a.put (some d) v).put (some (d + 1)) y).tmps.getD (d + 1) undef = _
      rw [h1.get (d + 1) y hd, if_pos rfl]
  · have h1 := hf.put d undef (by omega) (by omega)
    have h2 := h1.put (d + 1) undef (by omega) hd
    refine s_skip ((wanted_of rfl hg (by rw [hf.size]; exact hmn) hb).trans (by simp [e])) ?_
    refine s_skip ((wanted_of (b := c) rfl hg (by rw [h1.size]; exact hmn) (by show (a.put (some d) undef).tmps.getD m undef = _; rw [hf.get d undef (by omega), if_neg (by omega)]; exact hb)).trans (by simp [e])) ?_
    refine h _ h2 (fun j hj => ?_) (fun e2 => absurd e2 e)
    show ((a.put (some d) undef).put (some (d + 1)) undef).tmps.getD j undef = _
    rw [h1.get (d + 1) undef hd, if_neg (by omega), hf.get d undef (by omega), if_neg (by omega)]
/-- '.. && x.f == y.f' -/
theorem conj_eq {n m gi : Nat} (hf : Fr n m a0 a) (p x1 x2 i : Nat) (T ty : TypeId) (b c : Bool) (hp : a.tmps.getD p undef = .bool b) (hg : (ops[gi]?).bind (·.dst) = some m) (hmn : m + 6 < n) (h1 : x1 < m) (h2 : x2 < m)
    {q0 q1 q2 q3 q4 q5 q6 q7 : TypeId} {s0 s1 s2 s3 s4 s5 s6 : String} {e0 e1 e2 e3 e4 e5 e6 : Array Edge}
    (u1 v1 y1 u2 v2 y2 : Value) (hx1 : a0.tmps.getD x1 undef = u1) (hx2 : a0.tmps.getD x2 undef = u2) (hF1 : (Instr.fieldAt T u1 i).run P w = .ok v1 w) (hL1 : (Instr.loadAt ty v1).run P w = .ok y1 w) (hF2 : (Instr.fieldAt T u2 i).run P w = .ok v2 w) (hL2 : (Instr.loadAt ty v2).run P w = .ok y2 w)
    (hE : ∀ X Y, ((do eqGuard .eql ty X Y y1 y2; binOp .eql ty y1 y2 : Sem Value)).run P w = .ok (.bool c) w)
    (h : ∀ a', Fr n m a0 a' → a'.tmps.getD (m + 6) undef = .bool (b && c) → wpList P ops Q rest a' w) :
    wpList P ops Q ({ dst := some m, op := .move (.tmp p), type := q0, pos := s0, after := e0, guard := none } ::
      { dst := some (m + 1), op := .fieldAddr T (.tmp x1) i, type := q1, pos := s1, after := e1, guard := some (gi, true) } :: { dst := some (m + 2), op := .load ty (.tmp (m + 1)), type := q2, pos := s2, after := e2, guard := some (gi, true) } ::
      { dst := some (m + 3), op := .fieldAddr T (.tmp x2) i, type := q3, pos := s3, after := e3, guard := some (gi, true) } :: { dst := some (m + 4), op := .load ty (.tmp (m + 3)), type := q4, pos := s4, after := e4, guard := some (gi, true) } ::
      { dst := some (m + 5), op := .binOp .eql ty (.tmp (m + 2)) (.tmp (m + 4)) q7, type := q5, pos := s5, after := e5, guard := some (gi, true) } ::
      { dst := some (m + 6), op := .pick (.tmp m) (.tmp (m + 5)) (.const (.bool false)), type := q6, pos := s6, after := e6, guard := none } :: rest) a w := by
  refine s_move (.tmp p) (.bool b) rfl hp (wanted_none rfl) ?_
  have k0 := hf.put m (.bool b) (Nat.le_refl _) (by omega)
  have g0 : (a.put (some m) (.bool b)).tmps.getD m undef = .bool b := by rw [hf.get m _ (by omega), if_pos rfl]
  have low0 : ∀ j, j < m → (a.put (some m) (.bool b)).tmps.getD j undef = a0.tmps.getD j undef := k0.low
  refine two_reads k0 (m + 1) T x1 i ty hg (by omega) (by omega) (by omega) (by omega) b g0 u1 v1 y1 (by rw [low0 x1 h1]; exact hx1) hF1 hL1 (fun a1 k1 l1 r1 => ?_)
  have g1 : a1.tmps.getD m undef = .bool b := by rw [l1 m (by omega)]; exact g0
  refine two_reads k1 (m + 3) T x2 i ty hg (by omega) (by omega) (by omega) (by omega) b g1 u2 v2 y2 (by rw [k1.low x2 h2]; exact hx2) hF2 hL2 (fun a2 k2 l2 r2 => ?_)
  have g2 : a2.tmps.getD m undef = .bool b := by rw [l2 m (by omega)]; exact g1
  cases b with
  | true =>
    have z1 : a2.tmps.getD (m + 2) undef = y1 := by rw [l2 (m + 2) (by omega)]; exact r1 rfl
    have z2 : a2.tmps.getD (m + 4) undef = y2 := r2 rfl
    refine s_bin .eql ty q7 (.tmp (m + 2)) (.tmp (m + 4)) y1 y2 (.bool c) rfl z1 z2 (hE _ _) ((wanted_of rfl hg (by rw [k2.size]; omega) g2).trans rfl) ?_
    have k3 := k2.put (m + 5) (.bool c) (by omega) (by omega)
    have v1 : (a2.put (some (m + 5)) (.bool c)).tmps.getD m undef = .bool true := by rw [k2.get _ _ (by omega), if_neg (by omega)]; exact g2
    have v2 : (a2.put (some (m + 5)) (.bool c)).tmps.getD (m + 5) undef = .bool c := by rw [k2.get _ _ (by omega), if_pos rfl]
    refine s_pick (.tmp m) (.tmp (m + 5)) (.const (.bool false)) true (.bool c) rfl v1 (by rw [if_pos rfl]; exact v2) (wanted_none rfl) ?_
    refine h _ (k3.put (m + 6) _ (by omega) (by omega)) ?_
    rw [show (true && c) = c by cases c <;> rfl]
    show ((a2.put (some (m + 5)) (.bool c)).put (some (m + 6)) (.bool c)).tmps.getD (m + 6) undef = _
    rw [k3.get _ _ (by omega), if_pos rfl]
  | false =>
    refine s_skip ((wanted_of rfl hg (by rw [k2.size]; omega) g2).trans rfl) ?_
    have k3 := k2.put (m + 5) undef (by omega) (by omega)
    have v1 : (a2.put (some (m + 5)) undef).tmps.getD m undef = .bool false := by rw [k2.get _ _ (by omega), if_neg (by omega)]; exact g2
    refine s_pick (.tmp m) (.tmp (m + 5)) (.const (.bool false)) false (.bool false) rfl v1 (by rw [if_neg (by decide)]; rfl) (wanted_none rfl) ?_
    refine h _ (k3.put (m + 6) _ (by omega) (by omega)) ?_
    show ((a2.put (some (m + 5)) undef).put (some (m + 6)) (.bool false)).tmps.getD (m + 6) undef = _
    rw [k3.get _ _ (by omega), if_pos rfl]; rfl
/-- '.. && f(x.l, y.l)', where f only reads -/
theorem conj_call {n m gi : Nat} (W : World) (N : Nat) (hf : Fr n m a0 a) (p x1 x2 i : Nat) (T ty : TypeId) (f : FuncId) (b c : Bool) (hp : a.tmps.getD p undef = .bool b) (hg : (ops[gi]?).bind (·.dst) = some m) (hmn : m + 6 < n) (h1 : x1 < m) (h2 : x2 < m)
    {q0 q1 q2 q3 q4 q5 q6 : TypeId} {s0 s1 s2 s3 s4 s5 s6 : String} {e0 e1 e2 e3 e4 e5 e6 : Array Edge} {ats : Array TypeId}
    (u1 v1 y1 u2 v2 y2 : Value) (hx1 : a0.tmps.getD x1 undef = u1) (hx2 : a0.tmps.getD x2 undef = u2) (hF1 : (Instr.fieldAt T u1 i).run P (W.drewN N) = .ok v1 (W.drewN N)) (hL1 : (Instr.loadAt ty v1).run P (W.drewN N) = .ok y1 (W.drewN N)) (hF2 : (Instr.fieldAt T u2 i).run P (W.drewN N) = .ok v2 (W.drewN N)) (hL2 : (Instr.loadAt ty v2).run P (W.drewN N) = .ok y2 (W.drewN N))
    (hen : Enters P f) (hc : Calls P f #[y1, y2] (W.drewN N) fun e w' => e = .returned (.bool c) ∧ ∃ k, w' = (W.drewN N).drewN k)
    (h : ∀ a' N', Fr n m a0 a' → a'.tmps.getD (m + 6) undef = .bool (b && c) → wpList P ops Q rest a' (W.drewN N')) :
    wpList P ops Q ({ dst := some m, op := .move (.tmp p), type := q0, pos := s0, after := e0, guard := none } ::
      { dst := some (m + 1), op := .fieldAddr T (.tmp x1) i, type := q1, pos := s1, after := e1, guard := some (gi, true) } :: { dst := some (m + 2), op := .load ty (.tmp (m + 1)), type := q2, pos := s2, after := e2, guard := some (gi, true) } ::
      { dst := some (m + 3), op := .fieldAddr T (.tmp x2) i, type := q3, pos := s3, after := e3, guard := some (gi, true) } :: { dst := some (m + 4), op := .load ty (.tmp (m + 3)), type := q4, pos := s4, after := e4, guard := some (gi, true) } ::
      { dst := some (m + 5), op := .call { callee := .value (.func f), args := #[.tmp (m + 2), .tmp (m + 4)], argTypes := ats }, type := q5, pos := s5, after := e5, guard := some (gi, true) } ::
      { dst := some (m + 6), op := .pick (.tmp m) (.tmp (m + 5)) (.const (.bool false)), type := q6, pos := s6, after := e6, guard := none } :: rest) a (W.drewN N) := by
  refine s_move (.tmp p) (.bool b) rfl hp (wanted_none rfl) ?_
  have k0 := hf.put m (.bool b) (Nat.le_refl _) (by omega)
  have g0 : (a.put (some m) (.bool b)).tmps.getD m undef = .bool b := by rw [hf.get m _ (by omega), if_pos rfl]
  have low0 : ∀ j, j < m → (a.put (some m) (.bool b)).tmps.getD j undef = a0.tmps.getD j undef := k0.low
  refine two_reads k0 (m + 1) T x1 i ty hg (by omega) (by omega) (by omega) (by omega) b g0 u1 v1 y1 (by rw [low0 x1 h1]; exact hx1) hF1 hL1 (fun a1 k1 l1 r1 => ?_)
  have g1 : a1.tmps.getD m undef = .bool b := by rw [l1 m (by omega)]; exact g0
  refine two_reads k1 (m + 3) T x2 i ty hg (by omega) (by omega) (by omega) (by omega) b g1 u2 v2 y2 (by rw [k1.low x2 h2]; exact hx2) hF2 hL2 (fun a2 k2 l2 r2 => ?_)
  have g2 : a2.tmps.getD m undef = .bool b := by rw [l2 m (by omega)]; exact g1
  cases b with
  | true =>
    have z1 : a2.tmps.getD (m + 2) undef = y1 := by rw [l2 (m + 2) (by omega)]; exact r1 rfl
    have z2 : a2.tmps.getD (m + 4) undef = y2 := r2 rfl
    refine s_call2 f (.tmp (m + 2)) (.tmp (m + 4)) y1 y2 _ z1 z2 ((wanted_of rfl hg (by rw [k2.size]; omega) g2).trans rfl) hen hc ?_
    rintro e w' ⟨rfl, k, rfl⟩
    refine ⟨_, rfl, ?_⟩
    rw [drewN_two]
    have k3 := k2.put (m + 5) (.bool c) (by omega) (by omega)
    have v1 : (a2.put (some (m + 5)) (.bool c)).tmps.getD m undef = .bool true := by rw [k2.get _ _ (by omega), if_neg (by omega)]; exact g2
    have v2 : (a2.put (some (m + 5)) (.bool c)).tmps.getD (m + 5) undef = .bool c := by rw [k2.get _ _ (by omega), if_pos rfl]
    refine s_pick (.tmp m) (.tmp (m + 5)) (.const (.bool false)) true (.bool c) rfl v1 (by rw [if_pos rfl]; exact v2) (wanted_none rfl) ?_
    refine h _ _ (k3.put (m + 6) _ (by omega) (by omega)) ?_
    rw [show (true && c) = c by cases c <;> rfl]
    show ((a2.put (some (m + 5)) (.bool c)).put (some (m + 6)) (.bool c)).tmps.getD (m + 6) undef = _
    rw [k3.get _ _ (by omega), if_pos rfl]
  | false =>
    refine s_skip ((wanted_of rfl hg (by rw [k2.size]; omega) g2).trans rfl) ?_
    have k3 := k2.put (m + 5) undef (by omega) (by omega)
    have v1 : (a2.put (some (m + 5)) undef).tmps.getD m undef = .bool false := by rw [k2.get _ _ (by omega), if_neg (by omega)]; exact g2
    refine s_pick (.tmp m) (.tmp (m + 5)) (.const (.bool false)) false (.bool false) rfl v1 (by rw [if_neg (by decide)]; rfl) (wanted_none rfl) ?_
    refine h _ _ (k3.put (m + 6) _ (by omega) (by omega)) ?_
    show ((a2.put (some (m + 5)) undef).put (some (m + 6)) (.bool false)).tmps.getD (m + 6) undef = _
    rw [k3.get _ _ (by omega), if_pos rfl]; rfl
/-- the first 'x.f == y.f' -/
theorem first_eq {n d : Nat} (hf : Fr n d a0 a) (x1 x2 i : Nat) (T ty : TypeId) (c : Bool) (hdn : d + 4 < n) (h1 : x1 < d) (h2 : x2 < d)
    {q1 q2 q3 q4 q5 q7 : TypeId} {s1 s2 s3 s4 s5 : String} {e1 e2 e3 e4 e5 : Array Edge}
    (u1 v1 y1 u2 v2 y2 : Value) (hx1 : a0.tmps.getD x1 undef = u1) (hx2 : a0.tmps.getD x2 undef = u2) (hF1 : (Instr.fieldAt T u1 i).run P w = .ok v1 w) (hL1 : (Instr.loadAt ty v1).run P w = .ok y1 w) (hF2 : (Instr.fieldAt T u2 i).run P w = .ok v2 w) (hL2 : (Instr.loadAt ty v2).run P w = .ok y2 w)
    (hE : ∀ X Y, ((do eqGuard .eql ty X Y y1 y2; binOp .eql ty y1 y2 : Sem Value)).run P w = .ok (.bool c) w)
    (h : ∀ a', Fr n d a0 a' → a'.tmps.getD (d + 4) undef = .bool c → wpList P ops Q rest a' w) :
    wpList P ops Q (
      { dst := some d, op := .fieldAddr T (.tmp x1) i, type := q1, pos := s1, after := e1, guard := none } :: { dst := some (d + 1), op := .load ty (.tmp d), type := q2, pos := s2, after := e2, guard := none } ::
      { dst := some (d + 2), op := .fieldAddr T (.tmp x2) i, type := q3, pos := s3, after := e3, guard := none } :: { dst := some (d + 3), op := .load ty (.tmp (d + 2)), type := q4, pos := s4, after := e4, guard := none } ::
      { dst := some (d + 4), op := .binOp .eql ty (.tmp (d + 1)) (.tmp (d + 3)) q7, type := q5, pos := s5, after := e5, guard := none } :: rest) a w := by
  have k1 := hf.put d v1 (Nat.le_refl _) (by omega)
  have k2 := k1.put (d + 1) y1 (by omega) (by omega)
  have k3 := k2.put (d + 2) v2 (by omega) (by omega)
  have k4 := k3.put (d + 3) y2 (by omega) (by omega)
  have k5 := k4.put (d + 4) (.bool c) (by omega) (by omega)
  have r1 : a.tmps.getD x1 undef = u1 := by rw [hf.low x1 h1]; exact hx1
  have r2 : (a.put (some d) v1).tmps.getD d undef = v1 := by rw [hf.get _ _ (by omega), if_pos rfl]
  have r3 : ((a.put (some d) v1).put (some (d + 1)) y1).tmps.getD x2 undef = u2 := (k2.low x2 h2).trans hx2
  have r4 : (((a.put (some d) v1).put (some (d + 1)) y1).put (some (d + 2)) v2).tmps.getD (d + 2) undef = v2 := by rw [k2.get _ _ (by omega), if_pos rfl]
  have r5 : ((((a.put (some d) v1).put (some (d + 1)) y1).put (some (d + 2)) v2).put (some (d + 3)) y2).tmps.getD (d + 1) undef = y1 := by rw [k3.get _ _ (by omega), if_neg (by omega), k2.get _ _ (by omega), if_neg (by omega), k1.get _ _ (by omega), if_pos rfl]
  have r6 : ((((a.put (some d) v1).put (some (d + 1)) y1).put (some (d + 2)) v2).put (some (d + 3)) y2).tmps.getD (d + 3) undef = y2 := by rw [k3.get _ _ (by omega), if_pos rfl]
  have r7 : (((((a.put (some d) v1).put (some (d + 1)) y1).put (some (d + 2)) v2).put (some (d + 3)) y2).put (some (d + 4)) (.bool c)).tmps.getD (d + 4) undef = .bool c := by rw [k4.get _ _ (by omega), if_pos rfl]
  have fin := h _ k5 r7
  clear h k1 k2 k3 k4 k5 r7
  generalize hA1 : a.put (some d) v1 = A1 at *
  generalize hA2 : A1.put (some (d + 1)) y1 = A2 at *
  generalize hA3 : A2.put (some (d + 2)) v2 = A3 at *
  generalize hA4 : A3.put (some (d + 3)) y2 = A4 at *
  refine s_field T (.tmp x1) i u1 v1 rfl r1 hF1 (wanted_none rfl) ?_
  show wpList P ops Q _ (a.put (some d) v1) w
  rw [hA1]
  refine s_load ty (.tmp d) v1 y1 rfl r2 hL1 (wanted_none rfl) ?_
  show wpList P ops Q _ (A1.put (some (d + 1)) y1) w
  rw [hA2]
  refine s_field T (.tmp x2) i u2 v2 rfl r3 hF2 (wanted_none rfl) ?_
  show wpList P ops Q _ (A2.put (some (d + 2)) v2) w
  rw [hA3]
  refine s_load ty (.tmp (d + 2)) v2 y2 rfl r4 hL2 (wanted_none rfl) ?_
  show wpList P ops Q _ (A3.put (some (d + 3)) y2) w
  rw [hA4]
  exact s_bin .eql ty q7 (.tmp (d + 1)) (.tmp (d + 3)) y1 y2 (.bool c) rfl r5 r6 (hE _ _) (wanted_none rfl) fin
end

-- the loads and fields of an ask, and what is alike
theorem f_ask (B i : Nat) (hi : i < 14) (w : World) : (Instr.fieldAt 29 (.pointer (some ⟨B, 0, none⟩)) i).run Try.prog w = .ok (.pointer (some ⟨B, i, none⟩)) w := by
  match i, hi with
  | 0, _ => go_simp
  | 1, _ => go_simp
  | 2, _ => go_simp
  | 3, _ => go_simp
  | 4, _ => go_simp
  | 5, _ => go_simp
  | 6, _ => go_simp
  | 7, _ => go_simp
  | 8, _ => go_simp
  | 9, _ => go_simp
  | 10, _ => go_simp
  | 11, _ => go_simp
  | 12, _ => go_simp
  | 13, _ => go_simp
theorem b_ask (w : World) (a : Ask) (kv vv av nv fv : Value) : (Instr.box 29 (.agg (askV a kv vv av nv fv))).run Try.prog w = .ok (.pointer (some ⟨w.heap.size, 0, none⟩)) (w.alloc (.cells (askV a kv vv av nv fv) 29)) := by
  unfold askV
  go_simp
theorem l_u8 (p : Addr) (v : Value) (w : World) (h : w.cell? p = some v) : (Instr.loadAt 5 (.pointer (some p))).run Try.prog w = .ok v w := by go_simp
theorem l_str (p : Addr) (v : Value) (w : World) (h : w.cell? p = some v) : (Instr.loadAt 9 (.pointer (some p))).run Try.prog w = .ok v w := by go_simp
theorem l_int (p : Addr) (v : Value) (w : World) (h : w.cell? p = some v) : (Instr.loadAt 3 (.pointer (some p))).run Try.prog w = .ok v w := by go_simp
theorem l_bool (p : Addr) (v : Value) (w : World) (h : w.cell? p = some v) : (Instr.loadAt 4 (.pointer (some p))).run Try.prog w = .ok v w := by go_simp
theorem l_strs (p : Addr) (v : Value) (w : World) (h : w.cell? p = some v) : (Instr.loadAt 25 (.pointer (some p))).run Try.prog w = .ok v w := by go_simp
theorem l_bools (p : Addr) (v : Value) (w : World) (h : w.cell? p = some v) : (Instr.loadAt 26 (.pointer (some p))).run Try.prog w = .ok v w := by go_simp
theorem l_ints (p : Addr) (v : Value) (w : World) (h : w.cell? p = some v) : (Instr.loadAt 27 (.pointer (some p))).run Try.prog w = .ok v w := by go_simp
theorem e_u8 (x y : Operand) (p q : Int) (w : World) : ((do eqGuard .eql 5 x y (.int .u8 p) (.int .u8 q); binOp .eql 5 (.int .u8 p) (.int .u8 q) : Sem Value)).run Try.prog w = .ok (.bool (p == q)) w := by go_simp
theorem e_int (x y : Operand) (p q : Int) (w : World) : ((do eqGuard .eql 3 x y (.int .i64 p) (.int .i64 q); binOp .eql 3 (.int .i64 p) (.int .i64 q) : Sem Value)).run Try.prog w = .ok (.bool (p == q)) w := by go_simp
theorem e_bool (x y : Operand) (p q : Bool) (w : World) : ((do eqGuard .eql 4 x y (.bool p) (.bool q); binOp .eql 4 (.bool p) (.bool q) : Sem Value)).run Try.prog w = .ok (.bool (p == q)) w := by go_simp
theorem e_str (x y : Operand) (p q : ByteArray) (w : World) : ((do eqGuard .eql 9 x y (.string p) (.string q); binOp .eql 9 (.string p) (.string q) : Sem Value)).run Try.prog w = .ok (.bool (p.toList == q.toList)) w := by go_simp
end Go.Proofs.Ytojgeilihoilnaa
namespace Go.Proofs.Ytojgeilihoilnaa
open Go.ChangeShapes Go.WideShapes Go.ChangeAt Go.RowKit
set_option linter.unusedVariables false

/-- no list is too long -/
structure Lens (a : Ask) : Prop where
  keys : a.keys.length ≤ 1099511627776
  vals : a.vals.length ≤ 1099511627776
  args : a.args.length ≤ 1099511627776
  null : a.null.length ≤ 1099511627776
  fmts : a.formats.length ≤ 1099511627776
theorem u8_beq (x y : UInt8) : ((x.toNat : Int) == (y.toNat : Int)) = decide (x = y) := by
  rw [Bool.eq_iff_iff]
  simp [← UInt8.toNat_inj]
  omega
theorem ba_beq (x y : Tx) : ((ba x).toList == (ba y).toList) = decide (x = y) := by
  rw [Lib.toList_data, Lib.toList_data, ba_list, ba_list, Bool.eq_iff_iff]; simp
theorem int_beq (x y : Int) : (x == y) = decide (x = y) := by rw [Bool.eq_iff_iff]; simp
theorem bool_beq (x y : Bool) : (x == y) = decide (x = y) := by rw [Bool.eq_iff_iff]; simp
theorem ask_dec (a b : Ask) : decide (a = b) = (decide (a.kind = b.kind) && (decide (a.name = b.name) && (decide (a.portal = b.portal) && (decide (a.sql = b.sql) && (decide (a.keys = b.keys) && (decide (a.vals = b.vals) && (decide (a.args = b.args) &&
    (decide (a.null = b.null) && (decide (a.formats = b.formats) && (decide (a.most = b.most) && (decide (a.what = b.what) && (decide (a.cancel = b.cancel) && (decide (a.pid = b.pid) && decide (a.secret = b.secret)))))))))))))) := by
  cases a; cases b
  rw [Bool.eq_iff_iff]
  simp
/-- two boxes of asks, one behind the other -/
abbrev two (w : World) (a b : Ask) (kv vv av nv fv kv2 vv2 av2 nv2 fv2 : Value) : World := (w.alloc (.cells (askV a kv vv av nv fv) 29)).alloc (.cells (askV b kv2 vv2 av2 nv2 fv2) 29)

set_option maxHeartbeats 2000000 in
set_option maxRecDepth 100000 in
theorem same_any (w : World) (a b : Ask) (v1 v2 : Value) (h1 : AR (fun i => i < w.heap.size) w v1 a) (h2 : AR (fun i => i < w.heap.size) w v2 b) (l1 : Lens a) (l2 : Lens b) :
    Calls Try.prog 23 #[v1, v2] w fun e w' => e = .returned (.bool (decide (a = b))) ∧ Below w.heap.size w w' := by
  obtain ⟨kv, vv, av, nv, fv, rfl, k1, k2, k3, k4, k5⟩ := h1.ex
  obtain ⟨kv2, vv2, av2, nv2, fv2, rfl, m1, m2, m3, m4, m5⟩ := h2.ex
  clear h1 h2
  have hE := ask_dec a b
  have hs : ∀ {v xs}, LR (fun i => i < w.heap.size) w v xs → LR (fun i => i < w.heap.size) (two w a b kv vv av nv fv kv2 vv2 av2 nv2 fv2) v xs := fun h =>
    h.step (fun i hi => (Below.heap_alloc (w.alloc _) _ i (by simp; omega)).trans (Below.heap_alloc w _ i hi)) (fun _ h => h)
  have q1 : Blk (two w a b kv vv av nv fv kv2 vv2 av2 nv2 fv2) w.heap.size 29 (askV a kv vv av nv fv) := (Blk.new w _ _).alloc _
  have q2 : Blk (two w a b kv vv av nv fv kv2 vv2 av2 nv2 fv2) (w.heap.size + 1) 29 (askV b kv2 vv2 av2 nv2 fv2) := by
    have := Blk.new (w.alloc (.cells (askV a kv vv av nv fv) 29)) 29 (askV b kv2 vv2 av2 nv2 fv2)
    rwa [show (w.alloc (.cells (askV a kv vv av nv fv) 29)).heap.size = w.heap.size + 1 by simp] at this
  have hB : Below w.heap.size w (two w a b kv vv av nv fv kv2 vv2 av2 nv2 fv2) := ((Below.refl _ _).alloc (Nat.le_refl _) _).alloc (by simp) _
  have g0 : ((a.kind.toNat : Int) == (b.kind.toNat : Int)) = decide (a.kind = b.kind) := u8_beq _ _
  have g1 : ((ba a.name).toList == (ba b.name).toList) = decide (a.name = b.name) := ba_beq _ _
  have g2 : ((ba a.portal).toList == (ba b.portal).toList) = decide (a.portal = b.portal) := ba_beq _ _
  have g3 : ((ba a.sql).toList == (ba b.sql).toList) = decide (a.sql = b.sql) := ba_beq _ _
  have g4 := fun n => eqS_any ((two w a b kv vv av nv fv kv2 vv2 av2 nv2 fv2).drewN n) kv kv2 a.keys b.keys (show LR _ _ _ _ from hs k1) (show LR _ _ _ _ from hs m1) l1.keys l2.keys
  have g5 := fun n => eqS_any ((two w a b kv vv av nv fv kv2 vv2 av2 nv2 fv2).drewN n) vv vv2 a.vals b.vals (show LR _ _ _ _ from hs k2) (show LR _ _ _ _ from hs m2) l1.vals l2.vals
  have g6 := fun n => eqS_any ((two w a b kv vv av nv fv kv2 vv2 av2 nv2 fv2).drewN n) av av2 a.args b.args (show LR _ _ _ _ from hs k3) (show LR _ _ _ _ from hs m3) l1.args l2.args
  have g7 := fun n => eqB_any ((two w a b kv vv av nv fv kv2 vv2 av2 nv2 fv2).drewN n) nv nv2 a.null b.null (show LR _ _ _ _ from hs k4) (show LR _ _ _ _ from hs m4) l1.null l2.null
  have g8 := fun n => eqI_any ((two w a b kv vv av nv fv kv2 vv2 av2 nv2 fv2).drewN n) fv fv2 a.formats b.formats (show LR _ _ _ _ from hs k5) (show LR _ _ _ _ from hs m5) l1.fmts l2.fmts
  have g9 : (a.most == b.most) = decide (a.most = b.most) := int_beq _ _
  have g10 : ((a.what.toNat : Int) == (b.what.toNat : Int)) = decide (a.what = b.what) := u8_beq _ _
  have g11 : (a.cancel == b.cancel) = decide (a.cancel = b.cancel) := bool_beq _ _
  have g12 : (a.pid == b.pid) = decide (a.pid = b.pid) := int_beq _ _
  have g13 : (a.secret == b.secret) = decide (a.secret = b.secret) := int_beq _ _
  clear hs k1 k2 k3 k4 k5 m1 m2 m3 m4 m5 l1 l2
  generalize decide (a.kind = b.kind) = b0 at *
  generalize decide (a.name = b.name) = b1 at *
  generalize decide (a.portal = b.portal) = b2 at *
  generalize decide (a.sql = b.sql) = b3 at *
  generalize decide (a.keys = b.keys) = b4 at *
  generalize decide (a.vals = b.vals) = b5 at *
  generalize decide (a.args = b.args) = b6 at *
  generalize decide (a.null = b.null) = b7 at *
  generalize decide (a.formats = b.formats) = b8 at *
  generalize decide (a.most = b.most) = b9 at *
  generalize decide (a.what = b.what) = b10 at *
  generalize decide (a.cancel = b.cancel) = b11 at *
  generalize decide (a.pid = b.pid) = b12 at *
  generalize decide (a.secret = b.secret) = b13 at *
  have G0 := Lib.hid g0
  clear g0
  have G1 := Lib.hid g1
  clear g1
  have G2 := Lib.hid g2
  clear g2
  have G3 := Lib.hid g3
  clear g3
  have G4 := Lib.hid g4
  clear g4
  have G5 := Lib.hid g5
  clear g5
  have G6 := Lib.hid g6
  clear g6
  have G7 := Lib.hid g7
  clear g7
  have G8 := Lib.hid g8
  clear g8
  have G9 := Lib.hid g9
  clear g9
  have G10 := Lib.hid g10
  clear g10
  have G11 := Lib.hid g11
  clear g11
  have G12 := Lib.hid g12
  clear g12
  have G13 := Lib.hid g13
  clear g13
  have HE := Lib.hid hE
  have Q1 := Lib.hid q1
  have Q2 := Lib.hid q2
  have HB := Lib.hid hB
  clear hE q1 q2 hB
  go_enter Try.func23, Try.ntmps23
  go_upto_region 1 with fail
  refine wp_region_lit ?_
  change wpList _ _ _ _ _ (two w a b kv vv av nv fv kv2 vv2 av2 nv2 fv2)
  generalize hW : two w a b kv vv av nv fv kv2 vv2 av2 nv2 fv2 = W at *
  refine at_draw0 (fun N => ?_)
  refine first_eq (d := 5) (Fr.refl (n := 101) (by kernel_rfl)) 2 3 0 29 5 b0 (by decide) (by decide) (by decide) (.pointer (some ⟨w.heap.size, 0, none⟩)) (.pointer (some ⟨w.heap.size, 0, none⟩)) (u8 a.kind) (.pointer (some ⟨w.heap.size + 1, 0, none⟩)) (.pointer (some ⟨w.heap.size + 1, 0, none⟩)) (u8 b.kind) (by kernel_rfl) (by kernel_rfl) (f_ask _ 0 (by decide) _) (l_u8 _ _ _ ((Q1.out.drewN N).cell 0)) (f_ask _ 0 (by decide) _) (l_u8 _ _ _ ((Q2.out.drewN N).cell 0)) (fun _ _ => by rw [← G0.out]; exact e_u8 _ _ _ _ _) (fun A0 H0 r0 => ?_)
  have x2_1 : A0.tmps.getD 2 undef = .pointer (some ⟨w.heap.size, 0, none⟩) := (H0.low 2 (by decide)).trans (by kernel_rfl)
  have x3_1 : A0.tmps.getD 3 undef = .pointer (some ⟨w.heap.size + 1, 0, none⟩) := (H0.low 3 (by decide)).trans (by kernel_rfl)
  refine conj_eq (m := 10) (gi := 5) (Fr.refl H0.size) 9 2 3 1 29 9 (b0) b1 r0 (by kernel_rfl) (by decide) (by decide) (by decide) (.pointer (some ⟨w.heap.size, 0, none⟩)) (.pointer (some ⟨w.heap.size, 1, none⟩)) (.string (ba a.name)) (.pointer (some ⟨w.heap.size + 1, 0, none⟩)) (.pointer (some ⟨w.heap.size + 1, 1, none⟩)) (.string (ba b.name)) x2_1 x3_1 (f_ask _ 1 (by decide) _) (l_str _ _ _ ((Q1.out.drewN N).cell 1)) (f_ask _ 1 (by decide) _) (l_str _ _ _ ((Q2.out.drewN N).cell 1)) (fun _ _ => by rw [← G1.out]; exact e_str _ _ _ _ _) (fun A1 H1 r1 => ?_)
  have x2_2 : A1.tmps.getD 2 undef = .pointer (some ⟨w.heap.size, 0, none⟩) := (H1.low 2 (by decide)).trans x2_1
  have x3_2 : A1.tmps.getD 3 undef = .pointer (some ⟨w.heap.size + 1, 0, none⟩) := (H1.low 3 (by decide)).trans x3_1
  refine conj_eq (m := 17) (gi := 12) (Fr.refl H1.size) 16 2 3 2 29 9 (b0 && b1) b2 r1 (by kernel_rfl) (by decide) (by decide) (by decide) (.pointer (some ⟨w.heap.size, 0, none⟩)) (.pointer (some ⟨w.heap.size, 2, none⟩)) (.string (ba a.portal)) (.pointer (some ⟨w.heap.size + 1, 0, none⟩)) (.pointer (some ⟨w.heap.size + 1, 2, none⟩)) (.string (ba b.portal)) x2_2 x3_2 (f_ask _ 2 (by decide) _) (l_str _ _ _ ((Q1.out.drewN N).cell 2)) (f_ask _ 2 (by decide) _) (l_str _ _ _ ((Q2.out.drewN N).cell 2)) (fun _ _ => by rw [← G2.out]; exact e_str _ _ _ _ _) (fun A2 H2 r2 => ?_)
  have x2_3 : A2.tmps.getD 2 undef = .pointer (some ⟨w.heap.size, 0, none⟩) := (H2.low 2 (by decide)).trans x2_2
  have x3_3 : A2.tmps.getD 3 undef = .pointer (some ⟨w.heap.size + 1, 0, none⟩) := (H2.low 3 (by decide)).trans x3_2
  refine conj_eq (m := 24) (gi := 19) (Fr.refl H2.size) 23 2 3 3 29 9 (b0 && b1 && b2) b3 r2 (by kernel_rfl) (by decide) (by decide) (by decide) (.pointer (some ⟨w.heap.size, 0, none⟩)) (.pointer (some ⟨w.heap.size, 3, none⟩)) (.string (ba a.sql)) (.pointer (some ⟨w.heap.size + 1, 0, none⟩)) (.pointer (some ⟨w.heap.size + 1, 3, none⟩)) (.string (ba b.sql)) x2_3 x3_3 (f_ask _ 3 (by decide) _) (l_str _ _ _ ((Q1.out.drewN N).cell 3)) (f_ask _ 3 (by decide) _) (l_str _ _ _ ((Q2.out.drewN N).cell 3)) (fun _ _ => by rw [← G3.out]; exact e_str _ _ _ _ _) (fun A3 H3 r3 => ?_)
  have x2_4 : A3.tmps.getD 2 undef = .pointer (some ⟨w.heap.size, 0, none⟩) := (H3.low 2 (by decide)).trans x2_3
  have x3_4 : A3.tmps.getD 3 undef = .pointer (some ⟨w.heap.size + 1, 0, none⟩) := (H3.low 3 (by decide)).trans x3_3
  refine conj_call (m := 31) (gi := 26) W N (Fr.refl H3.size) 30 2 3 4 29 25 50 (b0 && b1 && b2 && b3) b4 r3 (by kernel_rfl) (by decide) (by decide) (by decide) (.pointer (some ⟨w.heap.size, 0, none⟩)) (.pointer (some ⟨w.heap.size, 4, none⟩)) (kv) (.pointer (some ⟨w.heap.size + 1, 0, none⟩)) (.pointer (some ⟨w.heap.size + 1, 4, none⟩)) (kv2) x2_4 x3_4 (f_ask _ 4 (by decide) _) (l_strs _ _ _ ((Q1.out.drewN N).cell 4)) (f_ask _ 4 (by decide) _) (l_strs _ _ _ ((Q2.out.drewN N).cell 4)) (enters_of Try.func50 (by kernel_rfl) rfl) (G4.out N) (fun A4 N' H4 r4 => ?_)
  generalize N' = N
  have x2_5 : A4.tmps.getD 2 undef = .pointer (some ⟨w.heap.size, 0, none⟩) := (H4.low 2 (by decide)).trans x2_4
  have x3_5 : A4.tmps.getD 3 undef = .pointer (some ⟨w.heap.size + 1, 0, none⟩) := (H4.low 3 (by decide)).trans x3_4
  refine conj_call (m := 38) (gi := 33) W N (Fr.refl H4.size) 37 2 3 5 29 25 50 (b0 && b1 && b2 && b3 && b4) b5 r4 (by kernel_rfl) (by decide) (by decide) (by decide) (.pointer (some ⟨w.heap.size, 0, none⟩)) (.pointer (some ⟨w.heap.size, 5, none⟩)) (vv) (.pointer (some ⟨w.heap.size + 1, 0, none⟩)) (.pointer (some ⟨w.heap.size + 1, 5, none⟩)) (vv2) x2_5 x3_5 (f_ask _ 5 (by decide) _) (l_strs _ _ _ ((Q1.out.drewN N).cell 5)) (f_ask _ 5 (by decide) _) (l_strs _ _ _ ((Q2.out.drewN N).cell 5)) (enters_of Try.func50 (by kernel_rfl) rfl) (G5.out N) (fun A5 N' H5 r5 => ?_)
  generalize N' = N
  have x2_6 : A5.tmps.getD 2 undef = .pointer (some ⟨w.heap.size, 0, none⟩) := (H5.low 2 (by decide)).trans x2_5
  have x3_6 : A5.tmps.getD 3 undef = .pointer (some ⟨w.heap.size + 1, 0, none⟩) := (H5.low 3 (by decide)).trans x3_5
  refine conj_call (m := 45) (gi := 40) W N (Fr.refl H5.size) 44 2 3 6 29 25 50 (b0 && b1 && b2 && b3 && b4 && b5) b6 r5 (by kernel_rfl) (by decide) (by decide) (by decide) (.pointer (some ⟨w.heap.size, 0, none⟩)) (.pointer (some ⟨w.heap.size, 6, none⟩)) (av) (.pointer (some ⟨w.heap.size + 1, 0, none⟩)) (.pointer (some ⟨w.heap.size + 1, 6, none⟩)) (av2) x2_6 x3_6 (f_ask _ 6 (by decide) _) (l_strs _ _ _ ((Q1.out.drewN N).cell 6)) (f_ask _ 6 (by decide) _) (l_strs _ _ _ ((Q2.out.drewN N).cell 6)) (enters_of Try.func50 (by kernel_rfl) rfl) (G6.out N) (fun A6 N' H6 r6 => ?_)
  generalize N' = N
  have x2_7 : A6.tmps.getD 2 undef = .pointer (some ⟨w.heap.size, 0, none⟩) := (H6.low 2 (by decide)).trans x2_6
  have x3_7 : A6.tmps.getD 3 undef = .pointer (some ⟨w.heap.size + 1, 0, none⟩) := (H6.low 3 (by decide)).trans x3_6
  refine conj_call (m := 52) (gi := 47) W N (Fr.refl H6.size) 51 2 3 7 29 26 51 (b0 && b1 && b2 && b3 && b4 && b5 && b6) b7 r6 (by kernel_rfl) (by decide) (by decide) (by decide) (.pointer (some ⟨w.heap.size, 0, none⟩)) (.pointer (some ⟨w.heap.size, 7, none⟩)) (nv) (.pointer (some ⟨w.heap.size + 1, 0, none⟩)) (.pointer (some ⟨w.heap.size + 1, 7, none⟩)) (nv2) x2_7 x3_7 (f_ask _ 7 (by decide) _) (l_bools _ _ _ ((Q1.out.drewN N).cell 7)) (f_ask _ 7 (by decide) _) (l_bools _ _ _ ((Q2.out.drewN N).cell 7)) (enters_of Try.func51 (by kernel_rfl) rfl) (G7.out N) (fun A7 N' H7 r7 => ?_)
  generalize N' = N
  have x2_8 : A7.tmps.getD 2 undef = .pointer (some ⟨w.heap.size, 0, none⟩) := (H7.low 2 (by decide)).trans x2_7
  have x3_8 : A7.tmps.getD 3 undef = .pointer (some ⟨w.heap.size + 1, 0, none⟩) := (H7.low 3 (by decide)).trans x3_7
  refine conj_call (m := 59) (gi := 54) W N (Fr.refl H7.size) 58 2 3 8 29 27 52 (b0 && b1 && b2 && b3 && b4 && b5 && b6 && b7) b8 r7 (by kernel_rfl) (by decide) (by decide) (by decide) (.pointer (some ⟨w.heap.size, 0, none⟩)) (.pointer (some ⟨w.heap.size, 8, none⟩)) (fv) (.pointer (some ⟨w.heap.size + 1, 0, none⟩)) (.pointer (some ⟨w.heap.size + 1, 8, none⟩)) (fv2) x2_8 x3_8 (f_ask _ 8 (by decide) _) (l_ints _ _ _ ((Q1.out.drewN N).cell 8)) (f_ask _ 8 (by decide) _) (l_ints _ _ _ ((Q2.out.drewN N).cell 8)) (enters_of Try.func52 (by kernel_rfl) rfl) (G8.out N) (fun A8 N' H8 r8 => ?_)
  generalize N' = N
  have x2_9 : A8.tmps.getD 2 undef = .pointer (some ⟨w.heap.size, 0, none⟩) := (H8.low 2 (by decide)).trans x2_8
  have x3_9 : A8.tmps.getD 3 undef = .pointer (some ⟨w.heap.size + 1, 0, none⟩) := (H8.low 3 (by decide)).trans x3_8
  refine conj_eq (m := 66) (gi := 61) (Fr.refl H8.size) 65 2 3 9 29 3 (b0 && b1 && b2 && b3 && b4 && b5 && b6 && b7 && b8) b9 r8 (by kernel_rfl) (by decide) (by decide) (by decide) (.pointer (some ⟨w.heap.size, 0, none⟩)) (.pointer (some ⟨w.heap.size, 9, none⟩)) (.int .i64 a.most) (.pointer (some ⟨w.heap.size + 1, 0, none⟩)) (.pointer (some ⟨w.heap.size + 1, 9, none⟩)) (.int .i64 b.most) x2_9 x3_9 (f_ask _ 9 (by decide) _) (l_int _ _ _ ((Q1.out.drewN N).cell 9)) (f_ask _ 9 (by decide) _) (l_int _ _ _ ((Q2.out.drewN N).cell 9)) (fun _ _ => by rw [← G9.out]; exact e_int _ _ _ _ _) (fun A9 H9 r9 => ?_)
  have x2_10 : A9.tmps.getD 2 undef = .pointer (some ⟨w.heap.size, 0, none⟩) := (H9.low 2 (by decide)).trans x2_9
  have x3_10 : A9.tmps.getD 3 undef = .pointer (some ⟨w.heap.size + 1, 0, none⟩) := (H9.low 3 (by decide)).trans x3_9
  refine conj_eq (m := 73) (gi := 68) (Fr.refl H9.size) 72 2 3 10 29 5 (b0 && b1 && b2 && b3 && b4 && b5 && b6 && b7 && b8 && b9) b10 r9 (by kernel_rfl) (by decide) (by decide) (by decide) (.pointer (some ⟨w.heap.size, 0, none⟩)) (.pointer (some ⟨w.heap.size, 10, none⟩)) (u8 a.what) (.pointer (some ⟨w.heap.size + 1, 0, none⟩)) (.pointer (some ⟨w.heap.size + 1, 10, none⟩)) (u8 b.what) x2_10 x3_10 (f_ask _ 10 (by decide) _) (l_u8 _ _ _ ((Q1.out.drewN N).cell 10)) (f_ask _ 10 (by decide) _) (l_u8 _ _ _ ((Q2.out.drewN N).cell 10)) (fun _ _ => by rw [← G10.out]; exact e_u8 _ _ _ _ _) (fun A10 H10 r10 => ?_)
  have x2_11 : A10.tmps.getD 2 undef = .pointer (some ⟨w.heap.size, 0, none⟩) := (H10.low 2 (by decide)).trans x2_10
  have x3_11 : A10.tmps.getD 3 undef = .pointer (some ⟨w.heap.size + 1, 0, none⟩) := (H10.low 3 (by decide)).trans x3_10
  refine conj_eq (m := 80) (gi := 75) (Fr.refl H10.size) 79 2 3 11 29 4 (b0 && b1 && b2 && b3 && b4 && b5 && b6 && b7 && b8 && b9 && b10) b11 r10 (by kernel_rfl) (by decide) (by decide) (by decide) (.pointer (some ⟨w.heap.size, 0, none⟩)) (.pointer (some ⟨w.heap.size, 11, none⟩)) (.bool a.cancel) (.pointer (some ⟨w.heap.size + 1, 0, none⟩)) (.pointer (some ⟨w.heap.size + 1, 11, none⟩)) (.bool b.cancel) x2_11 x3_11 (f_ask _ 11 (by decide) _) (l_bool _ _ _ ((Q1.out.drewN N).cell 11)) (f_ask _ 11 (by decide) _) (l_bool _ _ _ ((Q2.out.drewN N).cell 11)) (fun _ _ => by rw [← G11.out]; exact e_bool _ _ _ _ _) (fun A11 H11 r11 => ?_)
  have x2_12 : A11.tmps.getD 2 undef = .pointer (some ⟨w.heap.size, 0, none⟩) := (H11.low 2 (by decide)).trans x2_11
  have x3_12 : A11.tmps.getD 3 undef = .pointer (some ⟨w.heap.size + 1, 0, none⟩) := (H11.low 3 (by decide)).trans x3_11
  refine conj_eq (m := 87) (gi := 82) (Fr.refl H11.size) 86 2 3 12 29 3 (b0 && b1 && b2 && b3 && b4 && b5 && b6 && b7 && b8 && b9 && b10 && b11) b12 r11 (by kernel_rfl) (by decide) (by decide) (by decide) (.pointer (some ⟨w.heap.size, 0, none⟩)) (.pointer (some ⟨w.heap.size, 12, none⟩)) (.int .i64 a.pid) (.pointer (some ⟨w.heap.size + 1, 0, none⟩)) (.pointer (some ⟨w.heap.size + 1, 12, none⟩)) (.int .i64 b.pid) x2_12 x3_12 (f_ask _ 12 (by decide) _) (l_int _ _ _ ((Q1.out.drewN N).cell 12)) (f_ask _ 12 (by decide) _) (l_int _ _ _ ((Q2.out.drewN N).cell 12)) (fun _ _ => by rw [← G12.out]; exact e_int _ _ _ _ _) (fun A12 H12 r12 => ?_)
  have x2_13 : A12.tmps.getD 2 undef = .pointer (some ⟨w.heap.size, 0, none⟩) := (H12.low 2 (by decide)).trans x2_12
  have x3_13 : A12.tmps.getD 3 undef = .pointer (some ⟨w.heap.size + 1, 0, none⟩) := (H12.low 3 (by decide)).trans x3_12
  refine conj_eq (m := 94) (gi := 89) (Fr.refl H12.size) 93 2 3 13 29 3 (b0 && b1 && b2 && b3 && b4 && b5 && b6 && b7 && b8 && b9 && b10 && b11 && b12) b13 r12 (by kernel_rfl) (by decide) (by decide) (by decide) (.pointer (some ⟨w.heap.size, 0, none⟩)) (.pointer (some ⟨w.heap.size, 13, none⟩)) (.int .i64 a.secret) (.pointer (some ⟨w.heap.size + 1, 0, none⟩)) (.pointer (some ⟨w.heap.size + 1, 13, none⟩)) (.int .i64 b.secret) x2_13 x3_13 (f_ask _ 13 (by decide) _) (l_int _ _ _ ((Q1.out.drewN N).cell 13)) (f_ask _ 13 (by decide) _) (l_int _ _ _ ((Q2.out.drewN N).cell 13)) (fun _ _ => by rw [← G13.out]; exact e_int _ _ _ _ _) (fun A13 H13 r13 => ?_)
  refine s_assign (.tmp 100) _ rfl r13 (wanted_none rfl) ?_
  have d13 : A13.defers = [] := by rw [H13.defers, H12.defers, H11.defers, H10.defers, H9.defers, H8.defers, H7.defers, H6.defers, H5.defers, H4.defers, H3.defers, H2.defers, H1.defers, H0.defers]
  have hr := H13.get 4 (.bool (b0 && b1 && b2 && b3 && b4 && b5 && b6 && b7 && b8 && b9 && b10 && b11 && b12 && b13)) (by decide) 4
  rw [if_pos rfl] at hr
  have hd : (A13.put (some 4) (.bool (b0 && b1 && b2 && b3 && b4 && b5 && b6 && b7 && b8 && b9 && b10 && b11 && b12 && b13))).defers = [] := d13
  change wpList _ _ _ [] (A13.put (some 4) (.bool (b0 && b1 && b2 && b3 && b4 && b5 && b6 && b7 && b8 && b9 && b10 && b11 && b12 && b13))) _
  generalize A13.put (some 4) (.bool (b0 && b1 && b2 && b3 && b4 && b5 && b6 && b7 && b8 && b9 && b10 && b11 && b12 && b13)) = a' at *
  refine wpList_nil ?_
  clear r0 r1 r2 r3 r4 r5 r6 r7 r8 r9 r10 r11 r12 r13 H0 H1 H2 H3 H4 H5 H6 H7 H8 H9 H10 H11 H12 H13
  go_wp2
  exact bodyPost_ret (v := .bool (b0 && b1 && b2 && b3 && b4 && b5 && b6 && b7 && b8 && b9 && b10 && b11 && b12 && b13)) ((results_tmp rfl _ _ _).trans (by rw [hr])) hd ⟨by rw [HE.out]; simp only [Bool.and_assoc], below_drewN HB.out _⟩
end Go.Proofs.Ytojgeilihoilnaa
namespace Go.Proofs.Ytojgeilihoilnaa
open Go.ChangeShapes Go.WideShapes Go.ChangeAt Go.RowKit
set_option linter.unusedVariables false

def sumT (l : List Tx) : Nat := (l.map List.length).sum
theorem sumT_step (l : List Tx) (k : Nat) (h : k < l.length) : sumT (l.take (k + 1)) = sumT (l.take k) + (l[k]).length := by
  unfold sumT; rw [List.take_succ_eq_append_getElem h, List.map_append, List.sum_append]; simp
theorem sumT_few (l : List Tx) (h : ∀ t ∈ l, t.length ≤ 10000) : sumT l ≤ l.length * 10000 := by
  induction l with
  | nil => simp [sumT]
  | cons t l ih =>
    have h1 := h t (by simp)
    have h2 := ih (fun t ht => h t (by simp [ht]))
    simp only [sumT, List.map_cons, List.sum_cons, List.length_cons] at h2 ⊢
    omega
def pre3 (x y z : Nat) : Nat → Nat | 0 => 0 | 1 => x | 2 => x + y | _ => x + y + z
def shortB (a : Ask) : Bool := decide (a.keys.length ≤ 100 ∧ a.vals.length ≤ 100 ∧ a.args.length ≤ 100 ∧ a.formats.length ≤ 100 ∧ a.name.length + a.portal.length + a.sql.length + sumT a.keys + sumT a.vals + sumT a.args ≤ 4096)

set_option maxHeartbeats 1600000 in
set_option maxRecDepth 100000 in
theorem short_any (a : Ask) (kv vv av nv fv : Value) (w : World) (f : Few a) (hk : LR (fun i => i < w.heap.size) w kv (strs a.keys)) (hv : LR (fun i => i < w.heap.size) w vv (strs a.vals)) (ha : LR (fun i => i < w.heap.size) w av (strs a.args)) (hf : LR (fun i => i < w.heap.size) w fv (ints a.formats)) :
    Calls Try.prog 22 #[.agg (askV a kv vv av nv fv)] w fun e w' => e = .returned (.bool (shortB a)) ∧ Below w.heap.size w w' := by
  obtain ⟨A4, c4, e4, hc1, hc2⟩ := hk.form
  obtain ⟨A5, c5, e5, hc3, hc4⟩ := hv.form
  obtain ⟨A6, c6, e6, hc5, hc6⟩ := ha.form
  obtain ⟨A8, c8, e8, hc7, hc8⟩ := hf.form
  rw [strs_len] at e4 e5 e6 hc1 hc3 hc5
  rw [ints_len] at e8 hc7
  subst e4 e5 e6 e8
  by_cases hb : a.keys.length ≤ 100 ∧ a.vals.length ≤ 100 ∧ a.args.length ≤ 100 ∧ a.formats.length ≤ 100
  · obtain ⟨b1, b2, b3, b4⟩ := hb
    have d1 : decide ((100 : Int) < (a.keys.length : Int)) = false := by simp; omega
    have d2 : decide ((100 : Int) < (a.vals.length : Int)) = false := by simp; omega
    have d3 : decide ((100 : Int) < (a.args.length : Int)) = false := by simp; omega
    have d4 : decide ((100 : Int) < (a.formats.length : Int)) = false := by simp; omega
    have s1 := sumT_few a.keys f.keysT
    have s2 := sumT_few a.vals f.valsT
    have s3 := sumT_few a.args f.argsT
    have z1 : (ba a.name).size ≤ 10000 := by rw [ba_size]; exact f.name
    have z2 : (ba a.portal).size ≤ 10000 := by rw [ba_size]; exact f.portal
    have z3 : (ba a.sql).size ≤ 10000 := by rw [ba_size]; exact f.sql
    have HK := Lib.hid hk
    have HV := Lib.hid hv
    have HA := Lib.hid ha
    have HF := Lib.hid f
    clear hk hv ha hf f
    unfold askV u8
    go_enter Try.func22, Try.ntmps22
    go_wp2
    generalize hL0 : (4096 : Int) - ((ba a.name).size : Int) - ((ba a.portal).size : Int) - ((ba a.sql).size : Int) = L0
    have hL1 : L0 ≤ 4096 := by omega
    have hL2 : -30000 ≤ L0 := by omega
    have HL := Lib.hid hL0
    clear hL0
    go_loop [3, 50] (fun l i => ∃ j : Nat, j ≤ 3 ∧ i = .int .i64 j ∧ l = .int .i64 (L0 - (pre3 (sumT a.keys) (sumT a.vals) (sumT a.args) j : Nat))) (fun _ i => 3 - (intOf i).toNat)
    case atStart => exact ⟨0, by omega, rfl, by simp [pre3]⟩
    case round =>
      obtain ⟨j, hj, rfl, rfl⟩ := hrel
      have hjj : j = 0 ∨ j = 1 ∨ j = 2 ∨ j = 3 := by omega
      rcases hjj with rfl | rfl | rfl | rfl
      all_goals simp only [pre3]
      · -- list 0
        go_wp2
        go_loop [3, 56] (fun l i => ∃ k : Nat, k ≤ a.keys.length ∧ i = .int .i64 k ∧ l = .int .i64 (L0 - ((0 : Nat) : Int) - (sumT (a.keys.take k) : Nat))) (fun _ i => a.keys.length - (intOf i).toNat)
        case atStart => exact ⟨0, Nat.zero_le _, rfl, by simp [sumT]⟩
        case round =>
          obtain ⟨k, hk, rfl, rfl⟩ := hrel
          have hst : sumT (a.keys.take k) ≤ 1000000 := by
            have h1 := sumT_few (a.keys.take k) (fun t ht => HF.out.keysT t (List.mem_of_mem_take ht))
            have h2 : (a.keys.take k).length ≤ 100 := by rw [List.length_take]; omega
            omega
          by_cases hlt : k < a.keys.length
          · obtain ⟨p, o, rfl, hp, hg⟩ := HK.out.addr (ne_strs hlt)
            have x := hg k _ (strs_get a.keys k hlt)
            have hne1 : p ≠ w.heap.size := by omega
            have hne2 : p ≠ w.heap.size + 1 := by omega
            have HS := Lib.hid (sumT_step a.keys k hlt)
            have tz := HF.out.keysT a.keys[k] (List.getElem_mem _)
            have hsz : (ba a.keys[k]).size ≤ 10000 := by rw [ba_size]; exact tz
            have HZ : Hid (((ba a.keys[k]).size : Nat) = a.keys[k].length) := Lib.hid (ba_size _)
            clear hg tz
            go_wp2
            go_round
            case rel =>
              refine ⟨k + 1, by omega, by go_num, ?_⟩
              rw [HS.out, HZ.out]
              congr 1
              omega
            case measure => simp [intOf]; omega
          · have e : k = a.keys.length := by omega
            subst e
            rw [List.take_length] at hst ⊢
            go_wp2
            go_round
            case rel => exact ⟨1, by omega, rfl, by simp only [pre3]; congr 1; omega⟩
            case measure => simp [intOf]
      · -- list 1
        go_wp2
        go_loop [3, 56] (fun l i => ∃ k : Nat, k ≤ a.vals.length ∧ i = .int .i64 k ∧ l = .int .i64 (L0 - ((sumT a.keys : Nat) : Int) - (sumT (a.vals.take k) : Nat))) (fun _ i => a.vals.length - (intOf i).toNat)
        case atStart => exact ⟨0, Nat.zero_le _, rfl, by simp [sumT]⟩
        case round =>
          obtain ⟨k, hk, rfl, rfl⟩ := hrel
          have hst : sumT (a.vals.take k) ≤ 1000000 := by
            have h1 := sumT_few (a.vals.take k) (fun t ht => HF.out.valsT t (List.mem_of_mem_take ht))
            have h2 : (a.vals.take k).length ≤ 100 := by rw [List.length_take]; omega
            omega
          by_cases hlt : k < a.vals.length
          · obtain ⟨p, o, rfl, hp, hg⟩ := HV.out.addr (ne_strs hlt)
            have x := hg k _ (strs_get a.vals k hlt)
            have hne1 : p ≠ w.heap.size := by omega
            have hne2 : p ≠ w.heap.size + 1 := by omega
            have HS := Lib.hid (sumT_step a.vals k hlt)
            have tz := HF.out.valsT a.vals[k] (List.getElem_mem _)
            have hsz : (ba a.vals[k]).size ≤ 10000 := by rw [ba_size]; exact tz
            have HZ : Hid (((ba a.vals[k]).size : Nat) = a.vals[k].length) := Lib.hid (ba_size _)
            clear hg tz
            go_wp2
            go_round
            case rel =>
              refine ⟨k + 1, by omega, by go_num, ?_⟩
              rw [HS.out, HZ.out]
              congr 1
              omega
            case measure => simp [intOf]; omega
          · have e : k = a.vals.length := by omega
            subst e
            rw [List.take_length] at hst ⊢
            go_wp2
            go_round
            case rel => exact ⟨2, by omega, rfl, by simp only [pre3]; congr 1; omega⟩
            case measure => simp [intOf]
      · -- list 2
        go_wp2
        go_loop [3, 56] (fun l i => ∃ k : Nat, k ≤ a.args.length ∧ i = .int .i64 k ∧ l = .int .i64 (L0 - ((sumT a.keys + sumT a.vals : Nat) : Int) - (sumT (a.args.take k) : Nat))) (fun _ i => a.args.length - (intOf i).toNat)
        case atStart => exact ⟨0, Nat.zero_le _, rfl, by simp [sumT]⟩
        case round =>
          obtain ⟨k, hk, rfl, rfl⟩ := hrel
          have hst : sumT (a.args.take k) ≤ 1000000 := by
            have h1 := sumT_few (a.args.take k) (fun t ht => HF.out.argsT t (List.mem_of_mem_take ht))
            have h2 : (a.args.take k).length ≤ 100 := by rw [List.length_take]; omega
            omega
          by_cases hlt : k < a.args.length
          · obtain ⟨p, o, rfl, hp, hg⟩ := HA.out.addr (ne_strs hlt)
            have x := hg k _ (strs_get a.args k hlt)
            have hne1 : p ≠ w.heap.size := by omega
            have hne2 : p ≠ w.heap.size + 1 := by omega
            have HS := Lib.hid (sumT_step a.args k hlt)
            have tz := HF.out.argsT a.args[k] (List.getElem_mem _)
            have hsz : (ba a.args[k]).size ≤ 10000 := by rw [ba_size]; exact tz
            have HZ : Hid (((ba a.args[k]).size : Nat) = a.args[k].length) := Lib.hid (ba_size _)
            clear hg tz
            go_wp2
            go_round
            case rel =>
              refine ⟨k + 1, by omega, by go_num, ?_⟩
              rw [HS.out, HZ.out]
              congr 1
              omega
            case measure => simp [intOf]; omega
          · have e : k = a.args.length := by omega
            subst e
            rw [List.take_length] at hst ⊢
            go_wp2
            go_round
            case rel => exact ⟨3, by omega, rfl, by simp only [pre3]; congr 1; omega⟩
            case measure => simp [intOf]
      · go_wp2
        go_ret
        have e : shortB a = decide ((sumT a.keys : Int) + (sumT a.vals : Int) + (sumT a.args : Int) ≤ L0) := by
          have h := HL.out
          rw [ba_size, ba_size, ba_size] at h
          unfold shortB
          rw [Bool.eq_iff_iff]
          simp only [decide_eq_true_eq]
          constructor
          · intro hh; omega
          · intro hh; exact ⟨b1, b2, b3, b4, by omega⟩
        rw [e]
        exact ⟨rfl, ((Below.refl _ _).alloc (Nat.le_refl _) _).alloc (by simp) _⟩
  · have e : shortB a = false := by unfold shortB; exact decide_eq_false (fun h => hb ⟨h.1, h.2.1, h.2.2.1, h.2.2.2.1⟩)
    rw [e]
    have hlen : a.keys.length ≤ 1000 ∧ a.vals.length ≤ 1000 ∧ a.args.length ≤ 1000 ∧ a.formats.length ≤ 1000 := ⟨f.keys, f.vals, f.args, f.fmts⟩
    clear hk hv ha hf f e
    have dd : ∀ n : Nat, decide ((100 : Int) < (n : Int)) = !decide (n ≤ 100) := fun n => by rw [Bool.eq_iff_iff]; simp; omega
    have d1 := dd a.keys.length
    have d2 := dd a.vals.length
    have d3 := dd a.args.length
    have d4 := dd a.formats.length
    clear dd hlen
    unfold askV u8
    by_cases b1 : a.keys.length ≤ 100
    · rw [decide_eq_true b1] at d1
      by_cases b2 : a.vals.length ≤ 100
      · rw [decide_eq_true b2] at d2
        by_cases b3 : a.args.length ≤ 100
        · rw [decide_eq_true b3] at d3
          have b4 : ¬ a.formats.length ≤ 100 := fun h => hb ⟨b1, b2, b3, h⟩
          rw [decide_eq_false b4] at d4
          clear hb b1 b2 b3 b4
          go_enter Try.func22, Try.ntmps22
          go_wp2
          go_ret
          exact ⟨rfl, (Below.refl _ _).alloc (Nat.le_refl _) _⟩
        · rw [decide_eq_false b3] at d3
          clear hb b1 b2 b3 d4
          go_enter Try.func22, Try.ntmps22
          go_wp2
          go_ret
          exact ⟨rfl, (Below.refl _ _).alloc (Nat.le_refl _) _⟩
      · rw [decide_eq_false b2] at d2
        clear hb b1 b2 d3 d4
        go_enter Try.func22, Try.ntmps22
        go_wp2
        go_ret
        exact ⟨rfl, (Below.refl _ _).alloc (Nat.le_refl _) _⟩
    · rw [decide_eq_false b1] at d1
      clear hb b1 d2 d3 d4
      go_enter Try.func22, Try.ntmps22
      go_wp2
      go_ret
      exact ⟨rfl, (Below.refl _ _).alloc (Nat.le_refl _) _⟩
end Go.Proofs.Ytojgeilihoilnaa
namespace Go.Proofs.Ytojgeilihoilnaa
open Go.ChangeShapes Go.WideShapes Go.ChangeAt Go.RowKit
set_option linter.unusedVariables false

section
variable {P : Program} {ops : Array Oper} {Q : Exit → Act → World → Prop} {w : World} {a0 a : Act} {rest : List Oper} {o : Oper}
theorem o_bin (op : BinOp) (T T2 : TypeId) (x y : Operand) (u v r : Value) (ho : o.op = .binOp op T x y T2) (hx : a.eval x = u) (hy : a.eval y = v) (hF : ((do eqGuard op T x y u v; binOp op T u v : Sem Value)).run P w = .ok r w) :
    (execOp a.eval o).run P w = .ok (.value r) w := by unfold execOp; simp only [ho, hx, hy]; rw [Sem.run_bind, hF]; rfl
theorem o_not (T : TypeId) (x : Operand) (b : Bool) (ho : o.op = .unOp .not T x) (hx : a.eval x = .bool b) : (execOp a.eval o).run P w = .ok (.value (.bool (!b))) w := by
  unfold execOp; simp only [ho, hx]; rw [Sem.run_bind]; rfl
theorem o_len {d : Option Tmp} {ts : Array TypeId} {ty : TypeId} {pos : String} {after : Array Edge} {g : Option (Nat × Bool)} (x : Operand) (u : Value) (n : Nat) (hx : a.eval x = u) (hL : (Builtin.len_ ts ty #[u]).run P w = .ok (.int .i64 n) w) :
    (execOp a.eval { dst := d, op := .call { callee := .builtin .len, args := #[x], argTypes := ts }, type := ty, pos, after, guard := g }).run P w = .ok (.value (.int .i64 n)) w := by
  have hm : (#[x].map a.eval) = #[u] := by rw [← hx]; simp
  rw [BigFrame.execOp_builtin, hm]
  simp [go_sem, hL, Result.andThen]
theorem s_any (v : Value) (hw : Region.wanted o (yielded ops a.tmps) = true) (hx : (execOp a.eval o).run P w = .ok (.value v) w) (h : wpList P ops Q rest (a.put o.dst v) w) : wpList P ops Q (o :: rest) a w := s_val v hw hx h
/-- the first 'look(x.f)' -/
theorem first_one {n d : Nat} (hf : Fr n d a0 a) (x i : Nat) (T ty : TypeId) (c : Bool) (hdn : d + 2 < n) (h1 : x < d)
    {q1 q2 : TypeId} {s1 s2 : String} {e1 e2 : Array Edge} (hod : o.dst = some (d + 2)) (hog : o.guard = none)
    (u v y : Value) (hx : a0.tmps.getD x undef = u) (hF : (Instr.fieldAt T u i).run P w = .ok v w) (hL : (Instr.loadAt ty v).run P w = .ok y w)
    (hO : ∀ a' : Act, a'.tmps.getD (d + 1) undef = y → (execOp a'.eval o).run P w = .ok (.value (.bool c)) w)
    (h : ∀ a', Fr n d a0 a' → a'.tmps.getD (d + 2) undef = .bool c → wpList P ops Q rest a' w) :
    wpList P ops Q ({ dst := some d, op := .fieldAddr T (.tmp x) i, type := q1, pos := s1, after := e1, guard := none } :: { dst := some (d + 1), op := .load ty (.tmp d), type := q2, pos := s2, after := e2, guard := none } :: o :: rest) a w := by
  have k1 := hf.put d v (Nat.le_refl _) (by omega)
  have k2 := k1.put (d + 1) y (by omega) (by omega)
  have k3 := k2.put (d + 2) (.bool c) (by omega) (by omega)
  have r1 : a.tmps.getD x undef = u := by rw [hf.low x h1]; exact hx
  have r2 : (a.put (some d) v).tmps.getD d undef = v := by rw [hf.get _ _ (by omega), if_pos rfl]
  have r3 : ((a.put (some d) v).put (some (d + 1)) y).tmps.getD (d + 1) undef = y := by rw [k1.get _ _ (by omega), if_pos rfl]
  have r4 : (((a.put (some d) v).put (some (d + 1)) y).put (some (d + 2)) (.bool c)).tmps.getD (d + 2) undef = .bool c := by rw [k2.get _ _ (by omega), if_pos rfl]
  have fin := h _ k3 r4
  have hO1 := hO _ r3
  refine s_field T (.tmp x) i u v rfl r1 hF (wanted_none rfl) ?_
  refine s_load ty (.tmp d) v y rfl r2 hL (wanted_none rfl) ?_
  refine s_any (.bool c) (wanted_none hog) hO1 ?_
  rw [hod]
  exact fin
/-- '.. && look(x.f)', look being one operation -/
theorem conj_one {n m gi : Nat} (hf : Fr n m a0 a) (p x i : Nat) (T ty : TypeId) (b c : Bool) (hp : a.tmps.getD p undef = .bool b) (hg : (ops[gi]?).bind (·.dst) = some m) (hmn : m + 4 < n) (h1 : x < m)
    {q0 q1 q2 q6 : TypeId} {s0 s1 s2 s6 : String} {e0 e1 e2 e6 : Array Edge} (hod : o.dst = some (m + 3)) (hog : o.guard = some (gi, true))
    (u v y : Value) (hx : a0.tmps.getD x undef = u) (hF : (Instr.fieldAt T u i).run P w = .ok v w) (hL : (Instr.loadAt ty v).run P w = .ok y w)
    (hO : ∀ a' : Act, a'.tmps.getD (m + 2) undef = y → (execOp a'.eval o).run P w = .ok (.value (.bool c)) w)
    (h : ∀ a', Fr n m a0 a' → a'.tmps.getD (m + 4) undef = .bool (b && c) → wpList P ops Q rest a' w) :
    wpList P ops Q ({ dst := some m, op := .move (.tmp p), type := q0, pos := s0, after := e0, guard := none } ::
      { dst := some (m + 1), op := .fieldAddr T (.tmp x) i, type := q1, pos := s1, after := e1, guard := some (gi, true) } :: { dst := some (m + 2), op := .load ty (.tmp (m + 1)), type := q2, pos := s2, after := e2, guard := some (gi, true) } ::
      o :: { dst := some (m + 4), op := .pick (.tmp m) (.tmp (m + 3)) (.const (.bool false)), type := q6, pos := s6, after := e6, guard := none } :: rest) a w := by
  refine s_move (.tmp p) (.bool b) rfl hp (wanted_none rfl) ?_
  have k0 := hf.put m (.bool b) (Nat.le_refl _) (by omega)
  have g0 : (a.put (some m) (.bool b)).tmps.getD m undef = .bool b := by rw [hf.get m _ (by omega), if_pos rfl]
  have low0 : ∀ j, j < m → (a.put (some m) (.bool b)).tmps.getD j undef = a0.tmps.getD j undef := k0.low
  refine two_reads k0 (m + 1) T x i ty hg (by omega) (by omega) (by omega) (by omega) b g0 u v y (by rw [low0 x h1]; exact hx) hF hL (fun a2 k2 l2 r2 => ?_)
  have g2 : a2.tmps.getD m undef = .bool b := by rw [l2 m (by omega)]; exact g0
  cases b with
  | true =>
    have hO1 := hO a2 (r2 rfl)
    refine s_any (.bool c) ((wanted_of hog hg (by rw [k2.size]; omega) g2).trans rfl) hO1 ?_
    rw [hod]
    have k3 := k2.put (m + 3) (.bool c) (by omega) (by omega)
    have v1 : (a2.put (some (m + 3)) (.bool c)).tmps.getD m undef = .bool true := by rw [k2.get _ _ (by omega), if_neg (by omega)]; exact g2
    have v2 : (a2.put (some (m + 3)) (.bool c)).tmps.getD (m + 3) undef = .bool c := by rw [k2.get _ _ (by omega), if_pos rfl]
    refine s_pick (.tmp m) (.tmp (m + 3)) (.const (.bool false)) true (.bool c) rfl v1 (by rw [if_pos rfl]; exact v2) (wanted_none rfl) ?_
    refine h _ (k3.put (m + 4) _ (by omega) (by omega)) ?_
    rw [show (true && c) = c by cases c <;> rfl]
    show ((a2.put (some (m + 3)) (.bool c)).put (some (m + 4)) (.bool c)).tmps.getD (m + 4) undef = _
    rw [k3.get _ _ (by omega), if_pos rfl]
  | false =>
    refine s_skip ((wanted_of hog hg (by rw [k2.size]; omega) g2).trans rfl) ?_
    rw [hod]
    have k3 := k2.put (m + 3) undef (by omega) (by omega)
    have v1 : (a2.put (some (m + 3)) undef).tmps.getD m undef = .bool false := by rw [k2.get _ _ (by omega), if_neg (by omega)]; exact g2
    refine s_pick (.tmp m) (.tmp (m + 3)) (.const (.bool false)) false (.bool false) rfl v1 (by rw [if_neg (by decide)]; rfl) (wanted_none rfl) ?_
    refine h _ (k3.put (m + 4) _ (by omega) (by omega)) ?_
    show ((a2.put (some (m + 3)) undef).put (some (m + 4)) (.bool false)).tmps.getD (m + 4) undef = _
    rw [k3.get _ _ (by omega), if_pos rfl]; rfl
/-- '.. && look(x.f)', look being two operations -/
theorem conj_two {o2 : Oper} {n m gi : Nat} (hf : Fr n m a0 a) (p x i : Nat) (T ty : TypeId) (b c : Bool) (hp : a.tmps.getD p undef = .bool b) (hg : (ops[gi]?).bind (·.dst) = some m) (hmn : m + 5 < n) (h1 : x < m)
    {q0 q1 q2 q6 : TypeId} {s0 s1 s2 s6 : String} {e0 e1 e2 e6 : Array Edge} (hod : o.dst = some (m + 3)) (hog : o.guard = some (gi, true)) (hod2 : o2.dst = some (m + 4)) (hog2 : o2.guard = some (gi, true))
    (u v y z : Value) (hx : a0.tmps.getD x undef = u) (hF : (Instr.fieldAt T u i).run P w = .ok v w) (hL : (Instr.loadAt ty v).run P w = .ok y w)
    (hO : ∀ a' : Act, a'.tmps.getD (m + 2) undef = y → (execOp a'.eval o).run P w = .ok (.value z) w) (hO2 : ∀ a' : Act, a'.tmps.getD (m + 3) undef = z → (execOp a'.eval o2).run P w = .ok (.value (.bool c)) w)
    (h : ∀ a', Fr n m a0 a' → a'.tmps.getD (m + 5) undef = .bool (b && c) → wpList P ops Q rest a' w) :
    wpList P ops Q ({ dst := some m, op := .move (.tmp p), type := q0, pos := s0, after := e0, guard := none } ::
      { dst := some (m + 1), op := .fieldAddr T (.tmp x) i, type := q1, pos := s1, after := e1, guard := some (gi, true) } :: { dst := some (m + 2), op := .load ty (.tmp (m + 1)), type := q2, pos := s2, after := e2, guard := some (gi, true) } ::
      o :: o2 :: { dst := some (m + 5), op := .pick (.tmp m) (.tmp (m + 4)) (.const (.bool false)), type := q6, pos := s6, after := e6, guard := none } :: rest) a w := by
  refine s_move (.tmp p) (.bool b) rfl hp (wanted_none rfl) ?_
  have k0 := hf.put m (.bool b) (Nat.le_refl _) (by omega)
  have g0 : (a.put (some m) (.bool b)).tmps.getD m undef = .bool b := by rw [hf.get m _ (by omega), if_pos rfl]
  have low0 : ∀ j, j < m → (a.put (some m) (.bool b)).tmps.getD j undef = a0.tmps.getD j undef := k0.low
  refine two_reads k0 (m + 1) T x i ty hg (by omega) (by omega) (by omega) (by omega) b g0 u v y (by rw [low0 x h1]; exact hx) hF hL (fun a2 k2 l2 r2 => ?_)
  have g2 : a2.tmps.getD m undef = .bool b := by rw [l2 m (by omega)]; exact g0
  cases b with
  | true =>
    have hO1 := hO a2 (r2 rfl)
    refine s_any z ((wanted_of hog hg (by rw [k2.size]; omega) g2).trans rfl) hO1 ?_
    rw [hod]
    have k3 := k2.put (m + 3) z (by omega) (by omega)
    have v1 : (a2.put (some (m + 3)) z).tmps.getD m undef = .bool true := by rw [k2.get _ _ (by omega), if_neg (by omega)]; exact g2
    have v2 : (a2.put (some (m + 3)) z).tmps.getD (m + 3) undef = z := by rw [k2.get _ _ (by omega), if_pos rfl]
    generalize a2.put (some (m + 3)) z = a3 at *
    refine s_any (.bool c) ((wanted_of hog2 hg (by rw [k3.size]; omega) v1).trans rfl) (hO2 a3 v2) ?_
    rw [hod2]
    have k4 := k3.put (m + 4) (.bool c) (by omega) (by omega)
    have w1 : (a3.put (some (m + 4)) (.bool c)).tmps.getD m undef = .bool true := by rw [k3.get _ _ (by omega), if_neg (by omega)]; exact v1
    have w2 : (a3.put (some (m + 4)) (.bool c)).tmps.getD (m + 4) undef = .bool c := by rw [k3.get _ _ (by omega), if_pos rfl]
    refine s_pick (.tmp m) (.tmp (m + 4)) (.const (.bool false)) true (.bool c) rfl w1 (by rw [if_pos rfl]; exact w2) (wanted_none rfl) ?_
    refine h _ (k4.put (m + 5) _ (by omega) (by omega)) ?_
    rw [show (true && c) = c by cases c <;> rfl]
    show ((a3.put (some (m + 4)) (.bool c)).put (some (m + 5)) (.bool c)).tmps.getD (m + 5) undef = _
    rw [k4.get _ _ (by omega), if_pos rfl]
  | false =>
    refine s_skip ((wanted_of hog hg (by rw [k2.size]; omega) g2).trans rfl) ?_
    rw [hod]
    have k3 := k2.put (m + 3) undef (by omega) (by omega)
    have v1 : (a2.put (some (m + 3)) undef).tmps.getD m undef = .bool false := by rw [k2.get _ _ (by omega), if_neg (by omega)]; exact g2
    generalize a2.put (some (m + 3)) undef = a3 at *
    refine s_skip ((wanted_of hog2 hg (by rw [k3.size]; omega) v1).trans rfl) ?_
    rw [hod2]
    have k4 := k3.put (m + 4) undef (by omega) (by omega)
    have w1 : (a3.put (some (m + 4)) undef).tmps.getD m undef = .bool false := by rw [k3.get _ _ (by omega), if_neg (by omega)]; exact v1
    refine s_pick (.tmp m) (.tmp (m + 4)) (.const (.bool false)) false (.bool false) rfl w1 (by rw [if_neg (by decide)]; rfl) (wanted_none rfl) ?_
    refine h _ (k4.put (m + 5) _ (by omega) (by omega)) ?_
    show ((a3.put (some (m + 4)) undef).put (some (m + 5)) (.bool false)).tmps.getD (m + 5) undef = _
    rw [k4.get _ _ (by omega), if_pos rfl]; rfl
end
theorem n_strs (A : Option Addr) (n c : Nat) (ty : TypeId) (w : World) : (Builtin.len_ #[25] ty #[.slice A n c]).run Try.prog w = .ok (.int .i64 n) w := by go_simp
theorem n_bools (A : Option Addr) (n c : Nat) (ty : TypeId) (w : World) : (Builtin.len_ #[26] ty #[.slice A n c]).run Try.prog w = .ok (.int .i64 n) w := by go_simp
theorem n_ints (A : Option Addr) (n c : Nat) (ty : TypeId) (w : World) : (Builtin.len_ #[27] ty #[.slice A n c]).run Try.prog w = .ok (.int .i64 n) w := by go_simp
end Go.Proofs.Ytojgeilihoilnaa
