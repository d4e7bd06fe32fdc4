/- What the document's own bind answers. Condition: Few; as many arguments as nulls. -/
import Derived.Test.YtojgeilihoilnaaM15
set_option linter.unusedSimpArgs false
set_option linter.unusedVariables false
namespace Go.Proofs.Ytojgeilihoilnaa
open Go.ChangeShapes Go.WideShapes Go.ChangeAt Go.RowKit
set_option linter.unusedVariables false

set_option maxHeartbeats 2000000 in
set_option maxRecDepth 100000 in
theorem refbind_any (w : World) (a : Ask) (kv vv av nv fv : Value) (f : Few a) (hl : a.null.length = a.args.length) (h6 : LR (fun i => i < w.heap.size) w av (strs a.args)) (h7 : LR (fun i => i < w.heap.size) w nv (bools a.null)) (h8 : LR (fun i => i < w.heap.size) w fv (ints a.formats)) :
    Calls Try.prog 49 #[.agg (askV a kv vv av nv fv)] w fun e w' => e = .returned (.string (ba (bodyD .bind a))) ∧ Below w.heap.size w w' := by
  have e0 : (ba [] : ByteArray) = ⟨#[]⟩ := rfl
  have n1 := f.name
  have n2 := f.portal
  have l1 := txt_len a.name
  have l2 := txt_len a.portal
  have hc := fun w => putTT [] a.portal w (by simp) n2
  have hd := fun w => putTT ([] ++ txt a.portal) a.name w (by simp; omega) n1
  rw [e0] at hc
  have HC := Lib.hid hc
  have HD := Lib.hid hd
  obtain ⟨P0, hP0⟩ : ∃ P0 : Tx, P0 = [] ++ txt a.portal ++ txt a.name ++ n16 0 := ⟨_, rfl⟩
  have hP0l : P0.length ≤ 30000 := by rw [hP0]; simp [n16]; omega
  have hP1 : ba ([] ++ txt a.portal ++ txt a.name) ++ ⟨#[0, 0]⟩ = ba P0 := by rw [hP0, show (⟨#[0, 0]⟩ : ByteArray) = ba (n16 0) from rfl, ba_append]
  have hz1 : (ba ([] ++ txt a.portal ++ txt a.name)).size ≤ 30000 := by rw [ba_size]; simp; omega
  have he := fun w => put2 P0 a.args.length w (by omega)
  have HE := Lib.hid he
  obtain ⟨R, hR⟩ : ∃ R, ba (bodyD .bind a) = R := ⟨_, rfl⟩
  rw [hR]
  have hR2 : R = ba (P0 ++ (n16 a.args.length ++ (argsW a.args a.null ++ (n16 a.formats.length ++ fmtW a.formats)))) := by
    rw [← hR, hP0]; simp [bodyD, hl]
  have HRR := Lib.hid hR2
  have HP := Lib.hid hP1
  obtain ⟨A6, c6, e6, hc1, hc2⟩ := h6.form
  obtain ⟨A7, c7, e7, hc3, hc4⟩ := h7.form
  obtain ⟨A8, c8, e8, hc5, hc6⟩ := h8.form
  rw [strs_len] at e6 hc1
  rw [bools_len] at e7 hc3
  rw [ints_len] at e8 hc5
  subst e6 e7 e8
  have q0 : Blk (w.alloc (.cells (askV a kv vv (.slice A6 a.args.length c6) (.slice A7 a.null.length c7) (.slice A8 a.formats.length c8)) 29)) w.heap.size 29 (askV a kv vv (.slice A6 a.args.length c6) (.slice A7 a.null.length c7) (.slice A8 a.formats.length c8)) := Blk.new w _ _
  have hB : Below w.heap.size w (w.alloc (.cells (askV a kv vv (.slice A6 a.args.length c6) (.slice A7 a.null.length c7) (.slice A8 a.formats.length c8)) 29)) := (Below.refl _ _).alloc (Nat.le_refl _) _
  have HA := Lib.hid h6
  have HN := Lib.hid h7
  have HFm := Lib.hid h8
  have HL := Lib.hid hl
  have HF := Lib.hid f
  have fk := f.args
  have ff := f.fmts
  clear hc hd he h6 h7 h8 hl f e0 hR hR2 hP0 hP1 n1 n2 l1 l2
  go_enter Try.func49, Try.ntmps49
  go_upto_region 1 with fail
  change Code.wp _ _ _ _ (w.alloc (.cells (askV a kv vv (.slice A6 a.args.length c6) (.slice A7 a.null.length c7) (.slice A8 a.formats.length c8)) 29))
  generalize (w.alloc (.cells (askV a kv vv (.slice A6 a.args.length c6) (.slice A7 a.null.length c7) (.slice A8 a.formats.length c8)) 29)) = W at *
  have c1 : W.cell? ⟨w.heap.size, 1, none⟩ = some (.string (ba a.name)) := q0.cell 1
  have c2 : W.cell? ⟨w.heap.size, 2, none⟩ = some (.string (ba a.portal)) := q0.cell 2
  have c6' : W.cell? ⟨w.heap.size, 6, none⟩ = some (.slice A6 a.args.length c6) := q0.cell 6
  have Q0 := Lib.hid q0
  have HB := Lib.hid hB
  clear q0 hB
  generalize ba ([] ++ txt a.portal ++ txt a.name) = r2 at *
  generalize ba ([] ++ txt a.portal) = r1 at *
  generalize ba a.name = y1 at *
  generalize ba a.portal = y2 at *
  go_quiet (first | (go_at_call 48; with_reducible exact Calls.quiet_of_same (HC.out _)) | (go_at_call 48; with_reducible exact Calls.quiet_of_same (HD.out _)))
  rw [HP.out]
  go_wp2_with fail
  refine (HE.out _).mono ?_; rintro e w1 ⟨rfl, hb1⟩
  have hb0 : Below W.heap.size W w1 := (below_drewN (Below.refl _ _) _).trans hb1
  clear c1 c2 c6' hb1 HC HD HE HP hz1
  go_wp2
  go_loopw [3, 4] (fun s i wr => ∃ k : Nat, k ≤ a.args.length ∧ i = .int .i64 k ∧ s = .string (ba (P0 ++ n16 a.args.length ++ argsW (a.args.take k) (a.null.take k))) ∧ Below W.heap.size W wr) (fun _ i _ => a.args.length - (intOf i).toNat)
  case atStart => exact ⟨0, Nat.zero_le _, rfl, by simp [argsW], hb0⟩
  case round =>
    obtain ⟨k, hk, rfl, rfl, hb⟩ := hrel
    clear hb0
    have q6 : wr.cell? ⟨w.heap.size, 6, none⟩ = some (.slice A6 a.args.length c6) := (Q0.out.below hb Q0.out.lt).cell 6
    have q7 : wr.cell? ⟨w.heap.size, 7, none⟩ = some (.slice A7 a.null.length c7) := (Q0.out.below hb Q0.out.lt).cell 7
    have q8 : wr.cell? ⟨w.heap.size, 8, none⟩ = some (.slice A8 a.formats.length c8) := (Q0.out.below hb Q0.out.lt).cell 8
    have HBW := Lib.hid hb
    have hfew := argsW_few (a.args.take k) (a.null.take k) (fun t ht => HF.out.argsT t (List.mem_of_mem_take ht))
    have hlen : (a.args.take k).length ≤ 1000 := by rw [List.length_take]; omega
    have hS : (P0 ++ n16 a.args.length ++ argsW (a.args.take k) (a.null.take k)).length ≤ 10044444 := by simp [n16]; omega
    clear hfew hlen
    by_cases hlt : k < a.args.length
    · have hlt2 : k < a.null.length := by rw [HL.out]; exact hlt
      have st : ∀ {v xs}, LR (fun i => i < w.heap.size) w v xs → LR (fun i => i < w.heap.size) wr v xs := fun h => h.step (fun b hb2 => (HBW.out.block b (Nat.lt_of_lt_of_le hb2 HB.out.size)).trans (HB.out.block b hb2)) (fun _ h => h)
      obtain ⟨p, o, rfl, hp, hg⟩ := (st HA.out).addr (ne_strs hlt)
      obtain ⟨p2, o2, rfl, hp2, hg2⟩ := (st HN.out).addr (ne_bools hlt2)
      have x := hg k _ (strs_get a.args k hlt)
      have x2 := hg2 k _ (bools_get a.null k hlt2)
      have i0 : (0 : Int) ≤ (k : Int) := by omega
      have i1 : (k : Int) < (a.args.length : Int) := by omega
      have i2 : (k : Int) < (a.null.length : Int) := by omega
      have hs := argsW_step a.args a.null k hlt hlt2
      have t1 := HF.out.argsT a.args[k] (List.getElem_mem _)
      cases hn : a.null[k] with
      | true =>
        rw [hn] at x2 hs
        have HD := Lib.hid (fun w => put4 (P0 ++ n16 a.args.length ++ argsW (a.args.take k) (a.null.take k)) (-1) w (by omega))
        have HR : Hid (ba (P0 ++ n16 a.args.length ++ argsW (a.args.take k) (a.null.take k) ++ n32 (-1)) = ba (P0 ++ n16 a.args.length ++ argsW (a.args.take (k + 1)) (a.null.take (k + 1)))) := Lib.hid (by rw [hs]; simp [argW])
        clear hg hg2 hs t1 hS st hb hn
        generalize ba (P0 ++ n16 a.args.length ++ argsW (a.args.take k) (a.null.take k) ++ n32 (-1)) = r2 at *
        generalize ba (P0 ++ n16 a.args.length ++ argsW (a.args.take k) (a.null.take k)) = r0 at *
        go_wp2_with fail
        refine (HD.out _).mono ?_; rintro e w2 ⟨rfl, hb2⟩
        go_wp2
        go_roundw
        case rel => exact ⟨k + 1, by omega, by go_num, by rw [HR.out], HBW.out.trans (hb2.mono HBW.out.size)⟩
        case measure => simp [intOf]; omega
      | false =>
        rw [hn] at x2 hs
        have HD := Lib.hid (fun w => put4 (P0 ++ n16 a.args.length ++ argsW (a.args.take k) (a.null.take k)) ((ba a.args[k]).size : Int) w (by omega))
        have HR : Hid (ba (P0 ++ n16 a.args.length ++ argsW (a.args.take k) (a.null.take k) ++ n32 ((ba a.args[k]).size : Int)) ++ ba a.args[k] = ba (P0 ++ n16 a.args.length ++ argsW (a.args.take (k + 1)) (a.null.take (k + 1)))) := Lib.hid (by rw [hs, ba_size, ba_append]; simp [argW])
        have hz2 : (ba (P0 ++ n16 a.args.length ++ argsW (a.args.take k) (a.null.take k) ++ n32 ((ba a.args[k]).size : Int))).size ≤ 10044448 := by rw [ba_size, List.length_append]; simp only [n32, List.length_cons, List.length_nil]; omega
        have hz3 : (ba a.args[k]).size ≤ 10000 := by rw [ba_size]; exact t1
        have hpw := size_of x
        have hBl := Q0.out.lt
        have hwz := HBW.out.size
        clear hg hg2 hs t1 hS st hb hn
        generalize ba (P0 ++ n16 a.args.length ++ argsW (a.args.take k) (a.null.take k) ++ n32 ((ba a.args[k]).size : Int)) = r2 at *
        generalize ba (P0 ++ n16 a.args.length ++ argsW (a.args.take k) (a.null.take k)) = r0 at *
        generalize ba a.args[k] = y1 at *
        go_wp2
        go_region_with (go_at_call 47; refine (HD.out _).mono ?_; rintro e w2 ⟨rfl, hb2⟩; have q6' : w2.cell? ⟨w.heap.size, 6, none⟩ = some (.slice (some ⟨p, o, none⟩) a.args.length c6) := (by rw [(bcell hb2).1 _ _ (Nat.lt_of_lt_of_le hBl hwz)]; exact q6); have x' : w2.cell? ⟨p, o + k, none⟩ = some (.string y1) := (by rw [(bcell hb2).1 _ _ hpw]; exact x))
        all_goals
          go_wp2
          go_roundw
          case rel => exact ⟨k + 1, by omega, by go_num, by rw [← HR.out], HBW.out.trans ((below_drewN (Below.refl _ _) 1).trans (hb2.mono HBW.out.size))⟩
          case measure => simp [intOf]; omega
    · have e : k = a.args.length := by omega
      have hz : (P0 ++ n16 a.args.length ++ argsW (a.args.take k) (a.null.take k)) = P0 ++ n16 a.args.length ++ argsW a.args a.null := by rw [List.take_of_length_le (by omega), List.take_of_length_le (by have := HL.out; omega)]
      rw [hz] at hS ⊢
      clear hz
      have HE := Lib.hid (fun w => put2 (P0 ++ n16 a.args.length ++ argsW a.args a.null) a.formats.length w (by omega))
      have HRR2 : Hid (R = ba (P0 ++ n16 a.args.length ++ argsW a.args a.null ++ n16 a.formats.length ++ fmtW a.formats)) := Lib.hid (by rw [HRR.out]; simp)
      have hT : (P0 ++ n16 a.args.length ++ argsW a.args a.null ++ n16 a.formats.length).length ≤ 10044446 := by rw [List.length_append]; simp only [n16, List.length_cons, List.length_nil] at hS ⊢; omega
      clear hb hS HRR q7
      generalize ba (P0 ++ n16 a.args.length ++ argsW a.args a.null) = r0 at *
      generalize P0 ++ n16 a.args.length ++ argsW a.args a.null ++ n16 a.formats.length = T at *
      go_wp2_with fail
      refine (HE.out _).mono ?_; rintro e2 w2 ⟨rfl, hb2⟩
      have hb0 : Below W.heap.size W w2 := HBW.out.trans (hb2.mono HBW.out.size)
      clear hb2 HE q6 q8 HBW
      go_wp2
      go_loopw [3, 5] (fun s i wr => ∃ k : Nat, k ≤ a.formats.length ∧ i = .int .i64 k ∧ s = .string (ba (T ++ fmtW (a.formats.take k))) ∧ Below W.heap.size W wr) (fun _ i _ => a.formats.length - (intOf i).toNat)
      case atStart => exact ⟨0, Nat.zero_le _, rfl, by simp [fmtW], hb0⟩
      case round =>
        obtain ⟨j, hj, rfl, rfl, hb⟩ := hrel
        clear hb0
        have q8 : wr.cell? ⟨w.heap.size, 8, none⟩ = some (.slice A8 a.formats.length c8) := (Q0.out.below hb Q0.out.lt).cell 8
        have HBW := Lib.hid hb
        by_cases hlt2 : j < a.formats.length
        · have st : ∀ {v xs}, LR (fun i => i < w.heap.size) w v xs → LR (fun i => i < w.heap.size) wr v xs := fun h => h.step (fun b hb2 => (HBW.out.block b (Nat.lt_of_lt_of_le hb2 HB.out.size)).trans (HB.out.block b hb2)) (fun _ h => h)
          obtain ⟨p, o, rfl, hp, hg⟩ := (st HFm.out).addr (ne_ints hlt2)
          have x := hg j _ (ints_get a.formats j hlt2)
          have hs := fmtW_step a.formats j hlt2
          have HD := Lib.hid (fun w => put2 (T ++ fmtW (a.formats.take j)) a.formats[j] w (by rw [List.length_append, fmtW_len, List.length_take]; omega))
          have HR : Hid (ba (T ++ fmtW (a.formats.take j) ++ n16 a.formats[j]) = ba (T ++ fmtW (a.formats.take (j + 1)))) := Lib.hid (by rw [hs]; simp)
          clear hg hs st hb
          generalize ba (T ++ fmtW (a.formats.take j) ++ n16 a.formats[j]) = r2 at *
          generalize ba (T ++ fmtW (a.formats.take j)) = r0 at *
          generalize a.formats[j] = z at *
          go_wp2_with fail
          refine (HD.out _).mono ?_; rintro e2 w2 ⟨rfl, hb2⟩
          go_wp2
          go_roundw
          case rel => exact ⟨j + 1, by omega, by go_num, by rw [HR.out], HBW.out.trans (hb2.mono HBW.out.size)⟩
          case measure => simp [intOf]; omega
        · have HR : Hid (R = ba (T ++ fmtW (a.formats.take j))) := Lib.hid (by rw [HRR2.out, List.take_of_length_le (by omega)])
          clear hb HRR2
          generalize ba (T ++ fmtW (a.formats.take j)) = r0 at *
          go_wp2
          go_ret
          exact ⟨by rw [HR.out]; rfl, HB.out.trans (HBW.out.mono HB.out.size)⟩
end Go.Proofs.Ytojgeilihoilnaa
