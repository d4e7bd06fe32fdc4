/- What the document's own body answers, for a cancel. Condition: texts of at most 10,000 bytes.
   What the document's own body answers, for what is no kind. Condition: none.
   What the document's own body answers, for a start that is no cancel. Condition: Few; as many values as keys. -/
import Derived.Test.YtojgeilihoilnaaM20
set_option linter.unusedSimpArgs false
set_option linter.unusedVariables false
namespace Go.Proofs.Ytojgeilihoilnaa
open Go.ChangeShapes Go.WideShapes Go.ChangeAt Go.RowKit
set_option linter.unusedVariables false
theorem size_of {w : World} {g i : Nat} {v : Value} (h : w.cell? ⟨g, i, none⟩ = some v) : g < w.heap.size := by
  by_cases hg : g < w.heap.size
  · exact hg
  · exfalso
    have : w.heap[g]? = none := Array.getElem?_eq_none (by omega)
    simp [World.cell?, this] at h
set_option maxHeartbeats 2000000 in
set_option maxRecDepth 100000 in
theorem rbody_c (w : World) (a : Ask) (kv vv av nv fv : Value) (hk : a.kind = 0) (hcc : a.cancel = true) (f : Few a) :
    Calls Try.prog 20 #[.agg (askV a kv vv av nv fv)] w fun e w' => e = .returned (.string (ba (n32 80877102 ++ (n32 a.pid ++ n32 a.secret)))) ∧ Below w.heap.size w w' := by
  have n1 := f.name
  have n2 := f.portal
  have n3 := f.sql
  have e0 : (ba [] : ByteArray) = ⟨#[]⟩ := rfl
  have hku : u8 a.kind = .int .u8 0 := by rw [hk]; rfl
  clear hk f
  unfold askV
  rw [hku]
  clear hku
  have hc := fun w => put4 [] 80877102 w (by simp)
  have hd := fun w => put4 ([] ++ n32 80877102) a.pid w (by simp [n32])
  have he := fun w => put4 ([] ++ n32 80877102 ++ n32 a.pid) a.secret w (by simp [n32])
  rw [e0] at hc
  have HC := Lib.hid hc
  have HD := Lib.hid hd
  have HE := Lib.hid he
  rw [show ba (n32 80877102 ++ (n32 a.pid ++ n32 a.secret)) = ba ([] ++ n32 80877102 ++ n32 a.pid ++ n32 a.secret) by simp]
  clear hc hd he e0 n1 n2 n3
  generalize ba ([] ++ n32 80877102 ++ n32 a.pid ++ n32 a.secret) = r3 at *
  generalize ba ([] ++ n32 80877102 ++ n32 a.pid) = r2 at *
  generalize ba ([] ++ n32 80877102) = r1 at *
  rw [hcc]
  clear hcc
  go_enter Try.func20, Try.ntmps20
  go_wp2
  go_region_with (first
    | (go_at_call 47; (with_reducible refine (HC.out _).mono ?_); rintro e w1 ⟨rfl, hb1⟩; have c12 : w1.cell? ⟨w.heap.size, 12, none⟩ = some (.int .i64 a.pid) := (by rw [(bcell hb1).1 _ _ (by simp)]; simp [go_sem]); have c13 : w1.cell? ⟨w.heap.size, 13, none⟩ = some (.int .i64 a.secret) := (by rw [(bcell hb1).1 _ _ (by simp)]; simp [go_sem]); have k1 := below_put hb1; clear hb1)
    | (go_at_call 47; (with_reducible refine (HD.out _).mono ?_); rintro e w2 ⟨rfl, hb2⟩; have d13 : w2.cell? ⟨w.heap.size, 13, none⟩ = some (.int .i64 a.secret) := (by rw [(bcell hb2).1 _ _ (size_of c13)]; exact c13); have k2 := k1.trans (hb2.mono k1.size); clear hb2 k1 c12 c13)
    | (go_at_call 47; (with_reducible refine (HE.out _).mono ?_); rintro e w3 ⟨rfl, hb3⟩; have k3 := k2.trans (hb3.mono k2.size); clear hb3 k2))
  all_goals
    go_wp2
    go_ret
    exact ⟨rfl, k3⟩
end Go.Proofs.Ytojgeilihoilnaa
namespace Go.Proofs.Ytojgeilihoilnaa
open Go.ChangeShapes Go.WideShapes Go.ChangeAt Go.RowKit
set_option linter.unusedVariables false

set_option maxHeartbeats 1000000 in
set_option maxRecDepth 100000 in
theorem rbody_no (w : World) (a : Ask) (kv vv av nv fv : Value) (hk : kd a.kind = none) :
    Calls Try.prog 20 #[.agg (askV a kv vv av nv fv)] w fun e w' => e = .returned (.string ⟨#[]⟩) ∧ Below w.heap.size w w' := by
  have hks : (((a.kind.toNat : Int) == 0) = false) ∧ (((a.kind.toNat : Int) == 112) = false) ∧ (((a.kind.toNat : Int) == 81) = false) ∧ (((a.kind.toNat : Int) == 80) = false) ∧ (((a.kind.toNat : Int) == 66) = false) ∧ (((a.kind.toNat : Int) == 68) = false) ∧ (((a.kind.toNat : Int) == 67) = false) ∧ (((a.kind.toNat : Int) == 69) = false) := by
    unfold kd at hk
    refine ⟨?_, ?_, ?_, ?_, ?_, ?_, ?_, ?_⟩ <;>
    · rw [beq_eq_false_iff_ne]
      intro e
      rw [show a.kind = UInt8.ofNat a.kind.toNat by simp] at hk
      have e2 := Int.ofNat_inj.1 e
      rw [e2] at hk
      simp at hk
  clear hk
  obtain ⟨n0, n112, n81, n80, n66, n68, n67, n69⟩ := hks
  unfold askV u8
  go_enter Try.func20, Try.ntmps20
  go_wp2
  go_ret
  exact ⟨rfl, (Below.refl _ _).alloc (Nat.le_refl _) _⟩
end Go.Proofs.Ytojgeilihoilnaa
namespace Go.Proofs.Ytojgeilihoilnaa
open Go.ChangeShapes Go.WideShapes Go.ChangeAt Go.RowKit
set_option linter.unusedVariables false

theorem putTT (s t : Tx) (w : World) (hs : s.length ≤ 100000000000) (ht : t.length ≤ 10000) : Calls Try.prog 48 #[.string (ba s), .string (ba t)] w fun e w' => e = .returned (.string (ba (s ++ txt t))) ∧ w' = w := by
  have := rputText_any (ba s) (ba t) w (by rw [ba_size]; omega) (by rw [ba_size]; omega)
  rwa [putText_ba] at this
set_option maxHeartbeats 2000000 in
set_option maxRecDepth 100000 in
theorem rbody_start (w : World) (a : Ask) (kv vv av nv fv : Value) (hk : a.kind = 0) (hcc : a.cancel = false) (f : Few a) (hl : a.keys.length = a.vals.length) (h4 : LR (fun i => i < w.heap.size) w kv (strs a.keys)) (h5 : LR (fun i => i < w.heap.size) w vv (strs a.vals)) :
    Calls Try.prog 20 #[.agg (askV a kv vv av nv fv)] w fun e w' => e = .returned (.string (ba (n32 196608 ++ (pairsW a.keys a.vals ++ [0])))) ∧ Below w.heap.size w w' := by
  have e0 : (ba [] : ByteArray) = ⟨#[]⟩ := rfl
  have hc := fun w => put4 [] 196608 w (by simp)
  rw [e0] at hc
  have HC := Lib.hid hc
  obtain ⟨A4, c4, e4, hc1, hc2⟩ := h4.form
  obtain ⟨A5, c5, e5, hc3, hc4⟩ := h5.form
  rw [strs_len] at e4 e5 hc1 hc3
  subst e4 e5
  have q0 : Blk (w.alloc (.cells (askV a (.slice A4 a.keys.length c4) (.slice A5 a.vals.length c5) av nv fv) 29)) w.heap.size 29 (askV a (.slice A4 a.keys.length c4) (.slice A5 a.vals.length c5) av nv fv) := Blk.new w _ _
  have hB : Below w.heap.size w (w.alloc (.cells (askV a (.slice A4 a.keys.length c4) (.slice A5 a.vals.length c5) av nv fv) 29)) := (Below.refl _ _).alloc (Nat.le_refl _) _
  have HK := Lib.hid h4
  have HV := Lib.hid h5
  have HL := Lib.hid hl
  have HF := Lib.hid f
  have fk := f.keys
  have c0 : (w.alloc (.cells (askV a (.slice A4 a.keys.length c4) (.slice A5 a.vals.length c5) av nv fv) 29)).cell? ⟨w.heap.size, 0, none⟩ = some (.int .u8 0) := by rw [q0.cell 0]; show some (u8 a.kind) = _; rw [hk]; rfl
  have c11 : (w.alloc (.cells (askV a (.slice A4 a.keys.length c4) (.slice A5 a.vals.length c5) av nv fv) 29)).cell? ⟨w.heap.size, 11, none⟩ = some (.bool false) := by rw [q0.cell 11]; show some (Value.bool a.cancel) = _; rw [hcc]
  obtain ⟨R, hR⟩ : ∃ R, ba (n32 196608 ++ (pairsW a.keys a.vals ++ [0])) = R := ⟨_, rfl⟩
  rw [hR]
  have HRR := Lib.hid hR
  clear hc h4 h5 hl f hk hcc e0 hR
  go_enter Try.func20, Try.ntmps20
  go_upto_region 1 with fail
  change Code.wp _ _ _ _ (w.alloc (.cells (askV a (.slice A4 a.keys.length c4) (.slice A5 a.vals.length c5) av nv fv) 29))
  generalize (w.alloc (.cells (askV a (.slice A4 a.keys.length c4) (.slice A5 a.vals.length c5) av nv fv) 29)) = W at *
  have Q0 := Lib.hid q0
  have HB := Lib.hid hB
  clear q0 hB
  go_wp2_with fail
  refine (HC.out _).mono ?_; rintro e w1 ⟨rfl, hb1⟩
  clear c0 c11 HC
  go_wp2
  go_loopw [3, 4] (fun s i wr => ∃ k : Nat, k ≤ a.keys.length ∧ i = .int .i64 k ∧ s = .string (ba (n32 196608 ++ pairsW (a.keys.take k) (a.vals.take k))) ∧ Below W.heap.size W wr) (fun _ i _ => a.keys.length - (intOf i).toNat)
  case atStart => exact ⟨0, Nat.zero_le _, rfl, by simp [pairsW], hb1⟩
  case round =>
    obtain ⟨k, hk, rfl, rfl, hb⟩ := hrel
    clear hb1
    have q4 : wr.cell? ⟨w.heap.size, 4, none⟩ = some (.slice A4 a.keys.length c4) := (Q0.out.below hb Q0.out.lt).cell 4
    have q5 : wr.cell? ⟨w.heap.size, 5, none⟩ = some (.slice A5 a.vals.length c5) := (Q0.out.below hb Q0.out.lt).cell 5
    have HBW := Lib.hid hb
    have hfew := pairsW_few (a.keys.take k) (a.vals.take k) (fun t ht => HF.out.keysT t (List.mem_of_mem_take ht)) (fun t ht => HF.out.valsT t (List.mem_of_mem_take ht))
    have hlen : (a.keys.take k).length ≤ 1000 := by rw [List.length_take]; omega
    have hS : (n32 196608 ++ pairsW (a.keys.take k) (a.vals.take k)).length ≤ 20002004 := by simp [n32]; omega
    clear hfew hlen
    by_cases hlt : k < a.keys.length
    · have hlt2 : k < a.vals.length := by rw [← HL.out]; exact hlt
      have st : ∀ {v xs}, LR (fun i => i < w.heap.size) w v xs → LR (fun i => i < w.heap.size) wr v xs := fun h => h.step (fun b hb2 => (HBW.out.block b (Nat.lt_of_lt_of_le hb2 HB.out.size)).trans (HB.out.block b hb2)) (fun _ h => h)
      obtain ⟨p, o, rfl, hp, hg⟩ := (st HK.out).addr (ne_strs hlt)
      obtain ⟨p2, o2, rfl, hp2, hg2⟩ := (st HV.out).addr (ne_strs hlt2)
      have x := hg k _ (strs_get a.keys k hlt)
      have x2 := hg2 k _ (strs_get a.vals k hlt2)
      have i0 : (0 : Int) ≤ (k : Int) := by omega
      have i1 : (k : Int) < (a.keys.length : Int) := by omega
      have i2 : (k : Int) < (a.vals.length : Int) := by omega
      have hs := pairsW_step a.keys a.vals k hlt hlt2
      have t1 := HF.out.keysT a.keys[k] (List.getElem_mem _)
      have t2 := HF.out.valsT a.vals[k] (List.getElem_mem _)
      have HD := Lib.hid (fun w => putTT (n32 196608 ++ pairsW (a.keys.take k) (a.vals.take k)) a.keys[k] w (by omega) t1)
      have HE := Lib.hid (fun w => putTT (n32 196608 ++ pairsW (a.keys.take k) (a.vals.take k) ++ txt a.keys[k]) a.vals[k] w (by have := txt_len a.keys[k]; rw [List.length_append]; omega) t2)
      have HR : Hid (ba (n32 196608 ++ pairsW (a.keys.take k) (a.vals.take k) ++ txt a.keys[k] ++ txt a.vals[k]) = ba (n32 196608 ++ pairsW (a.keys.take (k + 1)) (a.vals.take (k + 1)))) := Lib.hid (by rw [hs]; simp)
      clear hg hg2 hs t1 t2 hS st hb
      generalize ba (n32 196608 ++ pairsW (a.keys.take k) (a.vals.take k) ++ txt a.keys[k] ++ txt a.vals[k]) = r2 at *
      generalize ba (n32 196608 ++ pairsW (a.keys.take k) (a.vals.take k) ++ txt a.keys[k]) = r1 at *
      generalize ba (n32 196608 ++ pairsW (a.keys.take k) (a.vals.take k)) = r0 at *
      generalize ba a.keys[k] = y1 at *
      generalize ba a.vals[k] = y2 at *
      go_wp2
      go_quiet (first | (go_at_call 48; with_reducible exact Calls.quiet_of_same (HD.out _)) | (go_at_call 48; with_reducible exact Calls.quiet_of_same (HE.out _)))
      go_wp2
      go_roundw
      case rel => exact ⟨k + 1, by omega, by go_num, by rw [HR.out], below_drewN HBW.out _⟩
      case measure => simp [intOf]; omega
    · have e : k = a.keys.length := by omega
      have hz : (ba (n32 196608 ++ pairsW (a.keys.take k) (a.vals.take k))).size ≤ 20002004 := by rw [ba_size]; exact hS
      have HR : Hid (ba (n32 196608 ++ pairsW (a.keys.take k) (a.vals.take k)) ++ ⟨#[0]⟩ = R) := Lib.hid (by
        rw [← HRR.out, show (⟨#[0]⟩ : ByteArray) = ba [0] from rfl, ba_append, List.take_of_length_le (by omega), List.take_of_length_le (by have := HL.out; omega)]; simp)
      clear hS hb
      generalize ba (n32 196608 ++ pairsW (a.keys.take k) (a.vals.take k)) = r0 at *
      go_wp2
      go_ret
      exact ⟨by rw [← HR.out]; rfl, HB.out.trans (HBW.out.mono HB.out.size)⟩
end Go.Proofs.Ytojgeilihoilnaa
