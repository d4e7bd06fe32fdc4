/- What the document's own body answers. Condition: Few. -/
import Derived.Test.YtnjifbgjglniaaaBkrb
import Derived.Test.YtnjifbgjglniaaaBki
import Derived.BigQuiet
namespace Go.Proofs.Ytnjifbgjglniaaa.BK
open Go.Proofs.Ytnjifbgjglniaaa
open Go.ChangeShapes Go.WideShapes Go.ChangeAt Go.RowKit
set_option linter.unusedVariables false
set_option linter.unusedSimpArgs false
set_option maxRecDepth 100000
attribute [local go_sem ↓] Go.wp_at_zero Go.wp_at_succ

set_option maxHeartbeats 2000000 in
theorem rb_R (w : World) (a : Tell) (v : Value) (f : Few a) (har : AR (fun i => i < w.heap.size) w v a) (hk : a.kind = 82) :
    Calls Try.prog 23 #[v] w fun e w' => e = .returned (.string (ba (bodyD .login a))) ∧ Below w.heap.size w w' := by
  have hc := fun w => put4 [] a.n w (by simp)
  rw [show (ba [] : ByteArray) = ⟨#[]⟩ from rfl] at hc
  have HC := Lib.hid hc
  obtain ⟨kv, vv, nv, rfl, k1, k2, k3⟩ := har.ex
  clear har
  obtain ⟨A1, c1, e1, z1, y1⟩ := k1.form
  rw [strs_len] at e1 z1
  subst e1
  obtain ⟨A2, c2, e2, z2, y2⟩ := k2.form
  rw [strs_len] at e2 z2
  subst e2
  obtain ⟨A3, c3, e3, z3, y3⟩ := k3.form
  rw [bools_len] at e3 z3
  subst e3
  rw [box_cut]
  rw [show (a.kind.toNat : Int) = 82 from by rw [hk]; rfl]
  clear hc k1 k2 k3 hk f
  go_enter Try.func23, Try.ntmps23
  go_wp2_with fail
  refine (HC.out _).mono ?_; rintro e w1 ⟨rfl, hb1⟩
  go_wp2
  go_ret
  exact ⟨rfl, bel hb1⟩
set_option maxHeartbeats 2000000 in
theorem rb_K (w : World) (a : Tell) (v : Value) (f : Few a) (har : AR (fun i => i < w.heap.size) w v a) (hk : a.kind = 75) :
    Calls Try.prog 23 #[v] w fun e w' => e = .returned (.string (ba (bodyD .secret a))) ∧ Below w.heap.size w w' := by
  have hc := fun w => put4 [] a.n w (by simp)
  rw [show (ba [] : ByteArray) = ⟨#[]⟩ from rfl] at hc
  have hd := fun w => put4 ([] ++ n32 a.n) a.m w (by simp [n32])
  have HR : Hid (ba ([] ++ n32 a.n ++ n32 a.m) = ba (bodyD .secret a)) := Lib.hid rfl
  generalize ba ([] ++ n32 a.n ++ n32 a.m) = r2 at *
  generalize ba ([] ++ n32 a.n) = r1 at *
  have HC := Lib.hid hc
  have HD := Lib.hid hd
  generalize ba (bodyD .secret a) = R at *
  obtain ⟨kv, vv, nv, rfl, k1, k2, k3⟩ := har.ex
  clear har
  obtain ⟨A1, c1, e1, z1, y1⟩ := k1.form
  rw [strs_len] at e1 z1
  subst e1
  obtain ⟨A2, c2, e2, z2, y2⟩ := k2.form
  rw [strs_len] at e2 z2
  subst e2
  obtain ⟨A3, c3, e3, z3, y3⟩ := k3.form
  rw [bools_len] at e3 z3
  subst e3
  rw [box_cut]
  rw [show (a.kind.toNat : Int) = 75 from by rw [hk]; rfl]
  have K7 : Hid (∀ w1, Below ((w.alloc (.cells #[.int .u8 75, .int .u8 (a.status.toNat : Int), .string (ba a.text), .slice A1 a.keys.length c1, .slice A2 a.vals.length c2, .slice A3 a.null.length c3, .int .i64 a.n, .int .i64 a.m] 28)).drew).heap.size ((w.alloc (.cells #[.int .u8 75, .int .u8 (a.status.toNat : Int), .string (ba a.text), .slice A1 a.keys.length c1, .slice A2 a.vals.length c2, .slice A3 a.null.length c3, .int .i64 a.n, .int .i64 a.m] 28)).drew) w1 → w1.cell? ⟨w.heap.size, 7, none⟩ = some (.int .i64 a.m) ∧ Below w.heap.size w w1) := Lib.hid (fun w1 h => ⟨((Blk.new w 28 #[.int .u8 75, .int .u8 (a.status.toNat : Int), .string (ba a.text), .slice A1 a.keys.length c1, .slice A2 a.vals.length c2, .slice A3 a.null.length c3, .int .i64 a.n, .int .i64 a.m]).drew_.below h (by simp)).cell 7, (((Below.refl _ _).alloc (Nat.le_refl _) _).drew).trans (h.mono (by simp))⟩)
  clear hc hd k1 k2 k3 hk f
  go_enter Try.func23, Try.ntmps23
  go_wp2
  go_region_with (first
    | (go_at_call 61; (with_reducible refine (HC.out _).mono ?_); rintro e w1 ⟨rfl, hb1⟩; obtain ⟨y7, g1⟩ := K7.out w1 hb1; clear hb1)
    | (go_at_call 61; (with_reducible refine (HD.out _).mono ?_); rintro e w2 ⟨rfl, hb2⟩; have hfin := gro g1 hb2; clear hb2))
  all_goals
    go_wp2
    go_ret
    exact ⟨by have h := HR.out; subst h; rfl, hfin⟩
set_option maxHeartbeats 2000000 in
theorem rb_Z (w : World) (a : Tell) (v : Value) (f : Few a) (har : AR (fun i => i < w.heap.size) w v a) (hk : a.kind = 90) :
    Calls Try.prog 23 #[v] w fun e w' => e = .returned (.string (ba (bodyD .status a))) ∧ Below w.heap.size w w' := by
  have hcv : ∀ cs : Array Value, (convert 63 9 (.slice (some ⟨w.heap.size + 1, 0, none⟩) 1 1)).run Try.prog ((w.alloc (.cells cs 28)).alloc (.cells #[.int .u8 (a.status.toNat : Int)] 5)) = .ok (.string (ba [a.status])) ((w.alloc (.cells cs 28)).alloc (.cells #[.int .u8 (a.status.toNat : Int)] 5)) := fun cs => by
    have h := conv1 (w.alloc (.cells cs 28)) a.status
    rw [show (w.alloc (.cells cs 28)).heap.size = w.heap.size + 1 by simp] at h
    exact h
  obtain ⟨kv, vv, nv, rfl, k1, k2, k3⟩ := har.ex
  clear har
  obtain ⟨A1, c1, e1, z1, y1⟩ := k1.form
  rw [strs_len] at e1 z1
  subst e1
  obtain ⟨A2, c2, e2, z2, y2⟩ := k2.form
  rw [strs_len] at e2 z2
  subst e2
  obtain ⟨A3, c3, e3, z3, y3⟩ := k3.form
  rw [bools_len] at e3 z3
  subst e3
  rw [box_cut]
  rw [show (a.kind.toNat : Int) = 90 from by rw [hk]; rfl]
  clear k1 k2 k3 hk f
  go_enter Try.func23, Try.ntmps23
  go_wp2
  go_ret
  exact ⟨rfl, ((Below.refl _ _).alloc (Nat.le_refl _) _).alloc (by simp) _⟩
set_option maxHeartbeats 2000000 in
theorem rb_C (w : World) (a : Tell) (v : Value) (f : Few a) (har : AR (fun i => i < w.heap.size) w v a) (hk : a.kind = 67) :
    Calls Try.prog 23 #[v] w fun e w' => e = .returned (.string (ba (bodyD .done a))) ∧ Below w.heap.size w w' := by
  have hc := fun w => putT [] a.text w (by simp) f.text
  rw [show (ba [] : ByteArray) = ⟨#[]⟩ from rfl] at hc
  have HC := Lib.hid hc
  obtain ⟨kv, vv, nv, rfl, k1, k2, k3⟩ := har.ex
  clear har
  obtain ⟨A1, c1, e1, z1, y1⟩ := k1.form
  rw [strs_len] at e1 z1
  subst e1
  obtain ⟨A2, c2, e2, z2, y2⟩ := k2.form
  rw [strs_len] at e2 z2
  subst e2
  obtain ⟨A3, c3, e3, z3, y3⟩ := k3.form
  rw [bools_len] at e3 z3
  subst e3
  rw [box_cut]
  rw [show (a.kind.toNat : Int) = 67 from by rw [hk]; rfl]
  clear hc k1 k2 k3 hk f
  go_enter Try.func23, Try.ntmps23
  go_wp2_with fail
  refine (HC.out _).mono ?_; rintro e w1 ⟨rfl, rfl⟩
  go_wp2
  go_ret
  exact ⟨rfl, (Below.refl _ _).alloc (Nat.le_refl _) _⟩
set_option maxHeartbeats 2000000 in
theorem rb_S (w : World) (a : Tell) (v : Value) (f : Few a) (har : AR (fun i => i < w.heap.size) w v a) (hk : a.kind = 83) (h1 : a.vals.length = 1) :
    Calls Try.prog 23 #[v] w fun e w' => e = .returned (.string (ba (bodyD .setting a))) ∧ Below w.heap.size w w' := by
  obtain ⟨u, hu⟩ : ∃ u, a.vals = [u] := List.length_eq_one_iff.1 h1
  have hc := fun w => putT [] a.text w (by simp) f.text
  rw [show (ba [] : ByteArray) = ⟨#[]⟩ from rfl] at hc
  have HC := Lib.hid hc
  have HD := Lib.hid (fun w => putT ([] ++ txt a.text) u w (by have := txt_len a.text; have := f.text; simp; omega) (f.valsT u (by rw [hu]; simp)))
  have HR : Hid (ba ([] ++ txt a.text ++ txt u) = ba (bodyD .setting a)) := Lib.hid (by simp [bodyD, hu, txtsW])
  generalize ba (bodyD .setting a) = R at *
  obtain ⟨kv, vv, nv, rfl, k1, k2, k3⟩ := har.ex
  clear har
  obtain ⟨A1, c1, e1, z1, y1⟩ := k1.form
  rw [strs_len] at e1 z1
  subst e1
  obtain ⟨A2, c2, e2, z2, y2⟩ := k2.form
  rw [strs_len] at e2 z2
  subst e2
  obtain ⟨A3, c3, e3, z3, y3⟩ := k3.form
  rw [bools_len] at e3 z3
  subst e3
  rw [box_cut]
  rw [show (a.kind.toNat : Int) = 83 from by rw [hk]; rfl]
  rw [h1] at z2 ⊢
  obtain ⟨p, o, rfl, hp, hg⟩ := k2.addr (by rw [hu]; simp [strs])
  have x : w.cell? ⟨p, o, none⟩ = some (.string (ba u)) := hg 0 _ (by rw [hu]; rfl)
  have hne1 : p ≠ w.heap.size := by omega
  clear hc k1 k2 k3 hk f hg hu
  generalize ba ([] ++ txt a.text ++ txt u) = r2 at *
  generalize ba ([] ++ txt a.text) = r1 at *
  go_enter Try.func23, Try.ntmps23
  go_wp2
  go_region_with (first
    | (go_at_call 62; (with_reducible refine (HC.out _).mono ?_); rintro e w1 ⟨rfl, rfl⟩)
    | (go_at_call 62; (with_reducible refine (HD.out _).mono ?_); rintro e w1 ⟨rfl, rfl⟩))
  all_goals
    go_wp2
    go_ret
    exact ⟨by have h := HR.out; subst h; rfl, by first | exact below_drewN ((Below.refl _ _).alloc (Nat.le_refl _) _) 1 | exact (Below.refl _ _).alloc (Nat.le_refl _) _⟩

theorem txt_key (t u : Tx) (h : 0 ∉ t) : txt (t ++ u) = t ++ txt u := by
  unfold txt
  have : upto0 (t ++ u) = t ++ upto0 u := by
    unfold upto0
    rw [List.takeWhile_append_of_pos (fun b hb => by simpa using fun e => h (by rw [← e]; exact hb))]
  rw [this, List.append_assoc]
set_option maxHeartbeats 2000000 in
theorem rb_E (w : World) (a : Tell) (v : Value) (f : Few a) (har : AR (fun i => i < w.heap.size) w v a) (hk : a.kind = 69) (hl : a.keys.length = a.vals.length) (h0 : ∀ t ∈ a.keys, 0 ∉ t) :
    Calls Try.prog 23 #[v] w fun e w' => e = .returned (.string (ba (bodyD .fields a))) ∧ Below w.heap.size w w' := by
  obtain ⟨kv, vv, nv, rfl, k1, k2, k3⟩ := har.ex
  clear har
  obtain ⟨A1, c1, e1, z1, y1⟩ := k1.form
  rw [strs_len] at e1 z1
  subst e1
  obtain ⟨A2, c2, e2, z2, y2⟩ := k2.form
  rw [strs_len] at e2 z2
  subst e2
  obtain ⟨A3, c3, e3, z3, y3⟩ := k3.form
  rw [bools_len] at e3 z3
  subst e3
  rw [box_cut]
  rw [show (a.kind.toNat : Int) = 69 from by rw [hk]; rfl]
  have q0 := Blk.new w 28 #[.int .u8 69, .int .u8 (a.status.toNat : Int), .string (ba a.text), .slice A1 a.keys.length c1, .slice A2 a.vals.length c2, .slice A3 a.null.length c3, .int .i64 a.n, .int .i64 a.m]
  have hB : Below w.heap.size w (w.alloc (.cells #[.int .u8 69, .int .u8 (a.status.toNat : Int), .string (ba a.text), .slice A1 a.keys.length c1, .slice A2 a.vals.length c2, .slice A3 a.null.length c3, .int .i64 a.n, .int .i64 a.m] 28)) := (Below.refl _ _).alloc (Nat.le_refl _) _
  have HK := Lib.hid k1
  have HV := Lib.hid k2
  have HL := Lib.hid hl
  have HF := Lib.hid f
  have fk := f.keys
  have HRR : Hid (bodyD .fields a = [] ++ fldW a.keys a.vals ++ [0]) := Lib.hid rfl
  obtain ⟨R, hR⟩ : ∃ R, R = ba (bodyD .fields a) := ⟨_, rfl⟩
  have HR0 := Lib.hid hR
  rw [← hR]
  clear hR k1 k2 k3 f hl hk
  go_enter Try.func23, Try.ntmps23
  go_upto_region 1 with fail
  change Code.wp _ _ _ _ (w.alloc (.cells #[.int .u8 69, .int .u8 (a.status.toNat : Int), .string (ba a.text), .slice A1 a.keys.length c1, .slice A2 a.vals.length c2, .slice A3 a.null.length c3, .int .i64 a.n, .int .i64 a.m] 28))
  generalize (w.alloc (.cells #[.int .u8 69, .int .u8 (a.status.toNat : Int), .string (ba a.text), .slice A1 a.keys.length c1, .slice A2 a.vals.length c2, .slice A3 a.null.length c3, .int .i64 a.n, .int .i64 a.m] 28)) = W at *
  have x0 : W.cell? ⟨w.heap.size, 0, none⟩ = some (.int .u8 69) := q0.cell 0
  have Q0 := Lib.hid q0
  have HB := Lib.hid hB
  clear q0 hB
  go_wp2
  clear x0
  go_loopw [3, 4] (fun s i wr => ∃ k : Nat, k ≤ a.keys.length ∧ i = .int .i64 k ∧ s = .string (ba ([] ++ fldW (a.keys.take k) (a.vals.take k))) ∧ Below W.heap.size W wr) (fun _ i _ => a.keys.length - (intOf i).toNat)
  case atStart => exact ⟨0, Nat.zero_le _, rfl, by simp [fldW, ba], Below.refl _ _⟩
  case round =>
    obtain ⟨k, hk, rfl, rfl, hb⟩ := hrel
    have q3 : wr.cell? ⟨w.heap.size, 3, none⟩ = some (.slice A1 a.keys.length c1) := (Q0.out.below hb Q0.out.lt).cell 3
    have q4 : wr.cell? ⟨w.heap.size, 4, none⟩ = some (.slice A2 a.vals.length c2) := (Q0.out.below hb Q0.out.lt).cell 4
    have HBW := Lib.hid hb
    have hfew := fldW_size (a.keys.take k) (a.vals.take k) (fun t ht => HF.out.keysT t (List.mem_of_mem_take ht)) (fun t ht => HF.out.valsT t (List.mem_of_mem_take ht))
    have hlen : (a.keys.take k).length ≤ 200 := by rw [List.length_take]; omega
    have hS : ([] ++ fldW (a.keys.take k) (a.vals.take k)).length ≤ 4000200 := by simp; omega
    clear hfew hlen
    by_cases hlt : k < a.keys.length
    · have hlt2 : k < a.vals.length := by rw [← HL.out]; exact hlt
      have st : ∀ {v xs}, LR (fun i => i < w.heap.size) w v xs → LR (fun i => i < w.heap.size) wr v xs := fun h => h.step (fun b hb2 => (HBW.out.block b (Nat.lt_of_lt_of_le hb2 HB.out.size)).trans (HB.out.block b hb2)) (fun _ h => h)
      obtain ⟨p, o, rfl, hp, hg⟩ := (st HK.out).addr (ne_strs hlt)
      obtain ⟨p2, o2, rfl, hp2, hg2⟩ := (st HV.out).addr (ne_strs hlt2)
      have x := hg k _ (strs_get a.keys k hlt)
      have x2 := hg2 k _ (strs_get a.vals k hlt2)
      have i0 : (0 : Int) ≤ (k : Int) := by omega
      have i1 : (k : Int) < (a.keys.length : Int) := by omega
      have i2 : (k : Int) < (a.vals.length : Int) := by omega
      have hs := fldW_step a.keys a.vals k hlt hlt2
      have t1 := HF.out.keysT a.keys[k] (List.getElem_mem _)
      have t2 := HF.out.valsT a.vals[k] (List.getElem_mem _)
      generalize hS0 : [] ++ fldW (a.keys.take k) (a.vals.take k) = S0 at *
      have hkey : txt (a.keys[k] ++ a.vals[k]) = a.keys[k] ++ txt a.vals[k] := txt_key _ _ (h0 _ (List.getElem_mem _))
      have hz1 : (ba S0).size ≤ 4000200 := by rw [ba_size]; exact hS
      have hz2 : (ba a.keys[k]).size ≤ 10000 := by rw [ba_size]; exact t1
      have hd := fun w => putT (S0 ++ a.keys[k]) a.vals[k] w (by rw [List.length_append]; omega) t2
      rw [← ba_append] at hd
      have HD := Lib.hid hd
      have HR : Hid (ba (S0 ++ a.keys[k] ++ txt a.vals[k]) = ba ([] ++ fldW (a.keys.take (k + 1)) (a.vals.take (k + 1)))) := Lib.hid (congrArg ba (by rw [hs, ← hS0, hkey]; simp))
      clear hg hg2 hs t1 t2 hS st hb hd hS0 hkey
      generalize ba (S0 ++ a.keys[k] ++ txt a.vals[k]) = r2 at *
      generalize ba a.keys[k] = y1 at *
      generalize ba a.vals[k] = y2 at *
      generalize ba S0 = r0 at *
      go_wp2
      go_quiet (first | (go_at_call 62; with_reducible exact Calls.quiet_of_same (HD.out _)))
      go_wp2
      go_roundw
      case rel => exact ⟨k + 1, by omega, by go_num, by rw [← HR.out], below_drewN HBW.out _⟩
      case measure => simp [intOf]; omega
    · have e : k = a.keys.length := by omega
      have hz : ba ([] ++ fldW (a.keys.take k) (a.vals.take k)) ++ ⟨#[0]⟩ = R := by
        rw [HR0.out, HRR.out, show (⟨#[0]⟩ : ByteArray) = ba [0] from rfl, ba_append, List.take_of_length_le (by omega), List.take_of_length_le (by have := HL.out; omega)]
      have HZ := Lib.hid hz
      have hz1 : (ba ([] ++ fldW (a.keys.take k) (a.vals.take k))).size ≤ 4000200 := by rw [ba_size]; exact hS
      clear hz hS hb
      generalize ba ([] ++ fldW (a.keys.take k) (a.vals.take k)) = r0 at *
      go_wp2
      go_ret
      exact ⟨by rw [← HZ.out]; rfl, HB.out.trans (HBW.out.mono HB.out.size)⟩
set_option maxHeartbeats 2000000 in
theorem rb_N (w : World) (a : Tell) (v : Value) (f : Few a) (har : AR (fun i => i < w.heap.size) w v a) (hk : a.kind = 78) (hl : a.keys.length = a.vals.length) (h0 : ∀ t ∈ a.keys, 0 ∉ t) :
    Calls Try.prog 23 #[v] w fun e w' => e = .returned (.string (ba (bodyD .fields a))) ∧ Below w.heap.size w w' := by
  obtain ⟨kv, vv, nv, rfl, k1, k2, k3⟩ := har.ex
  clear har
  obtain ⟨A1, c1, e1, z1, y1⟩ := k1.form
  rw [strs_len] at e1 z1
  subst e1
  obtain ⟨A2, c2, e2, z2, y2⟩ := k2.form
  rw [strs_len] at e2 z2
  subst e2
  obtain ⟨A3, c3, e3, z3, y3⟩ := k3.form
  rw [bools_len] at e3 z3
  subst e3
  rw [box_cut]
  rw [show (a.kind.toNat : Int) = 78 from by rw [hk]; rfl]
  have q0 := Blk.new w 28 #[.int .u8 78, .int .u8 (a.status.toNat : Int), .string (ba a.text), .slice A1 a.keys.length c1, .slice A2 a.vals.length c2, .slice A3 a.null.length c3, .int .i64 a.n, .int .i64 a.m]
  have hB : Below w.heap.size w (w.alloc (.cells #[.int .u8 78, .int .u8 (a.status.toNat : Int), .string (ba a.text), .slice A1 a.keys.length c1, .slice A2 a.vals.length c2, .slice A3 a.null.length c3, .int .i64 a.n, .int .i64 a.m] 28)) := (Below.refl _ _).alloc (Nat.le_refl _) _
  have HK := Lib.hid k1
  have HV := Lib.hid k2
  have HL := Lib.hid hl
  have HF := Lib.hid f
  have fk := f.keys
  have HRR : Hid (bodyD .fields a = [] ++ fldW a.keys a.vals ++ [0]) := Lib.hid rfl
  obtain ⟨R, hR⟩ : ∃ R, R = ba (bodyD .fields a) := ⟨_, rfl⟩
  have HR0 := Lib.hid hR
  rw [← hR]
  clear hR k1 k2 k3 f hl hk
  go_enter Try.func23, Try.ntmps23
  go_upto_region 1 with fail
  change Code.wp _ _ _ _ (w.alloc (.cells #[.int .u8 78, .int .u8 (a.status.toNat : Int), .string (ba a.text), .slice A1 a.keys.length c1, .slice A2 a.vals.length c2, .slice A3 a.null.length c3, .int .i64 a.n, .int .i64 a.m] 28))
  generalize (w.alloc (.cells #[.int .u8 78, .int .u8 (a.status.toNat : Int), .string (ba a.text), .slice A1 a.keys.length c1, .slice A2 a.vals.length c2, .slice A3 a.null.length c3, .int .i64 a.n, .int .i64 a.m] 28)) = W at *
  have x0 : W.cell? ⟨w.heap.size, 0, none⟩ = some (.int .u8 78) := q0.cell 0
  have Q0 := Lib.hid q0
  have HB := Lib.hid hB
  clear q0 hB
  go_wp2
  clear x0
  go_loopw [3, 4] (fun s i wr => ∃ k : Nat, k ≤ a.keys.length ∧ i = .int .i64 k ∧ s = .string (ba ([] ++ fldW (a.keys.take k) (a.vals.take k))) ∧ Below W.heap.size W wr) (fun _ i _ => a.keys.length - (intOf i).toNat)
  case atStart => exact ⟨0, Nat.zero_le _, rfl, by simp [fldW, ba], Below.refl _ _⟩
  case round =>
    obtain ⟨k, hk, rfl, rfl, hb⟩ := hrel
    have q3 : wr.cell? ⟨w.heap.size, 3, none⟩ = some (.slice A1 a.keys.length c1) := (Q0.out.below hb Q0.out.lt).cell 3
    have q4 : wr.cell? ⟨w.heap.size, 4, none⟩ = some (.slice A2 a.vals.length c2) := (Q0.out.below hb Q0.out.lt).cell 4
    have HBW := Lib.hid hb
    have hfew := fldW_size (a.keys.take k) (a.vals.take k) (fun t ht => HF.out.keysT t (List.mem_of_mem_take ht)) (fun t ht => HF.out.valsT t (List.mem_of_mem_take ht))
    have hlen : (a.keys.take k).length ≤ 200 := by rw [List.length_take]; omega
    have hS : ([] ++ fldW (a.keys.take k) (a.vals.take k)).length ≤ 4000200 := by simp; omega
    clear hfew hlen
    by_cases hlt : k < a.keys.length
    · have hlt2 : k < a.vals.length := by rw [← HL.out]; exact hlt
      have st : ∀ {v xs}, LR (fun i => i < w.heap.size) w v xs → LR (fun i => i < w.heap.size) wr v xs := fun h => h.step (fun b hb2 => (HBW.out.block b (Nat.lt_of_lt_of_le hb2 HB.out.size)).trans (HB.out.block b hb2)) (fun _ h => h)
      obtain ⟨p, o, rfl, hp, hg⟩ := (st HK.out).addr (ne_strs hlt)
      obtain ⟨p2, o2, rfl, hp2, hg2⟩ := (st HV.out).addr (ne_strs hlt2)
      have x := hg k _ (strs_get a.keys k hlt)
      have x2 := hg2 k _ (strs_get a.vals k hlt2)
      have i0 : (0 : Int) ≤ (k : Int) := by omega
      have i1 : (k : Int) < (a.keys.length : Int) := by omega
      have i2 : (k : Int) < (a.vals.length : Int) := by omega
      have hs := fldW_step a.keys a.vals k hlt hlt2
      have t1 := HF.out.keysT a.keys[k] (List.getElem_mem _)
      have t2 := HF.out.valsT a.vals[k] (List.getElem_mem _)
      generalize hS0 : [] ++ fldW (a.keys.take k) (a.vals.take k) = S0 at *
      have hkey : txt (a.keys[k] ++ a.vals[k]) = a.keys[k] ++ txt a.vals[k] := txt_key _ _ (h0 _ (List.getElem_mem _))
      have hz1 : (ba S0).size ≤ 4000200 := by rw [ba_size]; exact hS
      have hz2 : (ba a.keys[k]).size ≤ 10000 := by rw [ba_size]; exact t1
      have hd := fun w => putT (S0 ++ a.keys[k]) a.vals[k] w (by rw [List.length_append]; omega) t2
      rw [← ba_append] at hd
      have HD := Lib.hid hd
      have HR : Hid (ba (S0 ++ a.keys[k] ++ txt a.vals[k]) = ba ([] ++ fldW (a.keys.take (k + 1)) (a.vals.take (k + 1)))) := Lib.hid (congrArg ba (by rw [hs, ← hS0, hkey]; simp))
      clear hg hg2 hs t1 t2 hS st hb hd hS0 hkey
      generalize ba (S0 ++ a.keys[k] ++ txt a.vals[k]) = r2 at *
      generalize ba a.keys[k] = y1 at *
      generalize ba a.vals[k] = y2 at *
      generalize ba S0 = r0 at *
      go_wp2
      go_quiet (first | (go_at_call 62; with_reducible exact Calls.quiet_of_same (HD.out _)))
      go_wp2
      go_roundw
      case rel => exact ⟨k + 1, by omega, by go_num, by rw [← HR.out], below_drewN HBW.out _⟩
      case measure => simp [intOf]; omega
    · have e : k = a.keys.length := by omega
      have hz : ba ([] ++ fldW (a.keys.take k) (a.vals.take k)) ++ ⟨#[0]⟩ = R := by
        rw [HR0.out, HRR.out, show (⟨#[0]⟩ : ByteArray) = ba [0] from rfl, ba_append, List.take_of_length_le (by omega), List.take_of_length_le (by have := HL.out; omega)]
      have HZ := Lib.hid hz
      have hz1 : (ba ([] ++ fldW (a.keys.take k) (a.vals.take k))).size ≤ 4000200 := by rw [ba_size]; exact hS
      clear hz hS hb
      generalize ba ([] ++ fldW (a.keys.take k) (a.vals.take k)) = r0 at *
      go_wp2
      go_ret
      exact ⟨by rw [← HZ.out]; rfl, HB.out.trans (HBW.out.mono HB.out.size)⟩

set_option maxHeartbeats 2000000 in
theorem rbc_T (w : World) (st : Int) (tx : ByteArray) (A1 : Option Addr) (m1 c1 : Nat) (A2 : Option Addr) (m2 c2 : Nat) (A3 : Option Addr) (m3 c3 : Nat) (n m : Int) (R : ByteArray) (HC : Hid (∀ W, Below w.heap.size w W → Calls Try.prog 63 #[.agg #[.int .u8 84, .int .u8 st, .string tx, .slice A1 m1 c1, .slice A2 m2 c2, .slice A3 m3 c3, .int .i64 n, .int .i64 m]] W fun e w' => e = .returned (.string R) ∧ Below W.heap.size W w')) :
    Calls Try.prog 23 #[.agg #[.int .u8 84, .int .u8 st, .string tx, .slice A1 m1 c1, .slice A2 m2 c2, .slice A3 m3 c3, .int .i64 n, .int .i64 m]] w fun e w' => e = .returned (.string R) ∧ Below w.heap.size w w' := by
  go_enter Try.func23, Try.ntmps23
  go_wp2_with fail
  refine (HC.out _ ((Below.refl _ _).alloc (Nat.le_refl _) _)).mono ?_; rintro e w1 ⟨rfl, hb1⟩
  go_wp2
  go_ret
  exact ⟨rfl, bel hb1⟩
set_option maxHeartbeats 2000000 in
theorem rb_T (w : World) (a : Tell) (v : Value) (f : Few a) (har : AR (fun i => i < w.heap.size) w v a) (hk : a.kind = 84) :
    Calls Try.prog 23 #[v] w fun e w' => e = .returned (.string (ba (bodyD .columns a))) ∧ Below w.heap.size w w' := by
  have HC := fun W (hB : Below w.heap.size w W) => rcols_any W a v f (har.step (fun b hb => hB.block b hb) (fun b hb => Nat.lt_of_lt_of_le hb hB.size))
  obtain ⟨kv, vv, nv, rfl, k1, k2, k3⟩ := har.ex
  clear har
  obtain ⟨A1, c1, e1, z1, y1⟩ := k1.form
  rw [strs_len] at e1 z1
  subst e1
  obtain ⟨A2, c2, e2, z2, y2⟩ := k2.form
  rw [strs_len] at e2 z2
  subst e2
  obtain ⟨A3, c3, e3, z3, y3⟩ := k3.form
  rw [bools_len] at e3 z3
  subst e3
  rw [box_cut]
  rw [show (a.kind.toNat : Int) = 84 from by rw [hk]; rfl]
  rw [box_cut, show (a.kind.toNat : Int) = 84 from by rw [hk]; rfl] at HC
  exact rbc_T w _ _ _ _ _ _ _ _ _ _ _ _ _ _ (Lib.hid HC)
set_option maxHeartbeats 2000000 in
theorem rbc_D (w : World) (st : Int) (tx : ByteArray) (A1 : Option Addr) (m1 c1 : Nat) (A2 : Option Addr) (m2 c2 : Nat) (A3 : Option Addr) (m3 c3 : Nat) (n m : Int) (R : ByteArray) (HC : Hid (∀ W, Below w.heap.size w W → Calls Try.prog 64 #[.agg #[.int .u8 68, .int .u8 st, .string tx, .slice A1 m1 c1, .slice A2 m2 c2, .slice A3 m3 c3, .int .i64 n, .int .i64 m]] W fun e w' => e = .returned (.string R) ∧ Below W.heap.size W w')) :
    Calls Try.prog 23 #[.agg #[.int .u8 68, .int .u8 st, .string tx, .slice A1 m1 c1, .slice A2 m2 c2, .slice A3 m3 c3, .int .i64 n, .int .i64 m]] w fun e w' => e = .returned (.string R) ∧ Below w.heap.size w w' := by
  go_enter Try.func23, Try.ntmps23
  go_wp2_with fail
  refine (HC.out _ ((Below.refl _ _).alloc (Nat.le_refl _) _)).mono ?_; rintro e w1 ⟨rfl, hb1⟩
  go_wp2
  go_ret
  exact ⟨rfl, bel hb1⟩
set_option maxHeartbeats 2000000 in
theorem rb_D (w : World) (a : Tell) (v : Value) (f : Few a) (har : AR (fun i => i < w.heap.size) w v a) (hk : a.kind = 68) (hl : a.null.length = a.vals.length) :
    Calls Try.prog 23 #[v] w fun e w' => e = .returned (.string (ba (bodyD .row a))) ∧ Below w.heap.size w w' := by
  have HC := fun W (hB : Below w.heap.size w W) => rrows_any W a v f (har.step (fun b hb => hB.block b hb) (fun b hb => Nat.lt_of_lt_of_le hb hB.size)) hl
  obtain ⟨kv, vv, nv, rfl, k1, k2, k3⟩ := har.ex
  clear har
  obtain ⟨A1, c1, e1, z1, y1⟩ := k1.form
  rw [strs_len] at e1 z1
  subst e1
  obtain ⟨A2, c2, e2, z2, y2⟩ := k2.form
  rw [strs_len] at e2 z2
  subst e2
  obtain ⟨A3, c3, e3, z3, y3⟩ := k3.form
  rw [bools_len] at e3 z3
  subst e3
  rw [box_cut]
  rw [show (a.kind.toNat : Int) = 68 from by rw [hk]; rfl]
  rw [box_cut, show (a.kind.toNat : Int) = 68 from by rw [hk]; rfl] at HC
  exact rbc_D w _ _ _ _ _ _ _ _ _ _ _ _ _ _ (Lib.hid HC)
set_option maxHeartbeats 2000000 in
theorem rb_n1 (w : World) (a : Tell) (v : Value) (f : Few a) (har : AR (fun i => i < w.heap.size) w v a) (hk : a.kind = 49) :
    Calls Try.prog 23 #[v] w fun e w' => e = .returned (.string (ba (bodyD .nothing a))) ∧ Below w.heap.size w w' := by
  obtain ⟨kv, vv, nv, rfl, k1, k2, k3⟩ := har.ex
  clear har
  obtain ⟨A1, c1, e1, z1, y1⟩ := k1.form
  rw [strs_len] at e1 z1
  subst e1
  obtain ⟨A2, c2, e2, z2, y2⟩ := k2.form
  rw [strs_len] at e2 z2
  subst e2
  obtain ⟨A3, c3, e3, z3, y3⟩ := k3.form
  rw [bools_len] at e3 z3
  subst e3
  rw [box_cut]
  rw [show (a.kind.toNat : Int) = 49 from by rw [hk]; rfl]
  clear k1 k2 k3 hk f
  go_enter Try.func23, Try.ntmps23
  go_wp2
  go_ret
  exact ⟨rfl, (Below.refl _ _).alloc (Nat.le_refl _) _⟩
set_option maxHeartbeats 2000000 in
theorem rb_n2 (w : World) (a : Tell) (v : Value) (f : Few a) (har : AR (fun i => i < w.heap.size) w v a) (hk : a.kind = 50) :
    Calls Try.prog 23 #[v] w fun e w' => e = .returned (.string (ba (bodyD .nothing a))) ∧ Below w.heap.size w w' := by
  obtain ⟨kv, vv, nv, rfl, k1, k2, k3⟩ := har.ex
  clear har
  obtain ⟨A1, c1, e1, z1, y1⟩ := k1.form
  rw [strs_len] at e1 z1
  subst e1
  obtain ⟨A2, c2, e2, z2, y2⟩ := k2.form
  rw [strs_len] at e2 z2
  subst e2
  obtain ⟨A3, c3, e3, z3, y3⟩ := k3.form
  rw [bools_len] at e3 z3
  subst e3
  rw [box_cut]
  rw [show (a.kind.toNat : Int) = 50 from by rw [hk]; rfl]
  clear k1 k2 k3 hk f
  go_enter Try.func23, Try.ntmps23
  go_wp2
  go_ret
  exact ⟨rfl, (Below.refl _ _).alloc (Nat.le_refl _) _⟩
set_option maxHeartbeats 2000000 in
theorem rb_n3 (w : World) (a : Tell) (v : Value) (f : Few a) (har : AR (fun i => i < w.heap.size) w v a) (hk : a.kind = 51) :
    Calls Try.prog 23 #[v] w fun e w' => e = .returned (.string (ba (bodyD .nothing a))) ∧ Below w.heap.size w w' := by
  obtain ⟨kv, vv, nv, rfl, k1, k2, k3⟩ := har.ex
  clear har
  obtain ⟨A1, c1, e1, z1, y1⟩ := k1.form
  rw [strs_len] at e1 z1
  subst e1
  obtain ⟨A2, c2, e2, z2, y2⟩ := k2.form
  rw [strs_len] at e2 z2
  subst e2
  obtain ⟨A3, c3, e3, z3, y3⟩ := k3.form
  rw [bools_len] at e3 z3
  subst e3
  rw [box_cut]
  rw [show (a.kind.toNat : Int) = 51 from by rw [hk]; rfl]
  clear k1 k2 k3 hk f
  go_enter Try.func23, Try.ntmps23
  go_wp2
  go_ret
  exact ⟨rfl, (Below.refl _ _).alloc (Nat.le_refl _) _⟩
set_option maxHeartbeats 2000000 in
theorem rb_nn (w : World) (a : Tell) (v : Value) (f : Few a) (har : AR (fun i => i < w.heap.size) w v a) (hk : a.kind = 110) :
    Calls Try.prog 23 #[v] w fun e w' => e = .returned (.string (ba (bodyD .nothing a))) ∧ Below w.heap.size w w' := by
  obtain ⟨kv, vv, nv, rfl, k1, k2, k3⟩ := har.ex
  clear har
  obtain ⟨A1, c1, e1, z1, y1⟩ := k1.form
  rw [strs_len] at e1 z1
  subst e1
  obtain ⟨A2, c2, e2, z2, y2⟩ := k2.form
  rw [strs_len] at e2 z2
  subst e2
  obtain ⟨A3, c3, e3, z3, y3⟩ := k3.form
  rw [bools_len] at e3 z3
  subst e3
  rw [box_cut]
  rw [show (a.kind.toNat : Int) = 110 from by rw [hk]; rfl]
  clear k1 k2 k3 hk f
  go_enter Try.func23, Try.ntmps23
  go_wp2
  go_ret
  exact ⟨rfl, (Below.refl _ _).alloc (Nat.le_refl _) _⟩
set_option maxHeartbeats 2000000 in
theorem rb_nI (w : World) (a : Tell) (v : Value) (f : Few a) (har : AR (fun i => i < w.heap.size) w v a) (hk : a.kind = 73) :
    Calls Try.prog 23 #[v] w fun e w' => e = .returned (.string (ba (bodyD .nothing a))) ∧ Below w.heap.size w w' := by
  obtain ⟨kv, vv, nv, rfl, k1, k2, k3⟩ := har.ex
  clear har
  obtain ⟨A1, c1, e1, z1, y1⟩ := k1.form
  rw [strs_len] at e1 z1
  subst e1
  obtain ⟨A2, c2, e2, z2, y2⟩ := k2.form
  rw [strs_len] at e2 z2
  subst e2
  obtain ⟨A3, c3, e3, z3, y3⟩ := k3.form
  rw [bools_len] at e3 z3
  subst e3
  rw [box_cut]
  rw [show (a.kind.toNat : Int) = 73 from by rw [hk]; rfl]
  clear k1 k2 k3 hk f
  go_enter Try.func23, Try.ntmps23
  go_wp2
  go_ret
  exact ⟨rfl, (Below.refl _ _).alloc (Nat.le_refl _) _⟩
set_option maxHeartbeats 2000000 in
theorem rb_ns (w : World) (a : Tell) (v : Value) (f : Few a) (har : AR (fun i => i < w.heap.size) w v a) (hk : a.kind = 115) :
    Calls Try.prog 23 #[v] w fun e w' => e = .returned (.string (ba (bodyD .nothing a))) ∧ Below w.heap.size w w' := by
  obtain ⟨kv, vv, nv, rfl, k1, k2, k3⟩ := har.ex
  clear har
  obtain ⟨A1, c1, e1, z1, y1⟩ := k1.form
  rw [strs_len] at e1 z1
  subst e1
  obtain ⟨A2, c2, e2, z2, y2⟩ := k2.form
  rw [strs_len] at e2 z2
  subst e2
  obtain ⟨A3, c3, e3, z3, y3⟩ := k3.form
  rw [bools_len] at e3 z3
  subst e3
  rw [box_cut]
  rw [show (a.kind.toNat : Int) = 115 from by rw [hk]; rfl]
  clear k1 k2 k3 hk f
  go_enter Try.func23, Try.ntmps23
  go_wp2
  go_ret
  exact ⟨rfl, (Below.refl _ _).alloc (Nat.le_refl _) _⟩
end Go.Proofs.Ytnjifbgjglniaaa.BK
