/- What the document's own body answers, for the kinds that have no list. Condition: texts of at most 10,000 bytes. -/
import Derived.Test.YtojgeilihoilnaaM14
set_option linter.unusedSimpArgs false
set_option linter.unusedVariables false
namespace Go.Proofs.Ytojgeilihoilnaa
open Go.ChangeShapes Go.WideShapes Go.ChangeAt Go.RowKit
set_option linter.unusedVariables false

theorem putT (s t : Tx) (w : World) (hs : s.length ≤ 1000000) (ht : t.length ≤ 10000) : Calls Try.prog 48 #[.string (ba s), .string (ba t)] w fun e w' => e = .returned (.string (ba (s ++ txt t))) ∧ w' = w := by
  have := rputText_any (ba s) (ba t) w (by rw [ba_size]; omega) (by rw [ba_size]; omega)
  rwa [putText_ba] at this
theorem put4 (s : Tx) (n : Int) (w : World) (hs : s.length ≤ 100000000000) : Calls Try.prog 47 #[.string (ba s), .int .i64 n] w fun e w' => e = .returned (.string (ba (s ++ n32 n))) ∧ Below w.heap.size w w' := by
  have := rput32_any (ba s) n (by rw [ba_size]; omega) w
  rwa [put32_ba] at this
theorem put2 (s : Tx) (n : Int) (w : World) (hs : s.length ≤ 100000000000) : Calls Try.prog 67 #[.string (ba s), .int .i64 n] w fun e w' => e = .returned (.string (ba (s ++ n16 n))) ∧ Below w.heap.size w w' := by
  have := rput16_any (ba s) n (by rw [ba_size]; omega) w
  rwa [put16_ba] at this
theorem below_box (w : World) (o : Obj) (n : Nat) : Below w.heap.size w ((w.alloc o).drewN n) := below_drewN ((Below.refl _ _).alloc (Nat.le_refl _) o) n
theorem below_put {w w2 : World} {o : Obj} (h : Below ((w.alloc o).drew).heap.size ((w.alloc o).drew) w2) : Below w.heap.size w w2 := (below_box w o 1).trans (h.mono (below_box w o 1).size)
set_option maxHeartbeats 2000000 in
set_option maxRecDepth 100000 in
theorem rbody_s112 (w : World) (a : Ask) (kv vv av nv fv : Value) (hk : a.kind = 112) (f : Few a) :
    Calls Try.prog 20 #[.agg (askV a kv vv av nv fv)] w fun e w' => e = .returned (.string (ba (txt a.sql))) ∧ Below w.heap.size w w' := by
  have n1 := f.name
  have n2 := f.portal
  have n3 := f.sql
  have e0 : (ba [] : ByteArray) = ⟨#[]⟩ := rfl
  have hku : u8 a.kind = .int .u8 112 := by rw [hk]; rfl
  clear hk f
  unfold askV
  rw [hku]
  clear hku
  have hc := fun w => putT [] a.sql w (by simp) n3
  rw [e0] at hc
  have HC := Lib.hid hc
  clear hc
  go_enter Try.func20, Try.ntmps20
  go_wp2_with fail
  refine (HC.out _).mono ?_; rintro e w1 ⟨rfl, rfl⟩
  go_wp2
  go_ret
  exact ⟨rfl, (Below.refl _ _).alloc (Nat.le_refl _) _⟩
set_option maxHeartbeats 2000000 in
set_option maxRecDepth 100000 in
theorem rbody_s81 (w : World) (a : Ask) (kv vv av nv fv : Value) (hk : a.kind = 81) (f : Few a) :
    Calls Try.prog 20 #[.agg (askV a kv vv av nv fv)] w fun e w' => e = .returned (.string (ba (txt a.sql))) ∧ Below w.heap.size w w' := by
  have n1 := f.name
  have n2 := f.portal
  have n3 := f.sql
  have e0 : (ba [] : ByteArray) = ⟨#[]⟩ := rfl
  have hku : u8 a.kind = .int .u8 81 := by rw [hk]; rfl
  clear hk f
  unfold askV
  rw [hku]
  clear hku
  have hc := fun w => putT [] a.sql w (by simp) n3
  rw [e0] at hc
  have HC := Lib.hid hc
  clear hc
  go_enter Try.func20, Try.ntmps20
  go_wp2_with fail
  refine (HC.out _).mono ?_; rintro e w1 ⟨rfl, rfl⟩
  go_wp2
  go_ret
  exact ⟨rfl, (Below.refl _ _).alloc (Nat.le_refl _) _⟩
set_option maxHeartbeats 2000000 in
set_option maxRecDepth 100000 in
theorem rbody_n88 (w : World) (a : Ask) (kv vv av nv fv : Value) (hk : a.kind = 88) (f : Few a) :
    Calls Try.prog 20 #[.agg (askV a kv vv av nv fv)] w fun e w' => e = .returned (.string (ba ([]))) ∧ Below w.heap.size w w' := by
  have n1 := f.name
  have n2 := f.portal
  have n3 := f.sql
  have e0 : (ba [] : ByteArray) = ⟨#[]⟩ := rfl
  have hku : u8 a.kind = .int .u8 88 := by rw [hk]; rfl
  clear hk f
  unfold askV
  rw [hku]
  clear hku
  go_enter Try.func20, Try.ntmps20
  go_wp2
  go_ret
  exact ⟨rfl, (Below.refl _ _).alloc (Nat.le_refl _) _⟩
set_option maxHeartbeats 2000000 in
set_option maxRecDepth 100000 in
theorem rbody_n83 (w : World) (a : Ask) (kv vv av nv fv : Value) (hk : a.kind = 83) (f : Few a) :
    Calls Try.prog 20 #[.agg (askV a kv vv av nv fv)] w fun e w' => e = .returned (.string (ba ([]))) ∧ Below w.heap.size w w' := by
  have n1 := f.name
  have n2 := f.portal
  have n3 := f.sql
  have e0 : (ba [] : ByteArray) = ⟨#[]⟩ := rfl
  have hku : u8 a.kind = .int .u8 83 := by rw [hk]; rfl
  clear hk f
  unfold askV
  rw [hku]
  clear hku
  go_enter Try.func20, Try.ntmps20
  go_wp2
  go_ret
  exact ⟨rfl, (Below.refl _ _).alloc (Nat.le_refl _) _⟩
set_option maxHeartbeats 2000000 in
set_option maxRecDepth 100000 in
theorem rbody_n72 (w : World) (a : Ask) (kv vv av nv fv : Value) (hk : a.kind = 72) (f : Few a) :
    Calls Try.prog 20 #[.agg (askV a kv vv av nv fv)] w fun e w' => e = .returned (.string (ba ([]))) ∧ Below w.heap.size w w' := by
  have n1 := f.name
  have n2 := f.portal
  have n3 := f.sql
  have e0 : (ba [] : ByteArray) = ⟨#[]⟩ := rfl
  have hku : u8 a.kind = .int .u8 72 := by rw [hk]; rfl
  clear hk f
  unfold askV
  rw [hku]
  clear hku
  go_enter Try.func20, Try.ntmps20
  go_wp2
  go_ret
  exact ⟨rfl, (Below.refl _ _).alloc (Nat.le_refl _) _⟩
set_option maxHeartbeats 2000000 in
set_option maxRecDepth 100000 in
theorem rbody_p (w : World) (a : Ask) (kv vv av nv fv : Value) (hk : a.kind = 80) (f : Few a) :
    Calls Try.prog 20 #[.agg (askV a kv vv av nv fv)] w fun e w' => e = .returned (.string (ba (txt a.name ++ (txt a.sql ++ n16 0)))) ∧ Below w.heap.size w w' := by
  have n1 := f.name
  have n2 := f.portal
  have n3 := f.sql
  have e0 : (ba [] : ByteArray) = ⟨#[]⟩ := rfl
  have hku : u8 a.kind = .int .u8 80 := by rw [hk]; rfl
  clear hk f
  unfold askV
  rw [hku]
  clear hku
  have tl := txt_len a.name
  have hc := fun w => putT [] a.name w (by simp) n1
  have hd := fun w => putT ([] ++ txt a.name) a.sql w (by simp; omega) n3
  rw [e0] at hc
  have HC := Lib.hid hc
  have HD := Lib.hid hd
  rw [show ba (txt a.name ++ (txt a.sql ++ n16 0)) = ba ([] ++ txt a.name ++ txt a.sql) ++ ⟨#[0, 0]⟩ by
    rw [show (⟨#[0, 0]⟩ : ByteArray) = ba (n16 0) from rfl, ba_append]; simp]
  clear hc hd
  have hz2 : (ba ([] ++ txt a.name ++ txt a.sql)).size ≤ 30000 := by have := txt_len a.sql; rw [ba_size]; simp; omega
  generalize ba ([] ++ txt a.name ++ txt a.sql) = r2 at *
  generalize ba ([] ++ txt a.name) = r1 at *
  generalize ba a.name = t1 at *
  generalize ba a.sql = t2 at *
  clear tl n1 n2 n3 e0
  go_enter Try.func20, Try.ntmps20
  go_wp2
  go_region_with (first
    | (go_at_call 48; (with_reducible refine (HC.out _).mono ?_); rintro e w1 ⟨rfl, rfl⟩)
    | (go_at_call 48; (with_reducible refine (HD.out _).mono ?_); rintro e w1 ⟨rfl, rfl⟩))
  all_goals
    go_wp2
    go_ret
    exact ⟨rfl, below_box _ _ 1⟩
set_option maxHeartbeats 2000000 in
set_option maxRecDepth 100000 in
theorem rbody_d68 (w : World) (a : Ask) (kv vv av nv fv : Value) (hk : a.kind = 68) (f : Few a) :
    Calls Try.prog 20 #[.agg (askV a kv vv av nv fv)] w fun e w' => e = .returned (.string (ba ([a.what] ++ txt a.name))) ∧ Below w.heap.size w w' := by
  have n1 := f.name
  have n2 := f.portal
  have n3 := f.sql
  have e0 : (ba [] : ByteArray) = ⟨#[]⟩ := rfl
  have hku : u8 a.kind = .int .u8 68 := by rw [hk]; rfl
  clear hk f
  unfold askV
  rw [hku]
  clear hku
  unfold u8
  have hc := fun w => putT [a.what] a.name w (by simp) n1
  have HC := Lib.hid hc
  clear hc
  have hconv : (convert 68 9 (.slice (some ⟨w.heap.size + 1, 0, none⟩) 1 1)).run Try.prog ((w.alloc (.cells #[.int .u8 68, .string (ba a.name), .string (ba a.portal), .string (ba a.sql), kv, vv, av, nv, fv, .int .i64 a.most, .int .u8 (a.what.toNat : Int), .bool a.cancel, .int .i64 a.pid, .int .i64 a.secret] 29)).alloc (.cells #[.int .u8 (a.what.toNat : Int)] 5)) = .ok (.string (ba [a.what])) ((w.alloc (.cells #[.int .u8 68, .string (ba a.name), .string (ba a.portal), .string (ba a.sql), kv, vv, av, nv, fv, .int .i64 a.most, .int .u8 (a.what.toNat : Int), .bool a.cancel, .int .i64 a.pid, .int .i64 a.secret] 29)).alloc (.cells #[.int .u8 (a.what.toNat : Int)] 5)) := by
    refine run_convert_bytes_back (P := Try.prog) _ 68 9 5 _ 1 [a.what] Try.underlying68 Try.underlying5 Try.underlying9 ?_
    intro j hj
    match j, hj with
    | 0, _ => simp [Addr.add, go_sem]
  generalize ba [a.what] = r0 at *
  go_enter Try.func20, Try.ntmps20
  go_wp2_with fail
  refine (HC.out _).mono ?_; rintro e w1 ⟨rfl, rfl⟩
  go_wp2
  go_ret
  exact ⟨rfl, ((Below.refl _ _).alloc (Nat.le_refl _) _).alloc (by simp) _⟩
set_option maxHeartbeats 2000000 in
set_option maxRecDepth 100000 in
theorem rbody_d67 (w : World) (a : Ask) (kv vv av nv fv : Value) (hk : a.kind = 67) (f : Few a) :
    Calls Try.prog 20 #[.agg (askV a kv vv av nv fv)] w fun e w' => e = .returned (.string (ba ([a.what] ++ txt a.name))) ∧ Below w.heap.size w w' := by
  have n1 := f.name
  have n2 := f.portal
  have n3 := f.sql
  have e0 : (ba [] : ByteArray) = ⟨#[]⟩ := rfl
  have hku : u8 a.kind = .int .u8 67 := by rw [hk]; rfl
  clear hk f
  unfold askV
  rw [hku]
  clear hku
  unfold u8
  have hc := fun w => putT [a.what] a.name w (by simp) n1
  have HC := Lib.hid hc
  clear hc
  have hconv : (convert 68 9 (.slice (some ⟨w.heap.size + 1, 0, none⟩) 1 1)).run Try.prog ((w.alloc (.cells #[.int .u8 67, .string (ba a.name), .string (ba a.portal), .string (ba a.sql), kv, vv, av, nv, fv, .int .i64 a.most, .int .u8 (a.what.toNat : Int), .bool a.cancel, .int .i64 a.pid, .int .i64 a.secret] 29)).alloc (.cells #[.int .u8 (a.what.toNat : Int)] 5)) = .ok (.string (ba [a.what])) ((w.alloc (.cells #[.int .u8 67, .string (ba a.name), .string (ba a.portal), .string (ba a.sql), kv, vv, av, nv, fv, .int .i64 a.most, .int .u8 (a.what.toNat : Int), .bool a.cancel, .int .i64 a.pid, .int .i64 a.secret] 29)).alloc (.cells #[.int .u8 (a.what.toNat : Int)] 5)) := by
    refine run_convert_bytes_back (P := Try.prog) _ 68 9 5 _ 1 [a.what] Try.underlying68 Try.underlying5 Try.underlying9 ?_
    intro j hj
    match j, hj with
    | 0, _ => simp [Addr.add, go_sem]
  generalize ba [a.what] = r0 at *
  go_enter Try.func20, Try.ntmps20
  go_wp2_with fail
  refine (HC.out _).mono ?_; rintro e w1 ⟨rfl, rfl⟩
  go_wp2
  go_ret
  exact ⟨rfl, ((Below.refl _ _).alloc (Nat.le_refl _) _).alloc (by simp) _⟩
set_option maxHeartbeats 2000000 in
set_option maxRecDepth 100000 in
theorem rbody_e (w : World) (a : Ask) (kv vv av nv fv : Value) (hk : a.kind = 69) (f : Few a) :
    Calls Try.prog 20 #[.agg (askV a kv vv av nv fv)] w fun e w' => e = .returned (.string (ba (txt a.portal ++ n32 a.most))) ∧ Below w.heap.size w w' := by
  have n1 := f.name
  have n2 := f.portal
  have n3 := f.sql
  have e0 : (ba [] : ByteArray) = ⟨#[]⟩ := rfl
  have hku : u8 a.kind = .int .u8 69 := by rw [hk]; rfl
  clear hk f
  unfold askV
  rw [hku]
  clear hku
  have tl := txt_len a.portal
  have hc := fun w => putT [] a.portal w (by simp) n2
  have hd := fun w => put4 ([] ++ txt a.portal) a.most w (by simp; omega)
  rw [e0] at hc
  have HC := Lib.hid hc
  have HD := Lib.hid hd
  rw [show ba (txt a.portal ++ n32 a.most) = ba ([] ++ txt a.portal ++ n32 a.most) from rfl]
  clear hc hd
  generalize ba ([] ++ txt a.portal ++ n32 a.most) = r2 at *
  generalize ba ([] ++ txt a.portal) = r1 at *
  go_enter Try.func20, Try.ntmps20
  go_wp2
  go_region_with (first
    | (go_at_call 48; refine (HC.out _).mono ?_; rintro e w1 ⟨rfl, rfl⟩)
    | (go_at_call 47; refine (HD.out _).mono ?_; rintro e w2 ⟨rfl, hb2⟩; have hfin := below_put hb2; clear hb2))
  all_goals
    go_wp2
    go_ret
    exact ⟨rfl, hfin⟩
end Go.Proofs.Ytojgeilihoilnaa
