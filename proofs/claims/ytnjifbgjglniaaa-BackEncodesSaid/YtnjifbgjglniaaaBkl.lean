/- What package back's writers write: fields. Condition: what is told is of at most so many and so long texts (Few). -/
import Derived.Test.YtnjifbgjglniaaaBkk
namespace Go.Proofs.Ytnjifbgjglniaaa.BK
open Go.Proofs.Ytnjifbgjglniaaa
open Go.ChangeShapes Go.WideShapes Go.ChangeAt Go.RowKit
set_option linter.unusedVariables false
set_option maxRecDepth 100000
attribute [local go_sem ↓] Go.wp_at_zero Go.wp_at_succ
section
variable (a : Tell) (kv vv nv : Value) (w : World)
set_option maxHeartbeats 1000000 in
theorem wfields_any (f : Few a) (hv : LR (fun b => b < w.heap.size) w kv (strs a.keys)) (hn : LR (fun b => b < w.heap.size) w vv (strs a.vals)) : Calls Try.prog 52 #[.agg (tellV a kv vv nv)] w (WrP (bodyD .fields a) w) := by
  obtain ⟨A4, c4, rfl, hc1, hc2⟩ := hv.form
  obtain ⟨A5, c5, rfl, hc3, hc4⟩ := hn.form
  rw [strs_len] at hv hc1
  rw [strs_len] at hn hc3
  have HV := Lib.hid hv
  have HN := Lib.hid hn
  have HF := Lib.hid f
  have hL1 := f.keys
  have hL2 := f.vals
  clear hv hn hc1 hc2 hc3 hc4
  obtain ⟨n, hnn⟩ : ∃ n : Nat, n = min a.keys.length a.vals.length := ⟨_, rfl⟩
  have hmin : (min (a.keys.length : Int) (a.vals.length : Int)) = (n : Int) := by omega
  have hn1 : n ≤ 200 := by omega
  have HM1 := Lib.hid (show n ≤ a.keys.length by omega)
  have HM2 := Lib.hid (show n ≤ a.vals.length by omega)
  have e1 : bodyD .fields a = fldW (a.keys.take n) (a.vals.take n) ++ [0] := by
    show fldW a.keys a.vals ++ [0] = _
    rw [← fldW_min a.keys a.vals, ← hnn]
  have HE1 := Lib.hid e1
  clear hnn e1
  have d0 := fun w => putText_any (ba []) (ba []) w (by rw [ba_size]; simp) (by rw [ba_size]; simp)
  rw [putText_ba, List.nil_append, show ba [] = ⟨#[]⟩ from rfl, show txt [] = [0] from rfl] at d0
  unfold tellV u8
  simp only [strs_len]
  obtain ⟨cs, hcs⟩ : ∃ cs : Array Value, cs = #[.int .u8 (a.kind.toNat : Int), .int .u8 (a.status.toNat : Int), .string (ba a.text), .slice A4 a.keys.length c4, .slice A5 a.vals.length c5, nv, .int .i64 a.n, .int .i64 a.m] := ⟨_, rfl⟩
  have hI := Wb.new (w := w) (w1 := w.alloc (.cells cs 28)) (Blk.new w _ cs) (Nat.le_refl _) ((Below.refl _ _).alloc (Nat.le_refl _) _)
  rw [show (w.alloc (.cells cs 28)).heap.size = w.heap.size + 1 by simp] at hI
  have HC4 : Hid (cs[3]? = some (.slice A4 a.keys.length c4)) := Lib.hid (by rw [hcs]; rfl)
  have HC5 : Hid (cs[4]? = some (.slice A5 a.vals.length c5)) := Lib.hid (by rw [hcs]; rfl)
  have HCS := Lib.hid hcs
  clear hcs
  go_enter Try.func52, Try.ntmps52
  go_wp2
  rw [← HCS.out]
  go_loopw [12] (fun i wr => ∃ k : Nat, k ≤ n ∧ i = .int .i64 k ∧ Wb w w.heap.size (w.heap.size + 1) cs (fldW (a.keys.take k) (a.vals.take k)) wr) (fun i _ => n - (intOf i).toNat)
  case atStart => exact ⟨0, Nat.zero_le _, rfl, by simpa [fldW] using hI⟩
  case round =>
    obtain ⟨k, hk, rfl, hI1⟩ := hrel
    clear hI
    by_cases hlt : k < n
    · have hlv : k < a.keys.length := Nat.lt_of_lt_of_le hlt HM1.out
      have hln : k < a.vals.length := Nat.lt_of_lt_of_le hlt HM2.out
      obtain ⟨p, o, rfl, hp, hg⟩ := HV.out.addr (ne_strs hlv)
      obtain ⟨q, r, rfl, hq, hg2⟩ := HN.out.addr (ne_strs hln)
      have x := hg k _ (strs_get a.keys k hlv)
      have y := hg2 k _ (strs_get a.vals k hln)
      rw [← (bcell hI1.bel).1 p _ hp] at x
      rw [← (bcell hI1.bel).1 q _ hq] at y
      have x4 := (hI1.cell 3).trans HC4.out
      have x5 := (hI1.cell 4).trans HC5.out
      have HS := Lib.hid (fldW_step a.keys a.vals k hlv hln)
      have hz : (fldW (a.keys.take k) (a.vals.take k)).length ≤ 5000000 := by
        have h1 := fldW_size (a.keys.take k) (a.vals.take k) (fun t ht => HF.out.keysT t (List.mem_of_mem_take ht)) (fun t ht => HF.out.valsT t (List.mem_of_mem_take ht))
        have h2 : (a.keys.take k).length ≤ 200 := by rw [List.length_take]; omega
        have h3 := Nat.mul_le_mul_right 20001 h2
        omega
      have hz1 := HF.out.keysT a.keys[k] (List.getElem_mem _)
      have hz2 := HF.out.valsT a.vals[k] (List.getElem_mem _)
      have hsz1 : (ba a.keys[k]).size ≤ 10000 := by rw [ba_size]; exact hz1
      have hsz2 : (ba a.vals[k]).size ≤ 10000 := by rw [ba_size]; exact hz2
      have hcat : ba a.keys[k] ++ ba a.vals[k] = ba (a.keys[k] ++ a.vals[k]) := by apply ba_ext; rw [ba_list]; simp [ba_list, ByteArray.data_append, Array.toList_append]
      have hz3 := txt_len (a.keys[k] ++ a.vals[k])
      rw [List.length_append] at hz3
      have d2 := fun w => putText_any (ba []) (ba (a.keys[k] ++ a.vals[k])) w (by rw [ba_size]; simp) (by rw [ba_size, List.length_append]; omega)
      rw [putText_ba, List.nil_append, show ba [] = ⟨#[]⟩ from rfl, ← hcat] at d2
      have HZ := Lib.hid (show (fldW (a.keys.take k) (a.vals.take k)).length + (txt (a.keys[k] ++ a.vals[k])).length ≤ 140737488355328 by omega)
      have hid : Wb w w.heap.size (w.heap.size + 1) cs (fldW (a.keys.take k) (a.vals.take k)) wr.drew := hI1.step (Below.refl _ _).drew
      clear hz hz1 hz2 hz3 hg hg2 hcat
      generalize txt (a.keys[k] ++ a.vals[k]) = T at *
      go_wp2_with fail
      go_region_with (first
        | (go_at_call 78; refine (d2 _).mono ?_; rintro e w5 ⟨rfl, hb5⟩; have hI5 := hid.step hb5)
        | (go_at_call 32; refine (hI5.write _ HZ.out).mono ?_; rintro e w6 ⟨rfl, hI6⟩))
      all_goals
        go_wp2
        go_roundw
        case rel => exact ⟨k + 1, by omega, by go_num, by rw [HS.out]; exact hI6⟩
        case measure => simp [intOf]; omega
    · have e : k = n := by omega
      subst e
      go_wp2_with fail
      refine (d0 _).mono ?_; rintro e w2 ⟨rfl, hb2⟩
      have hI2 := hI1.step hb2
      go_wp2_with fail
      refine (hI2.write _ (by
        have h1 := fldW_size (a.keys.take k) (a.vals.take k) (fun t ht => HF.out.keysT t (List.mem_of_mem_take ht)) (fun t ht => HF.out.valsT t (List.mem_of_mem_take ht))
        have h2 : (a.keys.take k).length ≤ 200 := by rw [List.length_take]; omega
        have h3 := Nat.mul_le_mul_right 20001 h2
        simp only [List.length_cons, List.length_nil]
        omega)).mono ?_; rintro e w3 ⟨rfl, hI3⟩
      go_wp2_with fail
      refine hI3.str.mono ?_; rintro e w4 ⟨rfl, hb4⟩
      go_wp2
      go_ret
      refine ⟨?_, hb4⟩
      rw [HE1.out]; rfl
end
end Go.Proofs.Ytnjifbgjglniaaa.BK
