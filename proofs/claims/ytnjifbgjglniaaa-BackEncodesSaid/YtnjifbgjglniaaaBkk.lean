/- What package back's writers write: row, fields. Condition: what is told is of at most so many and so long texts (Few). -/
import Derived.Test.YtnjifbgjglniaaaBkj
namespace Go.Proofs.Ytnjifbgjglniaaa.BK
open Go.Proofs.Ytnjifbgjglniaaa
open Go.ChangeShapes Go.WideShapes Go.ChangeAt Go.RowKit
set_option linter.unusedVariables false
set_option maxRecDepth 100000
attribute [local go_sem ↓] Go.wp_at_zero Go.wp_at_succ

theorem argsW_step (az : List Tx) : ∀ (ns : List Bool) (k : Nat) (h1 : k < az.length) (h2 : k < ns.length), argsW (az.take (k + 1)) (ns.take (k + 1)) = argsW (az.take k) (ns.take k) ++ argW az[k] ns[k] := by
  induction az with
  | nil => intro ns k h1; simp at h1
  | cons a az ih =>
    intro ns k h1 h2
    match ns, k, h1, h2 with
    | b :: ns, 0, h1, h2 => simp [argsW]
    | b :: ns, k + 1, h1, h2 =>
      have := ih ns k (by simpa using h1) (by simpa using h2)
      simp only [List.take_succ_cons, argsW_cons, List.getElem_cons_succ] at this ⊢
      rw [this, List.append_assoc]
theorem argsW_min (az : List Tx) : ∀ (ns : List Bool), argsW (az.take (min az.length ns.length)) (ns.take (min az.length ns.length)) = argsW az ns := by
  induction az with
  | nil => intro ns; simp [argsW]
  | cons a az ih =>
    intro ns
    match ns with
    | [] => simp [argsW]
    | b :: ns =>
      have := ih ns
      simp only [List.length_cons, Nat.succ_min_succ, List.take_succ_cons, argsW_cons]
      rw [this]
theorem argsW_size (az : List Tx) : ∀ (ns : List Bool), (∀ t ∈ az, t.length ≤ 10000) → (argsW az ns).length ≤ az.length * 10004 := by
  induction az with
  | nil => intro ns h; simp [argsW]
  | cons a az ih =>
    intro ns h
    match ns with
    | [] => simp [argsW]
    | b :: ns =>
      have h1 := h a (by simp)
      have h2 := ih ns (fun t ht => h t (by simp [ht]))
      have h3 : (argW a b).length ≤ 10004 := by cases b; rw [argW_false, List.length_append, n32_len]; omega; rw [argW_true, n32_len]; omega
      rw [argsW_cons, List.length_append, List.length_cons]; omega
theorem fldW_step (az : List Tx) : ∀ (ns : List Tx) (k : Nat) (h1 : k < az.length) (h2 : k < ns.length), fldW (az.take (k + 1)) (ns.take (k + 1)) = fldW (az.take k) (ns.take k) ++ txt (az[k] ++ ns[k]) := by
  induction az with
  | nil => intro ns k h1; simp at h1
  | cons a az ih =>
    intro ns k h1 h2
    match ns, k, h1, h2 with
    | b :: ns, 0, h1, h2 => simp [fldW]
    | b :: ns, k + 1, h1, h2 =>
      have := ih ns k (by simpa using h1) (by simpa using h2)
      simp only [List.take_succ_cons, fldW, List.getElem_cons_succ] at this ⊢
      rw [this, List.append_assoc]
theorem fldW_min (az : List Tx) : ∀ (ns : List Tx), fldW (az.take (min az.length ns.length)) (ns.take (min az.length ns.length)) = fldW az ns := by
  induction az with
  | nil => intro ns; simp [fldW]
  | cons a az ih =>
    intro ns
    match ns with
    | [] => simp [fldW]
    | b :: ns =>
      have := ih ns
      simp only [List.length_cons, Nat.succ_min_succ, List.take_succ_cons, fldW]
      rw [this]
theorem fldW_size (az : List Tx) : ∀ (ns : List Tx), (∀ t ∈ az, t.length ≤ 10000) → (∀ t ∈ ns, t.length ≤ 10000) → (fldW az ns).length ≤ az.length * 20001 := by
  induction az with
  | nil => intro ns h; simp [fldW]
  | cons a az ih =>
    intro ns h hn
    match ns with
    | [] => simp [fldW]
    | b :: ns =>
      have h1 := h a (by simp)
      have h0 := hn b (by simp)
      have h2 := ih ns (fun t ht => h t (by simp [ht])) (fun t ht => hn t (by simp [ht]))
      have h3 := txt_len (a ++ b)
      rw [List.length_append] at h3
      simp only [fldW]
      rw [List.length_append, List.length_cons]; omega
section
variable (a : Tell) (kv vv nv : Value) (w : World)
set_option maxHeartbeats 1000000 in
theorem wrow_any (f : Few a) (hv : LR (fun b => b < w.heap.size) w vv (strs a.vals)) (hn : LR (fun b => b < w.heap.size) w nv (bools a.null)) : Calls Try.prog 50 #[.agg (tellV a kv vv nv)] w (WrP (bodyD .row a) w) := by
  obtain ⟨A4, c4, rfl, hc1, hc2⟩ := hv.form
  obtain ⟨A5, c5, rfl, hc3, hc4⟩ := hn.form
  rw [strs_len] at hv hc1
  rw [bools_len] at hn hc3
  have HV := Lib.hid hv
  have HN := Lib.hid hn
  have HF := Lib.hid f
  have hL1 := f.vals
  have hL2 := f.null
  clear hv hn hc1 hc2 hc3 hc4
  obtain ⟨n, hnn⟩ : ∃ n : Nat, n = min a.vals.length a.null.length := ⟨_, rfl⟩
  have hmin : (min (a.vals.length : Int) (a.null.length : Int)) = (n : Int) := by omega
  have hn1 : n ≤ 200 := by omega
  have HM1 := Lib.hid (show n ≤ a.vals.length by omega)
  have HM2 := Lib.hid (show n ≤ a.null.length by omega)
  have e1 : bodyD .row a = n16 (n : Int) ++ argsW (a.vals.take n) (a.null.take n) := by
    show n16 (min a.vals.length a.null.length : Nat) ++ argsW a.vals a.null = _
    rw [← argsW_min a.vals a.null, ← hnn]
  have HE1 := Lib.hid e1
  clear hnn e1
  unfold tellV u8
  simp only [strs_len, bools_len]
  obtain ⟨cs, hcs⟩ : ∃ cs : Array Value, cs = #[.int .u8 (a.kind.toNat : Int), .int .u8 (a.status.toNat : Int), .string (ba a.text), kv, .slice A4 a.vals.length c4, .slice A5 a.null.length c5, .int .i64 a.n, .int .i64 a.m] := ⟨_, rfl⟩
  have hI := Wb.new (w := w) (w1 := w.alloc (.cells cs 28)) (Blk.new w _ cs) (Nat.le_refl _) ((Below.refl _ _).alloc (Nat.le_refl _) _)
  rw [show (w.alloc (.cells cs 28)).heap.size = w.heap.size + 1 by simp] at hI
  have HC4 : Hid (cs[4]? = some (.slice A4 a.vals.length c4)) := Lib.hid (by rw [hcs]; rfl)
  have HC5 : Hid (cs[5]? = some (.slice A5 a.null.length c5)) := Lib.hid (by rw [hcs]; rfl)
  have hI0 := hI
  rw [hcs] at hI0
  have HCS := Lib.hid hcs
  clear hcs
  go_enter Try.func50, Try.ntmps50
  go_wp2_with fail
  rw [← HCS.out]
  refine (two_any _ _).mono ?_; rintro e w2 ⟨rfl, hb2⟩
  have hI2 := hI.step hb2
  clear hI hI0 hb2
  go_wp2_with fail
  refine (putTwo_any _ _).mono ?_; rintro e w3 ⟨rfl, hb3⟩
  have hI3 := hI2.step hb3
  clear hI2 hb3
  go_wp2_with fail
  refine (hI3.write _ (by rw [n16_len]; simp)).mono ?_; rintro e w4 ⟨rfl, hI4⟩
  clear hI3
  rw [List.nil_append] at hI4
  have hN := n16_len (n : Int)
  have e1 := HE1.out
  clear HE1
  generalize n16 (n : Int) = N at *
  have HE1 := Lib.hid e1
  clear e1 hmin
  go_wp2
  go_loopw [19] (fun i wr => ∃ k : Nat, k ≤ n ∧ i = .int .i64 k ∧ Wb w w.heap.size (w.heap.size + 1) cs (N ++ argsW (a.vals.take k) (a.null.take k)) wr) (fun i _ => n - (intOf i).toNat)
  case atStart => exact ⟨0, Nat.zero_le _, rfl, by simpa [argsW] using hI4⟩
  case round =>
    obtain ⟨k, hk, rfl, hI⟩ := hrel
    clear hI4
    by_cases hlt : k < n
    · have hlv : k < a.vals.length := Nat.lt_of_lt_of_le hlt HM1.out
      have hln : k < a.null.length := Nat.lt_of_lt_of_le hlt HM2.out
      obtain ⟨p, o, rfl, hp, hg⟩ := HV.out.addr (ne_strs hlv)
      obtain ⟨q, r, rfl, hq, hg2⟩ := HN.out.addr (ne_bools hln)
      have x := hg k _ (strs_get a.vals k hlv)
      have y := hg2 k _ (bools_get a.null k hln)
      rw [← (bcell hI.bel).1 p _ hp] at x
      rw [← (bcell hI.bel).1 q _ hq] at y
      have x4 := (hI.cell 4).trans HC4.out
      have x5 := (hI.cell 5).trans HC5.out
      have HS := Lib.hid (argsW_step a.vals a.null k hlv hln)
      have hz : (argsW (a.vals.take k) (a.null.take k)).length ≤ 3000000 := by
        have h1 := argsW_size (a.vals.take k) (a.null.take k) (fun t ht => HF.out.valsT t (List.mem_of_mem_take ht))
        have h2 : (a.vals.take k).length ≤ 200 := by rw [List.length_take]; omega
        have h3 := Nat.mul_le_mul_right 10004 h2
        omega
      have hz2 := HF.out.valsT a.vals[k] (List.getElem_mem _)
      have hsz : (ba a.vals[k]).size ≤ 10000 := by rw [ba_size]; exact hz2
      have HSZ : Hid (((ba a.vals[k]).size : Int) = (a.vals[k].length : Int)) := Lib.hid (by rw [ba_size])
      have hbel := hI.bel
      clear hg hg2
      by_cases hnull : a.null[k] = true
      · rw [hnull] at y
        have HZ := Lib.hid (show (N ++ argsW (a.vals.take k) (a.null.take k)).length + (n32 (-1)).length ≤ 140737488355328 by rw [List.length_append, n32_len]; omega)
        have HNU := Lib.hid hnull
        clear hnull hz hz2
        go_wp2_with fail
        refine (four_any _ _).mono ?_; rintro e w5 ⟨rfl, hb5⟩
        have hI5 := hI.step hb5
        clear hb5 hI x4 x5 x y
        go_wp2_with fail
        refine (putFour_any _ _).mono ?_; rintro e w6 ⟨rfl, hb6⟩
        have hI6 := hI5.step hb6
        clear hb6 hI5
        go_wp2_with fail
        refine (hI6.write _ HZ.out).mono ?_; rintro e w7 ⟨rfl, hI7⟩
        clear hI6
        go_wp2
        go_roundw
        case rel => exact ⟨k + 1, by omega, by go_num, by rw [HS.out, HNU.out, argW_true]; simpa using hI7⟩
        case measure => simp [intOf]; omega
      · have hnull : a.null[k] = false := by simpa using hnull
        rw [hnull] at y
        have HZ := Lib.hid (show (N ++ argsW (a.vals.take k) (a.null.take k)).length + (n32 ((ba a.vals[k]).size : Int)).length ≤ 140737488355328 by rw [List.length_append, n32_len]; omega)
        have HZ2 := Lib.hid (show (N ++ argsW (a.vals.take k) (a.null.take k) ++ n32 ((ba a.vals[k]).size : Int)).length + a.vals[k].length ≤ 140737488355328 by rw [List.length_append, List.length_append, n32_len]; omega)
        have HNU := Lib.hid hnull
        clear hnull hz hz2
        go_wp2_with fail
        refine (four_any _ _).mono ?_; rintro e w5 ⟨rfl, hb5⟩
        have hI5 := hI.step hb5
        clear hb5 hI
        go_wp2_with fail
        refine (putFour_any _ _).mono ?_; rintro e w6 ⟨rfl, hb6⟩
        have hI6 := hI5.step hb6
        clear hb6 hI5
        go_wp2_with fail
        refine (hI6.write _ HZ.out).mono ?_; rintro e w7 ⟨rfl, hI7⟩
        clear hI6 x4 x5
        have x4 := (hI7.cell 4).trans HC4.out
        rw [(bcell hbel).1 p _ hp, ← (bcell hI7.bel).1 p _ hp] at x
        go_wp2_with fail
        refine (hI7.write _ HZ2.out).mono ?_; rintro e w8 ⟨rfl, hI8⟩
        clear hI7
        go_wp2
        go_roundw
        case rel => exact ⟨k + 1, by omega, by go_num, by rw [HS.out, HNU.out, argW_false, ← HSZ.out]; simpa using hI8⟩
        case measure => simp [intOf]; omega
    · have e : k = n := by omega
      subst e
      go_wp2_with fail
      refine hI.str.mono ?_; rintro e w2 ⟨rfl, hb2⟩
      go_wp2
      go_ret
      refine ⟨?_, hb2⟩
      rw [HE1.out]; rfl
end
end Go.Proofs.Ytnjifbgjglniaaa.BK
