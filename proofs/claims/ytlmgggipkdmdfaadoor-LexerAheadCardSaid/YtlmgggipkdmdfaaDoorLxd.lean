/- What package lexer's readers of rows answer: gap, num, sign, param; the package strings that they call. Condition: none but a text's length. -/
import Derived.Test.YtlmgggipkdmdfaaDoorLxb
import Derived.Test.YtlmgggipkdmdfaaDoorShelf
import Derived.WalkMore
import Derived.BigQuiet
import Derived.Deep.RegionWith
import Derived.Deep.RegionHeld3
import Derived.Deep.QuietTactic
namespace Go.Proofs.YtlmgggipkdmdfaaDoor
open Go.ChangeShapes Go.WideShapes Go.ChangeAt Go.RowKit
set_option linter.unusedVariables false
set_option linter.unusedSimpArgs false

abbrev pcV (k : Int) (t : ByteArray) (n : Int) : Value := .agg #[.int .i64 k, .string t, .int .i64 n]
theorem bcell {W w1 : World} (hb : Below W.heap.size W w1) : (∀ b o, b < W.heap.size → w1.cell? ⟨b, o, none⟩ = W.cell? ⟨b, o, none⟩) ∧ (∀ b o, b < W.heap.size → w1.frozen? ⟨b, o, none⟩ = W.frozen? ⟨b, o, none⟩) :=
  ⟨fun b o h => hb.cell (p := ⟨b, o, none⟩) h, fun b o h => hb.frozen (p := ⟨b, o, none⟩) h⟩
theorem clone_any (s : ByteArray) (w : World) (hs : s.size ≤ 281474976710656) :
    Calls Tryd.prog 20 #[.string s] w fun e w' => e = .returned (.string s) ∧ Below w.heap.size w w' := by
  have c := fun w => Tryd.stringslite_Clone s w (by omega)
  go_enter Tryd.func20, Tryd.ntmps20
  go_wp2_with (go_at_call 46; refine (c _).mono ?_; rintro e w' ⟨rfl, hb⟩)
  go_ret
  exact ⟨rfl, hb⟩
theorem weak_ {f : Nat} {t : Int → Bool} (h : ∀ (n : Int) (w : World), Calls Tryd.prog f #[.int .i32 n] w fun e w' => e = .returned (.bool (t n)) ∧ w' = w) :
    ∀ (n : Int) (w : World), Calls Tryd.prog f #[.int .i32 n] w fun e w' => e = .returned (.bool (t n)) ∧ Below w.heap.size w w' :=
  fun n w => (h n w).mono fun e w' hh => ⟨hh.1, by rw [hh.2]; exact Below.refl _ _⟩
theorem gap_any (s : ByteArray) (w : World) :
    Calls Tryd.prog 26 #[.string s] w fun e w' => e = .returned (pcV 0 ⟨#[]⟩ (rowL fiveQ s.data.toList : Nat)) ∧ Below w.heap.size w w' := by
  have hr := fun w => row_blank fiveB fiveQ false (Lib.hid kin_blank) s w (Lib.hid blank_any)
  obtain ⟨n, hn⟩ : ∃ n, rowL fiveQ s.data.toList = n := ⟨_, rfl⟩
  simp only [hn] at hr
  rw [hn]
  have HR := Lib.hid hr
  clear hr hn
  go_enter Tryd.func26, Tryd.ntmps26
  go_wp2_with (go_at_call 49; refine (HR.out _).mono ?_; rintro e w1 ⟨rfl, hb1⟩; obtain ⟨hcc, hff⟩ := bcell hb1)
  have hB : Below w.heap.size w w1 := ((Below.refl _ _).alloc (Nat.le_refl _) _).trans (hb1.mono (by simp))
  refine bodyPost_ret (v := pcV 0 ⟨#[]⟩ (n : Nat)) (by simp [results, Tryd.results26, go_sem, hcc, hff]) rfl ?_
  refine ⟨rfl, ((hB.setCell ?_ _).setCell ?_ _).setCell ?_ _⟩ <;> exact Nat.le_refl _
/-- the block of a piece that a function has made, as it was made; nothing older is changed -/
structure Own3 (w w1 : World) : Prop where
  bel : Below w.heap.size w w1
  lt : w.heap.size < w1.heap.size
  k0 : w1.cell? ⟨w.heap.size, 0, none⟩ = some (.int .i64 0)
  k1 : w1.cell? ⟨w.heap.size, 1, none⟩ = some (.string ⟨#[]⟩)
  k2 : w1.cell? ⟨w.heap.size, 2, none⟩ = some (.int .i64 0)
  f0 : w1.frozen? ⟨w.heap.size, 0, none⟩ = false
  f1 : w1.frozen? ⟨w.heap.size, 1, none⟩ = false
  f2 : w1.frozen? ⟨w.heap.size, 2, none⟩ = false
theorem Own3.new (w : World) : Own3 w (w.alloc (.cells #[.int .i64 0, .string ⟨#[]⟩, .int .i64 0] 39)) :=
  ⟨(Below.refl _ _).alloc (Nat.le_refl _) _, by simp, by simp [go_sem], by simp [go_sem], by simp [go_sem], by simp [go_sem], by simp [go_sem], by simp [go_sem]⟩
theorem Own3.step {w w1 w2 : World} (h : Own3 w w1) (b : Below w1.heap.size w1 w2) : Own3 w w2 := by
  obtain ⟨h1, h2⟩ := bcell b
  exact ⟨h.bel.trans (b.mono (Nat.le_of_lt h.lt)), Nat.lt_of_lt_of_le h.lt b.size, by rw [h1 _ _ h.lt]; exact h.k0, by rw [h1 _ _ h.lt]; exact h.k1, by rw [h1 _ _ h.lt]; exact h.k2, by rw [h2 _ _ h.lt]; exact h.f0, by rw [h2 _ _ h.lt]; exact h.f1, by rw [h2 _ _ h.lt]; exact h.f2⟩
theorem rowL_le (p : UInt8 → Bool) (l : Tx) : rowL p l ≤ l.length := by
  unfold rowL
  exact (List.takeWhile_sublist p).length_le
theorem num_no (s : ByteArray) (w : World) (h0 : rowL digB s.data.toList = 0) :
    Calls Tryd.prog 33 #[.string s] w fun e w' => e = .returned (pcV 0 ⟨#[]⟩ 0) ∧ Below w.heap.size w w' := by
  have hr := fun w => row_digit digN digB false (Lib.hid kin_dig) s w (Lib.hid (weak_ dig_any))
  simp only [h0] at hr
  have HR := Lib.hid hr
  clear hr h0
  go_enter Tryd.func33, Tryd.ntmps33
  go_wp2_with (go_at_call 49; refine (HR.out _).mono ?_; rintro e w1 ⟨rfl, hb1⟩; obtain ⟨hcc, hff⟩ := bcell hb1)
  have hB : Below w.heap.size w w1 := ((Below.refl _ _).alloc (Nat.le_refl _) _).trans (hb1.mono (by simp))
  refine bodyPost_ret (v := pcV 0 ⟨#[]⟩ 0) (by simp [results, Tryd.results33, go_sem, hcc, hff]) rfl ?_
  refine ⟨rfl, ((hB.setCell ?_ _).setCell ?_ _).setCell ?_ _⟩ <;> exact Nat.le_refl _
theorem num_yes (s : ByteArray) (w : World) (hs : s.size ≤ 281474976710656) (h0 : rowL digB s.data.toList ≠ 0) :
    Calls Tryd.prog 33 #[.string s] w fun e w' => e = .returned (pcV 4 (s.extract 0 (rowL numB s.data.toList)) (rowL numB s.data.toList : Nat)) ∧ Below w.heap.size w w' := by
  have hr := fun w => row_digit digN digB false (Lib.hid kin_dig) s w (Lib.hid (weak_ dig_any))
  have hq := fun w => row_num numN numB false (Lib.hid kin_num) s w (Lib.hid (weak_ num_any))
  obtain ⟨n, hn⟩ : ∃ n, rowL numB s.data.toList = n := ⟨_, rfl⟩
  obtain ⟨m, hm⟩ : ∃ m, rowL digB s.data.toList = m := ⟨_, rfl⟩
  have hle : n ≤ s.size := by rw [← hn, Lib.size_eq]; exact rowL_le _ _
  rw [hn]
  simp only [hn] at hq
  simp only [hm] at hr
  rw [hm] at h0
  have hc := fun w => clone_any (s.extract 0 n) w (by rw [ByteArray.size_extract]; omega)
  have HR := Lib.hid hr
  have HQ := Lib.hid hq
  have HC := Lib.hid hc
  clear hr hq hn hm hc hs
  have c0 : ((m : Int) == 0) = false := by rw [beq_eq_false_iff_ne]; omega
  have c1 : (0 : Int) ≤ (n : Int) := by omega
  have c2 : (n : Int) ≤ (s.size : Int) := by omega
  clear h0
  go_enter Tryd.func33, Tryd.ntmps33
  go_wp2_with (first
    | (go_at_call 49; (with_reducible refine (HR.out _).mono ?_); rintro e w1 ⟨rfl, hb1⟩; have F1 := (Own3.new w).step hb1; clear hb1; obtain ⟨hB, hL, k0, k1, k2, f0, f1, f2⟩ := id F1)
    | (go_at_call 49; (with_reducible refine (HQ.out _).mono ?_); rintro e w2 ⟨rfl, hb2⟩; have F2 := F1.step hb2; clear hb2 hB hL k0 k1 k2 f0 f1 f2; obtain ⟨hB, hL, k0, k1, k2, f0, f1, f2⟩ := id F2)
    | (go_at_call 20; (with_reducible refine (HC.out _).mono ?_); rintro e w3 ⟨rfl, hb3⟩; have F3 := F2.step hb3; clear hb3 hB hL k0 k1 k2 f0 f1 f2; obtain ⟨hB, hL, k0, k1, k2, f0, f1, f2⟩ := id F3))
  refine bodyPost_ret (v := pcV 4 (s.extract 0 n) (n : Nat)) (by simp [results, Tryd.results33, go_sem, k0, k1, k2]) rfl ?_
  refine ⟨rfl, ((hB.setCell ?_ _).setCell ?_ _).setCell ?_ _⟩ <;> exact Nat.le_refl _
end Go.Proofs.YtlmgggipkdmdfaaDoor
