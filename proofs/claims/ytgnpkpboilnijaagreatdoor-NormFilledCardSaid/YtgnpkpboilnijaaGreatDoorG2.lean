/- What package lexer's row answers: how many bytes stand at the beginning whose letters are all of a sort. Condition: none but the text's own size.
   What strings.IndexByte answers, at this translation. Condition: none. -/
import Derived.Test.YtgnpkpboilnijaaGreatDoorG1
import Derived.LoopTactic
import Derived.Test.YtgnpkpboilnijaaGreatDoorRows
import Derived.WalkKit
import Derived.ProofKit
import Derived.OpenShut
import Derived.ShutString
import Derived.Below
import Derived.IntWalk
import Derived.Lib.Strings
import Derived.Lib.Hide
import Derived.Lib.Bytealg
import Derived.Lib.Walk
import Derived.Lib.IndexLaws
import Derived.Laws.IdiomStrings
import Derived.Deep.QuietTactic
import Derived.Deep.RegionWith
import Derived.Deep.DeepCutAuto
import Derived.BigQuiet
set_option linter.unusedSimpArgs false
set_option linter.unusedVariables false
namespace Go.Proofs.YtgnpkpboilnijaaGreatDoor
open Go.ChangeShapes Go.WideShapes Go.ChangeAt Go.RowKit
set_option maxRecDepth 100000
set_option linter.unusedVariables false
set_option linter.unusedSimpArgs false

/-- how many bytes stand ahead of the first that does not fit -/
def rowL (p : UInt8 → Bool) (l : Tx) : Nat := (l.takeWhile p).length
/-- a test of letters that says of all above 127 one thing, as the test of bytes says of all bytes above 127 -/
structure Kin (t : Int → Bool) (p : UInt8 → Bool) (hi : Bool) : Prop where
  low : ∀ c : UInt8, c.toNat < 128 → t (c.toNat : Int) = p c
  wide : ∀ n : Int, 128 ≤ n → t n = hi
  bytes : ∀ c : UInt8, 128 ≤ c.toNat → p c = hi
theorem rowL_at (p : UInt8 → Bool) (l : Tx) (n : Nat) (h1 : ∀ c ∈ l.take n, p c = true) (c : UInt8) (r : Tx) (h2 : l.drop n = c :: r) (h3 : p c = false) : rowL p l = n := by
  have hn : n < l.length := by
    have := congrArg List.length h2
    rw [List.length_drop, List.length_cons] at this; omega
  have e : l = l.take n ++ c :: r := by rw [← h2, List.take_append_drop]
  unfold rowL
  rw [e, List.takeWhile_append_of_pos h1, List.takeWhile_cons, if_neg (by rw [h3]; decide), List.append_nil, List.length_take]
  omega
theorem rowL_all (p : UInt8 → Bool) (l : Tx) (n : Nat) (h1 : ∀ c ∈ l.take n, p c = true) (hn : l.length ≤ n) : rowL p l = l.length := by
  rw [List.take_of_length_le hn] at h1
  unfold rowL
  have : l.takeWhile p = l := by
    have := List.takeWhile_append_of_pos (l₂ := []) h1
    simpa using this
  rw [this]
theorem get_list (s : ByteArray) (n : Nat) (h : n < s.size) : s.data.toList.drop n = s[n] :: s.data.toList.drop (n + 1) := by
  have hl : n < s.data.toList.length := by rw [← Lib.size_eq]; exact h
  rw [List.drop_eq_getElem_cons hl]
  rfl
theorem take_more (p : UInt8 → Bool) (s : ByteArray) (pos k : Nat) (h1 : ∀ c ∈ s.data.toList.take pos, p c = true) (h2 : ∀ j, j < k → ∀ hj : pos + j < s.size, p (s[pos + j]'hj) = true) (hk : pos + k ≤ s.size) : ∀ c ∈ s.data.toList.take (pos + k), p c = true := by
  induction k with
  | zero => exact h1
  | succ k ih =>
    have hlt : pos + k < s.data.toList.length := by rw [← Lib.size_eq]; omega
    have hlt2 : pos + k < s.size := by omega
    rw [← Nat.add_assoc, List.take_succ_eq_append_getElem hlt]
    intro c hc
    rcases List.mem_append.1 hc with hc | hc
    · exact ih (fun j hj hj2 => h2 j (by omega) hj2) (by omega) c hc
    · rw [List.mem_singleton.1 hc]
      exact h2 k (by omega) hlt2
/-- the iterator's block is written -/
theorem iter_below {w0 w : World} (g : Nat) (o : Obj) (B : Nat) (h : Below B w0 w) (hg : B ≤ g) : Below B w0 { w with heap := w.heap.setIfInBounds g o } := by
  refine ⟨h.os, h.tape, h.output, by simpa using h.size, fun k hk => ?_⟩
  rw [← h.block k hk]
  exact Array.getElem?_setIfInBounds_ne (by omega)
/-- what the step of a range over a string does to the row that has been gone over -/
theorem row_step (t : Int → Bool) (p : UInt8 → Bool) (hi : Bool) (hs : Kin t p hi) (s : ByteArray) (pos : Nat) (hp : pos < s.size) (h : ∀ c ∈ s.data.toList.take pos, p c = true) :
    (t ((Utf8.decode s pos).1 : Nat) = false → rowL p s.data.toList = pos) ∧ (t ((Utf8.decode s pos).1 : Nat) = true → pos + (Utf8.decode s pos).2 ≤ s.size ∧ 1 ≤ (Utf8.decode s pos).2 ∧ ∀ c ∈ s.data.toList.take (pos + (Utf8.decode s pos).2), p c = true) := by
  by_cases ha : (s[pos]'hp).toNat < 128
  · rw [decode_ascii s pos hp ha, hs.low _ ha]
    refine ⟨fun e => rowL_at p _ pos h _ _ (get_list s pos hp) e, fun e => ⟨hp, Nat.le_refl _, take_more p s pos 1 h (fun j hj hj2 => ?_) hp⟩⟩
    have : j = 0 := by omega
    subst this; exact e
  · have ha' : 128 ≤ (s[pos]'hp).toNat := by omega
    obtain ⟨d1, d2⟩ := decode_high s pos hp ha'
    obtain ⟨e1, e2⟩ := decode_wide s pos hp ha'
    rw [hs.wide _ (by omega)]
    refine ⟨fun e => rowL_at p _ pos h _ _ (get_list s pos hp) (by rw [hs.bytes _ ha']; exact e), fun e => ⟨e1, d2, take_more p s pos _ h (fun j hj hj2 => ?_) e1⟩⟩
    rw [hs.bytes _ (e2 j hj hj2)]; exact e

set_option maxRecDepth 100000 in
theorem row_letter (t : Int → Bool) (p : UInt8 → Bool) (hi : Bool) (hs : Hid (Kin t p hi)) (s : ByteArray) (w : World)
    (hf : Hid (∀ (n : Int) (w : World), Calls Tryz.prog 84 #[.int .i32 n] w fun e w' => e = .returned (.bool (t n)) ∧ Below w.heap.size w w')) :
    Calls Tryz.prog 80 #[.string s, .func (.func 84) #[] #[]] w fun e w' => e = .returned (.int .i64 (rowL p s.data.toList : Nat)) ∧ Below w.heap.size w w' := by
  have h0 : (w.iter s 0).heap[w.heap.size]? = some (.stringIter s 0) := w.iter_heap s 0
  have hb0 : Below w.heap.size w (w.iter s 0) := (Below.refl _ _).alloc (Nat.le_refl _) _
  go_enter Tryz.func80, Tryz.ntmps80
  go_wp2
  go_loopw [5] (fun _ wr => ∃ pos, wr.heap[w.heap.size]? = some (.stringIter s pos) ∧ pos ≤ s.size ∧ (∀ c ∈ s.data.toList.take pos, p c = true) ∧ Below w.heap.size w wr) (fun _ wr => s.size - wr.iterPos w.heap.size)
  case atStart => exact ⟨0, h0, Nat.zero_le _, by simp, hb0⟩
  case round =>
    obtain ⟨pos, hg, hps, hall, hB⟩ := hrel
    clear h0 hb0
    have HG := Lib.hid hg
    have HALL := Lib.hid hall
    have HB := Lib.hid hB
    have hip : wr.iterPos w.heap.size = pos := by simp [World.iterPos, hg]
    have HIP := Lib.hid hip
    clear hg hall hB hip
    by_cases hp : pos < s.size
    · have hnx : ∀ ty, (Instr.next (.pointer (some ⟨w.heap.size, 0, none⟩)) true ty).run Tryz.prog wr = _ := fun ty => run_next_at_ wr w.heap.size s pos ty HG.out hp
      have st := row_step t p hi hs.out s pos hp HALL.out
      have h1 : ({ wr with heap := wr.heap.setIfInBounds w.heap.size (.stringIter s (pos + (Utf8.decode s pos).2)) } : World).heap[w.heap.size]? = some (.stringIter s (pos + (Utf8.decode s pos).2)) := by
        have hlt : w.heap.size < wr.heap.size := (Array.getElem?_eq_some_iff.1 HG.out).1
        simp [hlt]
      have hB1 := iter_below w.heap.size (.stringIter s (pos + (Utf8.decode s pos).2)) w.heap.size HB.out (Nat.le_refl _)
      generalize ({ wr with heap := wr.heap.setIfInBounds w.heap.size (.stringIter s (pos + (Utf8.decode s pos).2)) } : World) = w1 at *
      generalize (Utf8.decode s pos).1 = rn at *
      generalize (Utf8.decode s pos).2 = wd at *
      obtain ⟨b, hb⟩ : ∃ b, t (rn : Nat) = b := ⟨_, rfl⟩
      rw [hb] at st
      have F1 := hf.out (rn : Nat)
      rw [hb] at F1
      have HF1 := Lib.hid F1
      have ST := Lib.hid st
      have H1 := Lib.hid h1
      have HB1 := Lib.hid hB1
      clear F1 st hb h1 hB1
      cases b with
      | false =>
        have HR := Lib.hid (ST.out.1 rfl)
        clear ST
        go_wp2_with (go_at_call 84; refine (HF1.out _).mono ?_; rintro e w2 ⟨rfl, hb2⟩)
        go_ret
        exact ⟨by rw [HR.out]; rfl, HB1.out.trans (hb2.mono HB1.out.size)⟩
      | true =>
        obtain ⟨s1, s2, s3⟩ := ST.out.2 rfl
        go_wp2_with (go_at_call 84; refine (HF1.out _).mono ?_; rintro e w2 ⟨rfl, hb2⟩)
        go_roundw
        case rel => exact ⟨pos + wd, (hb2.block _ (Array.getElem?_eq_some_iff.1 H1.out).1).trans H1.out, s1, s3, HB1.out.trans (hb2.mono HB1.out.size)⟩
        case measure =>
          have e2 : w2.iterPos w.heap.size = pos + wd := by simp [World.iterPos, (hb2.block _ (Array.getElem?_eq_some_iff.1 H1.out).1).trans H1.out]
          rw [HIP.out, e2]; omega
    · have hnx : ∀ ty, (Instr.next (.pointer (some ⟨w.heap.size, 0, none⟩)) true ty).run Tryz.prog wr = _ := fun ty => run_next_over wr w.heap.size s pos ty HG.out hp
      go_wp2
      go_ret
      refine ⟨?_, HB.out⟩
      rw [rowL_all p _ pos HALL.out (by rw [← Lib.size_eq]; omega), ← Lib.size_eq]; rfl
set_option maxRecDepth 100000 in
theorem row_word (t : Int → Bool) (p : UInt8 → Bool) (hi : Bool) (hs : Hid (Kin t p hi)) (s : ByteArray) (w : World)
    (hf : Hid (∀ (n : Int) (w : World), Calls Tryz.prog 85 #[.int .i32 n] w fun e w' => e = .returned (.bool (t n)) ∧ Below w.heap.size w w')) :
    Calls Tryz.prog 80 #[.string s, .func (.func 85) #[] #[]] w fun e w' => e = .returned (.int .i64 (rowL p s.data.toList : Nat)) ∧ Below w.heap.size w w' := by
  have h0 : (w.iter s 0).heap[w.heap.size]? = some (.stringIter s 0) := w.iter_heap s 0
  have hb0 : Below w.heap.size w (w.iter s 0) := (Below.refl _ _).alloc (Nat.le_refl _) _
  go_enter Tryz.func80, Tryz.ntmps80
  go_wp2
  go_loopw [5] (fun _ wr => ∃ pos, wr.heap[w.heap.size]? = some (.stringIter s pos) ∧ pos ≤ s.size ∧ (∀ c ∈ s.data.toList.take pos, p c = true) ∧ Below w.heap.size w wr) (fun _ wr => s.size - wr.iterPos w.heap.size)
  case atStart => exact ⟨0, h0, Nat.zero_le _, by simp, hb0⟩
  case round =>
    obtain ⟨pos, hg, hps, hall, hB⟩ := hrel
    clear h0 hb0
    have HG := Lib.hid hg
    have HALL := Lib.hid hall
    have HB := Lib.hid hB
    have hip : wr.iterPos w.heap.size = pos := by simp [World.iterPos, hg]
    have HIP := Lib.hid hip
    clear hg hall hB hip
    by_cases hp : pos < s.size
    · have hnx : ∀ ty, (Instr.next (.pointer (some ⟨w.heap.size, 0, none⟩)) true ty).run Tryz.prog wr = _ := fun ty => run_next_at_ wr w.heap.size s pos ty HG.out hp
      have st := row_step t p hi hs.out s pos hp HALL.out
      have h1 : ({ wr with heap := wr.heap.setIfInBounds w.heap.size (.stringIter s (pos + (Utf8.decode s pos).2)) } : World).heap[w.heap.size]? = some (.stringIter s (pos + (Utf8.decode s pos).2)) := by
        have hlt : w.heap.size < wr.heap.size := (Array.getElem?_eq_some_iff.1 HG.out).1
        simp [hlt]
      have hB1 := iter_below w.heap.size (.stringIter s (pos + (Utf8.decode s pos).2)) w.heap.size HB.out (Nat.le_refl _)
      generalize ({ wr with heap := wr.heap.setIfInBounds w.heap.size (.stringIter s (pos + (Utf8.decode s pos).2)) } : World) = w1 at *
      generalize (Utf8.decode s pos).1 = rn at *
      generalize (Utf8.decode s pos).2 = wd at *
      obtain ⟨b, hb⟩ : ∃ b, t (rn : Nat) = b := ⟨_, rfl⟩
      rw [hb] at st
      have F1 := hf.out (rn : Nat)
      rw [hb] at F1
      have HF1 := Lib.hid F1
      have ST := Lib.hid st
      have H1 := Lib.hid h1
      have HB1 := Lib.hid hB1
      clear F1 st hb h1 hB1
      cases b with
      | false =>
        have HR := Lib.hid (ST.out.1 rfl)
        clear ST
        go_wp2_with (go_at_call 85; refine (HF1.out _).mono ?_; rintro e w2 ⟨rfl, hb2⟩)
        go_ret
        exact ⟨by rw [HR.out]; rfl, HB1.out.trans (hb2.mono HB1.out.size)⟩
      | true =>
        obtain ⟨s1, s2, s3⟩ := ST.out.2 rfl
        go_wp2_with (go_at_call 85; refine (HF1.out _).mono ?_; rintro e w2 ⟨rfl, hb2⟩)
        go_roundw
        case rel => exact ⟨pos + wd, (hb2.block _ (Array.getElem?_eq_some_iff.1 H1.out).1).trans H1.out, s1, s3, HB1.out.trans (hb2.mono HB1.out.size)⟩
        case measure =>
          have e2 : w2.iterPos w.heap.size = pos + wd := by simp [World.iterPos, (hb2.block _ (Array.getElem?_eq_some_iff.1 H1.out).1).trans H1.out]
          rw [HIP.out, e2]; omega
    · have hnx : ∀ ty, (Instr.next (.pointer (some ⟨w.heap.size, 0, none⟩)) true ty).run Tryz.prog wr = _ := fun ty => run_next_over wr w.heap.size s pos ty HG.out hp
      go_wp2
      go_ret
      refine ⟨?_, HB.out⟩
      rw [rowL_all p _ pos HALL.out (by rw [← Lib.size_eq]; omega), ← Lib.size_eq]; rfl
set_option maxRecDepth 100000 in
theorem row_digit (t : Int → Bool) (p : UInt8 → Bool) (hi : Bool) (hs : Hid (Kin t p hi)) (s : ByteArray) (w : World)
    (hf : Hid (∀ (n : Int) (w : World), Calls Tryz.prog 89 #[.int .i32 n] w fun e w' => e = .returned (.bool (t n)) ∧ Below w.heap.size w w')) :
    Calls Tryz.prog 80 #[.string s, .func (.func 89) #[] #[]] w fun e w' => e = .returned (.int .i64 (rowL p s.data.toList : Nat)) ∧ Below w.heap.size w w' := by
  have h0 : (w.iter s 0).heap[w.heap.size]? = some (.stringIter s 0) := w.iter_heap s 0
  have hb0 : Below w.heap.size w (w.iter s 0) := (Below.refl _ _).alloc (Nat.le_refl _) _
  go_enter Tryz.func80, Tryz.ntmps80
  go_wp2
  go_loopw [5] (fun _ wr => ∃ pos, wr.heap[w.heap.size]? = some (.stringIter s pos) ∧ pos ≤ s.size ∧ (∀ c ∈ s.data.toList.take pos, p c = true) ∧ Below w.heap.size w wr) (fun _ wr => s.size - wr.iterPos w.heap.size)
  case atStart => exact ⟨0, h0, Nat.zero_le _, by simp, hb0⟩
  case round =>
    obtain ⟨pos, hg, hps, hall, hB⟩ := hrel
    clear h0 hb0
    have HG := Lib.hid hg
    have HALL := Lib.hid hall
    have HB := Lib.hid hB
    have hip : wr.iterPos w.heap.size = pos := by simp [World.iterPos, hg]
    have HIP := Lib.hid hip
    clear hg hall hB hip
    by_cases hp : pos < s.size
    · have hnx : ∀ ty, (Instr.next (.pointer (some ⟨w.heap.size, 0, none⟩)) true ty).run Tryz.prog wr = _ := fun ty => run_next_at_ wr w.heap.size s pos ty HG.out hp
      have st := row_step t p hi hs.out s pos hp HALL.out
      have h1 : ({ wr with heap := wr.heap.setIfInBounds w.heap.size (.stringIter s (pos + (Utf8.decode s pos).2)) } : World).heap[w.heap.size]? = some (.stringIter s (pos + (Utf8.decode s pos).2)) := by
        have hlt : w.heap.size < wr.heap.size := (Array.getElem?_eq_some_iff.1 HG.out).1
        simp [hlt]
      have hB1 := iter_below w.heap.size (.stringIter s (pos + (Utf8.decode s pos).2)) w.heap.size HB.out (Nat.le_refl _)
      generalize ({ wr with heap := wr.heap.setIfInBounds w.heap.size (.stringIter s (pos + (Utf8.decode s pos).2)) } : World) = w1 at *
      generalize (Utf8.decode s pos).1 = rn at *
      generalize (Utf8.decode s pos).2 = wd at *
      obtain ⟨b, hb⟩ : ∃ b, t (rn : Nat) = b := ⟨_, rfl⟩
      rw [hb] at st
      have F1 := hf.out (rn : Nat)
      rw [hb] at F1
      have HF1 := Lib.hid F1
      have ST := Lib.hid st
      have H1 := Lib.hid h1
      have HB1 := Lib.hid hB1
      clear F1 st hb h1 hB1
      cases b with
      | false =>
        have HR := Lib.hid (ST.out.1 rfl)
        clear ST
        go_wp2_with (go_at_call 89; refine (HF1.out _).mono ?_; rintro e w2 ⟨rfl, hb2⟩)
        go_ret
        exact ⟨by rw [HR.out]; rfl, HB1.out.trans (hb2.mono HB1.out.size)⟩
      | true =>
        obtain ⟨s1, s2, s3⟩ := ST.out.2 rfl
        go_wp2_with (go_at_call 89; refine (HF1.out _).mono ?_; rintro e w2 ⟨rfl, hb2⟩)
        go_roundw
        case rel => exact ⟨pos + wd, (hb2.block _ (Array.getElem?_eq_some_iff.1 H1.out).1).trans H1.out, s1, s3, HB1.out.trans (hb2.mono HB1.out.size)⟩
        case measure =>
          have e2 : w2.iterPos w.heap.size = pos + wd := by simp [World.iterPos, (hb2.block _ (Array.getElem?_eq_some_iff.1 H1.out).1).trans H1.out]
          rw [HIP.out, e2]; omega
    · have hnx : ∀ ty, (Instr.next (.pointer (some ⟨w.heap.size, 0, none⟩)) true ty).run Tryz.prog wr = _ := fun ty => run_next_over wr w.heap.size s pos ty HG.out hp
      go_wp2
      go_ret
      refine ⟨?_, HB.out⟩
      rw [rowL_all p _ pos HALL.out (by rw [← Lib.size_eq]; omega), ← Lib.size_eq]; rfl
set_option maxRecDepth 100000 in
theorem row_num (t : Int → Bool) (p : UInt8 → Bool) (hi : Bool) (hs : Hid (Kin t p hi)) (s : ByteArray) (w : World)
    (hf : Hid (∀ (n : Int) (w : World), Calls Tryz.prog 90 #[.int .i32 n] w fun e w' => e = .returned (.bool (t n)) ∧ Below w.heap.size w w')) :
    Calls Tryz.prog 80 #[.string s, .func (.func 90) #[] #[]] w fun e w' => e = .returned (.int .i64 (rowL p s.data.toList : Nat)) ∧ Below w.heap.size w w' := by
  have h0 : (w.iter s 0).heap[w.heap.size]? = some (.stringIter s 0) := w.iter_heap s 0
  have hb0 : Below w.heap.size w (w.iter s 0) := (Below.refl _ _).alloc (Nat.le_refl _) _
  go_enter Tryz.func80, Tryz.ntmps80
  go_wp2
  go_loopw [5] (fun _ wr => ∃ pos, wr.heap[w.heap.size]? = some (.stringIter s pos) ∧ pos ≤ s.size ∧ (∀ c ∈ s.data.toList.take pos, p c = true) ∧ Below w.heap.size w wr) (fun _ wr => s.size - wr.iterPos w.heap.size)
  case atStart => exact ⟨0, h0, Nat.zero_le _, by simp, hb0⟩
  case round =>
    obtain ⟨pos, hg, hps, hall, hB⟩ := hrel
    clear h0 hb0
    have HG := Lib.hid hg
    have HALL := Lib.hid hall
    have HB := Lib.hid hB
    have hip : wr.iterPos w.heap.size = pos := by simp [World.iterPos, hg]
    have HIP := Lib.hid hip
    clear hg hall hB hip
    by_cases hp : pos < s.size
    · have hnx : ∀ ty, (Instr.next (.pointer (some ⟨w.heap.size, 0, none⟩)) true ty).run Tryz.prog wr = _ := fun ty => run_next_at_ wr w.heap.size s pos ty HG.out hp
      have st := row_step t p hi hs.out s pos hp HALL.out
      have h1 : ({ wr with heap := wr.heap.setIfInBounds w.heap.size (.stringIter s (pos + (Utf8.decode s pos).2)) } : World).heap[w.heap.size]? = some (.stringIter s (pos + (Utf8.decode s pos).2)) := by
        have hlt : w.heap.size < wr.heap.size := (Array.getElem?_eq_some_iff.1 HG.out).1
        simp [hlt]
      have hB1 := iter_below w.heap.size (.stringIter s (pos + (Utf8.decode s pos).2)) w.heap.size HB.out (Nat.le_refl _)
      generalize ({ wr with heap := wr.heap.setIfInBounds w.heap.size (.stringIter s (pos + (Utf8.decode s pos).2)) } : World) = w1 at *
      generalize (Utf8.decode s pos).1 = rn at *
      generalize (Utf8.decode s pos).2 = wd at *
      obtain ⟨b, hb⟩ : ∃ b, t (rn : Nat) = b := ⟨_, rfl⟩
      rw [hb] at st
      have F1 := hf.out (rn : Nat)
      rw [hb] at F1
      have HF1 := Lib.hid F1
      have ST := Lib.hid st
      have H1 := Lib.hid h1
      have HB1 := Lib.hid hB1
      clear F1 st hb h1 hB1
      cases b with
      | false =>
        have HR := Lib.hid (ST.out.1 rfl)
        clear ST
        go_wp2_with (go_at_call 90; refine (HF1.out _).mono ?_; rintro e w2 ⟨rfl, hb2⟩)
        go_ret
        exact ⟨by rw [HR.out]; rfl, HB1.out.trans (hb2.mono HB1.out.size)⟩
      | true =>
        obtain ⟨s1, s2, s3⟩ := ST.out.2 rfl
        go_wp2_with (go_at_call 90; refine (HF1.out _).mono ?_; rintro e w2 ⟨rfl, hb2⟩)
        go_roundw
        case rel => exact ⟨pos + wd, (hb2.block _ (Array.getElem?_eq_some_iff.1 H1.out).1).trans H1.out, s1, s3, HB1.out.trans (hb2.mono HB1.out.size)⟩
        case measure =>
          have e2 : w2.iterPos w.heap.size = pos + wd := by simp [World.iterPos, (hb2.block _ (Array.getElem?_eq_some_iff.1 H1.out).1).trans H1.out]
          rw [HIP.out, e2]; omega
    · have hnx : ∀ ty, (Instr.next (.pointer (some ⟨w.heap.size, 0, none⟩)) true ty).run Tryz.prog wr = _ := fun ty => run_next_over wr w.heap.size s pos ty HG.out hp
      go_wp2
      go_ret
      refine ⟨?_, HB.out⟩
      rw [rowL_all p _ pos HALL.out (by rw [← Lib.size_eq]; omega), ← Lib.size_eq]; rfl
set_option maxRecDepth 100000 in
theorem row_tag (t : Int → Bool) (p : UInt8 → Bool) (hi : Bool) (hs : Hid (Kin t p hi)) (s : ByteArray) (w : World)
    (hf : Hid (∀ (n : Int) (w : World), Calls Tryz.prog 118 #[.int .i32 n] w fun e w' => e = .returned (.bool (t n)) ∧ Below w.heap.size w w')) :
    Calls Tryz.prog 80 #[.string s, .func (.func 118) #[] #[]] w fun e w' => e = .returned (.int .i64 (rowL p s.data.toList : Nat)) ∧ Below w.heap.size w w' := by
  have h0 : (w.iter s 0).heap[w.heap.size]? = some (.stringIter s 0) := w.iter_heap s 0
  have hb0 : Below w.heap.size w (w.iter s 0) := (Below.refl _ _).alloc (Nat.le_refl _) _
  go_enter Tryz.func80, Tryz.ntmps80
  go_wp2
  go_loopw [5] (fun _ wr => ∃ pos, wr.heap[w.heap.size]? = some (.stringIter s pos) ∧ pos ≤ s.size ∧ (∀ c ∈ s.data.toList.take pos, p c = true) ∧ Below w.heap.size w wr) (fun _ wr => s.size - wr.iterPos w.heap.size)
  case atStart => exact ⟨0, h0, Nat.zero_le _, by simp, hb0⟩
  case round =>
    obtain ⟨pos, hg, hps, hall, hB⟩ := hrel
    clear h0 hb0
    have HG := Lib.hid hg
    have HALL := Lib.hid hall
    have HB := Lib.hid hB
    have hip : wr.iterPos w.heap.size = pos := by simp [World.iterPos, hg]
    have HIP := Lib.hid hip
    clear hg hall hB hip
    by_cases hp : pos < s.size
    · have hnx : ∀ ty, (Instr.next (.pointer (some ⟨w.heap.size, 0, none⟩)) true ty).run Tryz.prog wr = _ := fun ty => run_next_at_ wr w.heap.size s pos ty HG.out hp
      have st := row_step t p hi hs.out s pos hp HALL.out
      have h1 : ({ wr with heap := wr.heap.setIfInBounds w.heap.size (.stringIter s (pos + (Utf8.decode s pos).2)) } : World).heap[w.heap.size]? = some (.stringIter s (pos + (Utf8.decode s pos).2)) := by
        have hlt : w.heap.size < wr.heap.size := (Array.getElem?_eq_some_iff.1 HG.out).1
        simp [hlt]
      have hB1 := iter_below w.heap.size (.stringIter s (pos + (Utf8.decode s pos).2)) w.heap.size HB.out (Nat.le_refl _)
      generalize ({ wr with heap := wr.heap.setIfInBounds w.heap.size (.stringIter s (pos + (Utf8.decode s pos).2)) } : World) = w1 at *
      generalize (Utf8.decode s pos).1 = rn at *
      generalize (Utf8.decode s pos).2 = wd at *
      obtain ⟨b, hb⟩ : ∃ b, t (rn : Nat) = b := ⟨_, rfl⟩
      rw [hb] at st
      have F1 := hf.out (rn : Nat)
      rw [hb] at F1
      have HF1 := Lib.hid F1
      have ST := Lib.hid st
      have H1 := Lib.hid h1
      have HB1 := Lib.hid hB1
      clear F1 st hb h1 hB1
      cases b with
      | false =>
        have HR := Lib.hid (ST.out.1 rfl)
        clear ST
        go_wp2_with (go_at_call 118; refine (HF1.out _).mono ?_; rintro e w2 ⟨rfl, hb2⟩)
        go_ret
        exact ⟨by rw [HR.out]; rfl, HB1.out.trans (hb2.mono HB1.out.size)⟩
      | true =>
        obtain ⟨s1, s2, s3⟩ := ST.out.2 rfl
        go_wp2_with (go_at_call 118; refine (HF1.out _).mono ?_; rintro e w2 ⟨rfl, hb2⟩)
        go_roundw
        case rel => exact ⟨pos + wd, (hb2.block _ (Array.getElem?_eq_some_iff.1 H1.out).1).trans H1.out, s1, s3, HB1.out.trans (hb2.mono HB1.out.size)⟩
        case measure =>
          have e2 : w2.iterPos w.heap.size = pos + wd := by simp [World.iterPos, (hb2.block _ (Array.getElem?_eq_some_iff.1 H1.out).1).trans H1.out]
          rw [HIP.out, e2]; omega
    · have hnx : ∀ ty, (Instr.next (.pointer (some ⟨w.heap.size, 0, none⟩)) true ty).run Tryz.prog wr = _ := fun ty => run_next_over wr w.heap.size s pos ty HG.out hp
      go_wp2
      go_ret
      refine ⟨?_, HB.out⟩
      rw [rowL_all p _ pos HALL.out (by rw [← Lib.size_eq]; omega), ← Lib.size_eq]; rfl
set_option maxRecDepth 100000 in
theorem row_blank (t : Int → Bool) (p : UInt8 → Bool) (hi : Bool) (hs : Hid (Kin t p hi)) (s : ByteArray) (w : World)
    (hf : Hid (∀ (n : Int) (w : World), Calls Tryz.prog 81 #[.int .i32 n] w fun e w' => e = .returned (.bool (t n)) ∧ Below w.heap.size w w')) :
    Calls Tryz.prog 80 #[.string s, .func (.func 81) #[] #[]] w fun e w' => e = .returned (.int .i64 (rowL p s.data.toList : Nat)) ∧ Below w.heap.size w w' := by
  have h0 : (w.iter s 0).heap[w.heap.size]? = some (.stringIter s 0) := w.iter_heap s 0
  have hb0 : Below w.heap.size w (w.iter s 0) := (Below.refl _ _).alloc (Nat.le_refl _) _
  go_enter Tryz.func80, Tryz.ntmps80
  go_wp2
  go_loopw [5] (fun _ wr => ∃ pos, wr.heap[w.heap.size]? = some (.stringIter s pos) ∧ pos ≤ s.size ∧ (∀ c ∈ s.data.toList.take pos, p c = true) ∧ Below w.heap.size w wr) (fun _ wr => s.size - wr.iterPos w.heap.size)
  case atStart => exact ⟨0, h0, Nat.zero_le _, by simp, hb0⟩
  case round =>
    obtain ⟨pos, hg, hps, hall, hB⟩ := hrel
    clear h0 hb0
    have HG := Lib.hid hg
    have HALL := Lib.hid hall
    have HB := Lib.hid hB
    have hip : wr.iterPos w.heap.size = pos := by simp [World.iterPos, hg]
    have HIP := Lib.hid hip
    clear hg hall hB hip
    by_cases hp : pos < s.size
    · have hnx : ∀ ty, (Instr.next (.pointer (some ⟨w.heap.size, 0, none⟩)) true ty).run Tryz.prog wr = _ := fun ty => run_next_at_ wr w.heap.size s pos ty HG.out hp
      have st := row_step t p hi hs.out s pos hp HALL.out
      have h1 : ({ wr with heap := wr.heap.setIfInBounds w.heap.size (.stringIter s (pos + (Utf8.decode s pos).2)) } : World).heap[w.heap.size]? = some (.stringIter s (pos + (Utf8.decode s pos).2)) := by
        have hlt : w.heap.size < wr.heap.size := (Array.getElem?_eq_some_iff.1 HG.out).1
        simp [hlt]
      have hB1 := iter_below w.heap.size (.stringIter s (pos + (Utf8.decode s pos).2)) w.heap.size HB.out (Nat.le_refl _)
      generalize ({ wr with heap := wr.heap.setIfInBounds w.heap.size (.stringIter s (pos + (Utf8.decode s pos).2)) } : World) = w1 at *
      generalize (Utf8.decode s pos).1 = rn at *
      generalize (Utf8.decode s pos).2 = wd at *
      obtain ⟨b, hb⟩ : ∃ b, t (rn : Nat) = b := ⟨_, rfl⟩
      rw [hb] at st
      have F1 := hf.out (rn : Nat)
      rw [hb] at F1
      have HF1 := Lib.hid F1
      have ST := Lib.hid st
      have H1 := Lib.hid h1
      have HB1 := Lib.hid hB1
      clear F1 st hb h1 hB1
      cases b with
      | false =>
        have HR := Lib.hid (ST.out.1 rfl)
        clear ST
        go_wp2_with (go_at_call 81; refine (HF1.out _).mono ?_; rintro e w2 ⟨rfl, hb2⟩)
        go_ret
        exact ⟨by rw [HR.out]; rfl, HB1.out.trans (hb2.mono HB1.out.size)⟩
      | true =>
        obtain ⟨s1, s2, s3⟩ := ST.out.2 rfl
        go_wp2_with (go_at_call 81; refine (HF1.out _).mono ?_; rintro e w2 ⟨rfl, hb2⟩)
        go_roundw
        case rel => exact ⟨pos + wd, (hb2.block _ (Array.getElem?_eq_some_iff.1 H1.out).1).trans H1.out, s1, s3, HB1.out.trans (hb2.mono HB1.out.size)⟩
        case measure =>
          have e2 : w2.iterPos w.heap.size = pos + wd := by simp [World.iterPos, (hb2.block _ (Array.getElem?_eq_some_iff.1 H1.out).1).trans H1.out]
          rw [HIP.out, e2]; omega
    · have hnx : ∀ ty, (Instr.next (.pointer (some ⟨w.heap.size, 0, none⟩)) true ty).run Tryz.prog wr = _ := fun ty => run_next_over wr w.heap.size s pos ty HG.out hp
      go_wp2
      go_ret
      refine ⟨?_, HB.out⟩
      rw [rowL_all p _ pos HALL.out (by rw [← Lib.size_eq]; omega), ← Lib.size_eq]; rfl

-- the tests of bytes
def letB (c : UInt8) : Bool := letN (c.toNat : Int)
def digB (c : UInt8) : Bool := digN (c.toNat : Int)
def wordB (c : UInt8) : Bool := wordN (c.toNat : Int)
def tagB (c : UInt8) : Bool := tagN (c.toNat : Int)
def numB (c : UInt8) : Bool := numN (c.toNat : Int)
theorem let_wide (n : Int) (h : 128 ≤ n) : letN n = true := by unfold letN; exact decide_eq_true (by omega)
theorem dig_wide (n : Int) (h : 128 ≤ n) : digN n = false := by unfold digN; exact decide_eq_false (by omega)
theorem kin_let : Kin letN letB true := ⟨fun _ _ => rfl, let_wide, fun c h => let_wide _ (by omega)⟩
theorem kin_dig : Kin digN digB false := ⟨fun _ _ => rfl, dig_wide, fun c h => dig_wide _ (by omega)⟩
theorem kin_word : Kin wordN wordB true := ⟨fun _ _ => rfl, fun n h => by unfold wordN; rw [let_wide n h]; rfl, fun c h => by unfold wordB wordN; rw [let_wide _ (by omega)]; rfl⟩
theorem kin_tag : Kin tagN tagB true := ⟨fun _ _ => rfl, fun n h => by unfold tagN; rw [let_wide n h]; rfl, fun c h => by unfold tagB tagN; rw [let_wide _ (by omega)]; rfl⟩
theorem num_wide (n : Int) (h : 128 ≤ n) : numN n = false := by unfold numN; rw [dig_wide n h, beq_eq_false_iff_ne.2 (by omega)]; rfl
theorem kin_num : Kin numN numB false := ⟨fun _ _ => rfl, num_wide, fun c h => num_wide _ (by omega)⟩
end Go.Proofs.YtgnpkpboilnijaaGreatDoor
namespace Go.Proofs.YtgnpkpboilnijaaGreatDoor
set_option linter.unusedSimpArgs false
open Go.ChangeShapes Go.WideShapes Go.ChangeAt Go.RowKit
set_option maxRecDepth 100000
set_option linter.unusedVariables false

theorem slidx_any (s : ByteArray) (c : Int) (w : World) :
    Calls Tryz.prog 107 #[.string s, .int .u8 c] w fun e w' => e = .returned (.int .i64 (Lib.indexByte s.data.toList c.toNat.toUInt8)) ∧ w' = w := by
  go_enter Tryz.func107, Tryz.ntmps107
  go_wp2
  rw [run_callFunc_extern Tryz.func119 (by kernel_rfl) (by kernel_rfl) (by kernel_rfl) (e := Extern.BytealgIndexByte.indexByte) (by kernel_rfl), Lib.run_indexByteString]
  simp only [Result.andThen]
  rw [Oper.upon_value]
  go_wp2
  go_ret
  exact ⟨rfl, rfl⟩

theorem sidx_any (s : ByteArray) (c : Int) (w : World) :
    Calls Tryz.prog 91 #[.string s, .int .u8 c] w fun e w' => e = .returned (.int .i64 (Lib.indexByte s.data.toList c.toNat.toUInt8)) ∧ w' = w := by
  have h := slidx_any s c
  go_enter Tryz.func91, Tryz.ntmps91
  go_wp2_with (go_at_call 107; refine (h _).mono ?_; rintro e w' ⟨rfl, rfl⟩)
  go_ret
  exact ⟨rfl, rfl⟩

end Go.Proofs.YtgnpkpboilnijaaGreatDoor
