/- What package lexer's blank answers: strings.ContainsRune of the five blanks. Condition: none.
   What package lexer's readers of rows answer: gap, num, sign, param; the package strings that they call. Condition: none but a text's length.
   What package lexer's small answers. Condition: none. -/
import Derived.Test.YtgnpkpboilnijaaGreatDoorG2
import Derived.Laws.Runes
import Derived.WalkMore
import Derived.BigQuiet
import Derived.Deep.RegionWith
import Derived.Deep.RegionHeld3
import Derived.Deep.QuietTactic
import Derived.Test.YtgnpkpboilnijaaGreatDoorShelf
import Derived.IntWalk
import Derived.Laws.IdiomStrings
set_option linter.unusedSimpArgs false
set_option linter.unusedVariables false
namespace Go.Proofs.YtgnpkpboilnijaaGreatDoor
open Go.ChangeShapes Go.WideShapes Go.ChangeAt Go.RowKit
set_option maxRecDepth 100000
set_option linter.unusedVariables false
set_option linter.unusedSimpArgs false

def blkN (n : Int) : Bool := decide (n = 32 ∨ n = 9 ∨ n = 10 ∨ n = 12 ∨ n = 13)
abbrev five : ByteArray := ⟨#[32, 9, 10, 12, 13]⟩

theorem valid_any (n : Int) (w : World) : Calls Tryz.prog 122 #[.int .i32 n] w fun e w' => e = .returned (.bool (Utf8.valid n)) ∧ w' = w := by
  obtain ⟨b, hb⟩ : ∃ b, Utf8.valid n = b := ⟨_, rfl⟩
  rw [hb]
  have HB := Lib.hid hb
  clear hb
  go_enter Tryz.func122, Tryz.ntmps122
  go_wp2
  all_goals
    go_ret
    refine ⟨?_, rfl⟩
    rw [← HB.out]
    refine retb ?_
    unfold Utf8.valid
    rw [Bool.eq_iff_iff]
    simp
    try omega
set_option maxRecDepth 100000 in
theorem runes_low (n : Int) (h0 : 0 ≤ n) (h1 : n < 128) (w : World) : Calls Tryz.prog 113 #[.string five, .int .i32 n] w fun e w' => e = .returned (.int .i64 (Lib.indexByte five.data.toList n.toNat.toUInt8)) ∧ Below w.heap.size w w' := by
  have d0 : decide ((0 : Int) ≤ n) = true := decide_eq_true h0
  have d1 : decide (n < (128 : Int)) = true := decide_eq_true h1
  have HM := Lib.hid (show n % 256 = n by omega)
  clear h0 h1
  go_enter Tryz.func113, Tryz.ntmps113
  go_wp2_with (go_at_call 91; refine (sidx_any _ _ _).mono ?_; rintro e w1 ⟨rfl, hw⟩; obtain rfl := hw.symm)
  go_ret
  refine ⟨?_, Below.refl _ _⟩
  rw [HM.out]; rfl
set_option maxRecDepth 100000 in
theorem runes_bad (n : Int) (h0 : Utf8.valid n = false) (w : World) : Calls Tryz.prog 113 #[.string five, .int .i32 n] w fun e w' => e = .returned (.int .i64 (-1)) ∧ Below w.heap.size w w' := by
  have hv : Calls Tryz.prog 122 #[.int .i32 n] w fun e w' => e = .returned (.bool false) ∧ w' = w := by
    have := valid_any n w
    rwa [h0] at this
  have hr : ¬ (0 ≤ n ∧ n < 55296) := by
    intro h; unfold Utf8.valid at h0; simp at h0; omega
  have d1 : (n == 65533) = false := by
    rw [beq_eq_false_iff_ne]; intro e; subst e; revert h0; decide
  clear h0
  have HV := Lib.hid hv
  clear hv
  by_cases h : 0 ≤ n
  · have d0 : decide ((0 : Int) ≤ n) = true := decide_eq_true h
    have d2 : decide (n < (128 : Int)) = false := decide_eq_false (by omega)
    clear h hr
    go_enter Tryz.func113, Tryz.ntmps113
    go_wp2_with (go_at_call 122; refine HV.out.mono ?_; rintro e w1 ⟨rfl, hw⟩; obtain rfl := hw.symm)
    go_ret
    exact ⟨rfl, Below.refl _ _⟩
  · have d0 : decide ((0 : Int) ≤ n) = false := decide_eq_false h
    clear h hr
    go_enter Tryz.func113, Tryz.ntmps113
    go_wp2_with (go_at_call 122; refine HV.out.mono ?_; rintro e w1 ⟨rfl, hw⟩; obtain rfl := hw.symm)
    go_ret
    exact ⟨rfl, Below.refl _ _⟩
theorem five_low (j : Nat) (h : j < five.size) : (five[j]'h).toNat < 128 := by
  have h5 : j < 5 := h
  match j, h5 with
  | 0, _ => show (32 : UInt8).toNat < 128; decide
  | 1, _ => show (9 : UInt8).toNat < 128; decide
  | 2, _ => show (10 : UInt8).toNat < 128; decide
  | 3, _ => show (12 : UInt8).toNat < 128; decide
  | 4, _ => show (13 : UInt8).toNat < 128; decide
set_option maxRecDepth 100000 in
theorem runes_err (w : World) : Calls Tryz.prog 113 #[.string five, .int .i32 65533] w fun e w' => e = .returned (.int .i64 (-1)) ∧ Below w.heap.size w w' := by
  obtain ⟨s, hs⟩ : ∃ s, s = five := ⟨_, rfl⟩
  have hlow : ∀ (j : Nat) (h : j < s.size), (s[j]'h).toNat < 128 := by subst hs; exact five_low
  rw [← hs]
  clear hs
  have HL := Lib.hid hlow
  clear hlow
  have h0 : (w.iter s 0).heap[w.heap.size]? = some (.stringIter s 0) := w.iter_heap s 0
  have hb0 : Below w.heap.size w (w.iter s 0) := (Below.refl _ _).alloc (Nat.le_refl _) _
  go_enter Tryz.func113, Tryz.ntmps113
  go_wp2
  go_loopw [5] (fun _ wr => ∃ pos, wr.heap[w.heap.size]? = some (.stringIter s pos) ∧ Below w.heap.size w wr) (fun _ wr => s.size - wr.iterPos w.heap.size)
  case atStart => exact ⟨0, h0, hb0⟩
  case round =>
    obtain ⟨pos, hg, hB⟩ := hrel
    clear h0 hb0
    have HG := Lib.hid hg
    have HB := Lib.hid hB
    have HIP := Lib.hid (show wr.iterPos w.heap.size = pos by simp [World.iterPos, hg])
    clear hg hB
    by_cases hp : pos < s.size
    · have hnx : ∀ ty, (Instr.next (.pointer (some ⟨w.heap.size, 0, none⟩)) true ty).run Tryz.prog wr = _ := fun ty => run_next_at_ wr w.heap.size s pos ty HG.out hp
      rw [decode_ascii s pos hp (HL.out pos hp)] at hnx
      have h1 : ({ wr with heap := wr.heap.setIfInBounds w.heap.size (.stringIter s (pos + 1)) } : World).heap[w.heap.size]? = some (.stringIter s (pos + 1)) := by
        have hlt : w.heap.size < wr.heap.size := (Array.getElem?_eq_some_iff.1 HG.out).1
        simp [hlt]
      have hB1 := iter_below w.heap.size (.stringIter s (pos + 1)) w.heap.size HB.out (Nat.le_refl _)
      have hne : (((s[pos]'hp).toNat : Int) == 65533) = false := by
        have := HL.out pos hp
        rw [beq_eq_false_iff_ne]; omega
      simp only at hnx
      generalize ({ wr with heap := wr.heap.setIfInBounds w.heap.size (.stringIter s (pos + 1)) } : World) = w1 at *
      generalize ((s[pos]'hp).toNat : Int) = rn at *
      have H1 := Lib.hid h1
      have HB1 := Lib.hid hB1
      clear h1 hB1
      go_wp2
      go_roundw
      case rel => exact ⟨pos + 1, H1.out, HB1.out⟩
      case measure =>
        have e2 : w1.iterPos w.heap.size = pos + 1 := by simp [World.iterPos, H1.out]
        rw [HIP.out, e2]; omega
    · have hnx : ∀ ty, (Instr.next (.pointer (some ⟨w.heap.size, 0, none⟩)) true ty).run Tryz.prog wr = _ := fun ty => run_next_over wr w.heap.size s pos ty HG.out hp
      go_wp2
      go_ret
      exact ⟨rfl, HB.out⟩
theorem below_drewN_ {B : Nat} {a w : World} (h : Below B a w) (n : Nat) : Below B a (w.drewN n) := ⟨h.os, h.tape, h.output, h.size, h.block⟩
theorem idx_none (l : Tx) (c : UInt8) (h : ∀ x ∈ l, x ≠ c) : Lib.indexByte l c = -1 := by
  induction l with
  | nil => rfl
  | cons x l ih =>
    have h1 := h x (by simp)
    have h2 := ih (fun y hy => h y (by simp [hy]))
    unfold Lib.indexByte
    rw [if_neg (by simpa using h1), h2]
    rfl
set_option maxHeartbeats 1000000 in
set_option maxRecDepth 100000 in
theorem runes_wide (n : Int) (hv : Utf8.valid n = true) (h128 : 128 ≤ n) (hne : n ≠ 65533) (w : World) : Calls Tryz.prog 113 #[.string five, .int .i32 n] w fun e w' => e = .returned (.int .i64 (-1)) ∧ Below w.heap.size w w' := by
  have hval : Calls Tryz.prog 122 #[.int .i32 n] w fun e w' => e = .returned (.bool true) ∧ w' = w := by
    have := valid_any n w
    rwa [hv] at this
  obtain ⟨z2, z4, zb⟩ := encode_facts n hv h128
  obtain ⟨L, hL⟩ : ∃ L, Utf8.encode n = L := ⟨_, rfl⟩
  obtain ⟨s, hs⟩ : ∃ s, s = five := ⟨_, rfl⟩
  have hlow : ∀ (j : Nat) (h : j < s.size), (s[j]'h).toNat < 128 := by subst hs; exact five_low
  have hsz : s.size = 5 := by rw [hs]; rfl
  have d0 : decide ((0 : Int) ≤ n) = true := decide_eq_true (by omega)
  have d2 : decide (n < (128 : Int)) = false := decide_eq_false (by omega)
  have d1 : (n == 65533) = false := by rw [beq_eq_false_iff_ne]; exact hne
  rw [← hs]
  rw [hL] at z2 z4 zb
  have HV := Lib.hid hval
  have HL := Lib.hid hlow
  have HZB := Lib.hid zb
  obtain ⟨m, hm⟩ : ∃ m, L.size = m + 1 := ⟨L.size - 1, by omega⟩
  have hm1 : 1 ≤ m := by omega
  have hm3 : m ≤ 3 := by omega
  have hLm : m < L.size := by omega
  have hsm : m < s.size := by omega
  have hb128 : 128 ≤ (L[m]'hLm).toNat := by
    have := zb (by omega)
    simpa [hm] using this
  have hs128 : (s[m]'hsm).toNat < 128 := hlow m hsm
  have hq : (((s[m]'hsm).toNat : Int) != ((L[m]'hLm).toNat : Int)) = true := by rw [bne, beq_eq_false_iff_ne.2 (by omega)]; rfl
  have hix : Hid (∀ a b, Lib.indexByte (s.extract a b).data.toList (((L[m]'hLm).toNat : Int).toNat.toUInt8) = -1) := Lib.hid (fun a b => idx_none _ _ (fun x hx e => by
    have hx2 : x ∈ s.data.toList := by
      have := List.mem_of_mem_drop (List.mem_of_mem_take (show x ∈ (s.data.toList.drop a).take (b - a) by simpa [List.extract_eq_take_drop] using hx))
      exact this
    obtain ⟨j, hj, rfl⟩ := List.getElem_of_mem hx2
    have hj2 : j < s.size := by rw [Lib.size_eq]; exact hj
    have := hlow j hj2
    have e2 : (s.data.toList[j]).toNat = (s[j]'hj2).toNat := rfl
    rw [e] at e2
    simp at e2
    omega))
  clear hs hlow hval zb hv h128 hne z2 z4
  have HSZ := Lib.hid hsz
  clear hsz
  go_enter Tryz.func113, Tryz.ntmps113
  go_wp2_with (go_at_call 122; refine HV.out.mono ?_; rintro e w1 ⟨rfl, hw⟩; obtain rfl := hw.symm)
  go_step3
  go_wp2
  have l0 : (0 : Int) ≤ (m : Int) := by omega
  have l1 : (m : Int) < (s.size : Int) := by omega
  have l2 : (m : Int) < (L.size : Int) := by omega
  have l4 : (m : Int) + 1 ≤ (s.size : Int) := by omega
  have l5 : m + 1 ≤ s.size := by omega
  have l6 : s.size ≤ 5 := by have := HSZ.out; omega
  have lw : IntKind.i64.wrap ((m : Int) + 1) = (m : Int) + 1 := IntWalk.i64_in _ (by omega)
  have HMM := Lib.hid hm
  clear hm hm1 hm3 hL
  go_loop [9] (fun i => i = .int .i64 m) (fun i => 0)
  case atStart => rfl
  case round =>
    subst hrel
    go_wp2
    go_step3
    go_wp2
    go_quiet (fail)
    go_wp2
    have l7 : (0:Int) ≤ (m : Int) + 1 := by omega
    have l8 : ((m : Int) + 1).toNat = m + 1 := by omega
    go_quiet (first | (go_at_call 91; exact (sidx_any _ _ _).mono (fun _ _ h => ⟨h.1, _, h.2⟩)))
    rw [hix.out]
    go_wp2
    simp (config := { zetaDelta := true }) only [Exit.noGoto_ret, Exit.inBlock, Exit.then]
    go_simp
    try rw [Exit.noGoto_ret]
    go_simp
    try rw [Exit.noGoto_ret]
    go_simp
    go_ret
    exact ⟨rfl, below_drewN_ (Below.refl _ _) _⟩
def fiveI (n : Int) : Int := if 0 ≤ n ∧ n < 128 then Lib.indexByte five.data.toList n.toNat.toUInt8 else -1
theorem runes_any (n : Int) (w : World) : Calls Tryz.prog 113 #[.string five, .int .i32 n] w fun e w' => e = .returned (.int .i64 (fiveI n)) ∧ Below w.heap.size w w' := by
  by_cases h : 0 ≤ n ∧ n < 128
  · rw [show fiveI n = _ from if_pos h]
    exact runes_low n h.1 h.2 w
  · rw [show fiveI n = _ from if_neg h]
    by_cases he : n = 65533
    · subst he; exact runes_err w
    · cases hv : Utf8.valid n with
      | false => exact runes_bad n hv w
      | true =>
        have h0 : 0 ≤ n := by unfold Utf8.valid at hv; simp at hv; omega
        exact runes_wide n hv (by omega) he w
def fiveB (n : Int) : Bool := decide (0 ≤ fiveI n)
theorem conr_any (n : Int) (w : World) : Calls Tryz.prog 98 #[.string five, .int .i32 n] w fun e w' => e = .returned (.bool (fiveB n)) ∧ Below w.heap.size w w' := by
  obtain ⟨i, hi⟩ : ∃ i, fiveI n = i := ⟨_, rfl⟩
  have hr := runes_any n w
  rw [hi] at hr
  have e1 : fiveB n = decide (0 ≤ i) := by unfold fiveB; rw [hi]
  rw [e1]
  have HR := Lib.hid hr
  clear hr hi e1
  go_enter Tryz.func98, Tryz.ntmps98
  go_wp2_with (go_at_call 113; refine HR.out.mono ?_; rintro e w1 ⟨rfl, hb⟩)
  go_ret
  exact ⟨rfl, hb⟩
theorem blank_any (n : Int) (w : World) : Calls Tryz.prog 81 #[.int .i32 n] w fun e w' => e = .returned (.bool (fiveB n)) ∧ Below w.heap.size w w' := by
  obtain ⟨b, hb⟩ : ∃ b, fiveB n = b := ⟨_, rfl⟩
  have hr := conr_any n w
  rw [hb] at *
  have HR := Lib.hid hr
  clear hr hb
  go_enter Tryz.func81, Tryz.ntmps81
  go_wp2_with (go_at_call 98; refine HR.out.mono ?_; rintro e w1 ⟨rfl, hb⟩)
  go_ret
  exact ⟨rfl, hb⟩
def fiveQ (c : UInt8) : Bool := fiveB (c.toNat : Int)
theorem five_wide (n : Int) (h : 128 ≤ n) : fiveB n = false := by unfold fiveB fiveI; rw [if_neg (by omega)]; rfl
theorem kin_blank : Kin fiveB fiveQ false := ⟨fun _ _ => rfl, five_wide, fun c h => five_wide _ (by omega)⟩
end Go.Proofs.YtgnpkpboilnijaaGreatDoor
namespace Go.Proofs.YtgnpkpboilnijaaGreatDoor
open Go.ChangeShapes Go.WideShapes Go.ChangeAt Go.RowKit
set_option maxRecDepth 100000
set_option linter.unusedVariables false
set_option linter.unusedSimpArgs false

abbrev pcV (k : Int) (t : ByteArray) (n : Int) : Value := .agg #[.int .i64 k, .string t, .int .i64 n]
theorem bcell {W w1 : World} (hb : Below W.heap.size W w1) : (∀ b o, b < W.heap.size → w1.cell? ⟨b, o, none⟩ = W.cell? ⟨b, o, none⟩) ∧ (∀ b o, b < W.heap.size → w1.frozen? ⟨b, o, none⟩ = W.frozen? ⟨b, o, none⟩) :=
  ⟨fun b o h => hb.cell (p := ⟨b, o, none⟩) h, fun b o h => hb.frozen (p := ⟨b, o, none⟩) h⟩
theorem clone_any (s : ByteArray) (w : World) (hs : s.size ≤ 281474976710656) :
    Calls Tryz.prog 27 #[.string s] w fun e w' => e = .returned (.string s) ∧ Below w.heap.size w w' := by
  have c := fun w => Tryz.stringslite_Clone s w (by omega)
  go_enter Tryz.func27, Tryz.ntmps27
  go_wp2_with (go_at_call 44; refine (c _).mono ?_; rintro e w' ⟨rfl, hb⟩)
  go_ret
  exact ⟨rfl, hb⟩
theorem weak_ {f : Nat} {t : Int → Bool} (h : ∀ (n : Int) (w : World), Calls Tryz.prog f #[.int .i32 n] w fun e w' => e = .returned (.bool (t n)) ∧ w' = w) :
    ∀ (n : Int) (w : World), Calls Tryz.prog f #[.int .i32 n] w fun e w' => e = .returned (.bool (t n)) ∧ Below w.heap.size w w' :=
  fun n w => (h n w).mono fun e w' hh => ⟨hh.1, by rw [hh.2]; exact Below.refl _ _⟩
theorem gap_any (s : ByteArray) (w : World) :
    Calls Tryz.prog 55 #[.string s] w fun e w' => e = .returned (pcV 0 ⟨#[]⟩ (rowL fiveQ s.data.toList : Nat)) ∧ Below w.heap.size w w' := by
  have hr := fun w => row_blank fiveB fiveQ false (Lib.hid kin_blank) s w (Lib.hid blank_any)
  obtain ⟨n, hn⟩ : ∃ n, rowL fiveQ s.data.toList = n := ⟨_, rfl⟩
  simp only [hn] at hr
  rw [hn]
  have HR := Lib.hid hr
  clear hr hn
  go_enter Tryz.func55, Tryz.ntmps55
  go_wp2_with (go_at_call 80; refine (HR.out _).mono ?_; rintro e w1 ⟨rfl, hb1⟩; obtain ⟨hcc, hff⟩ := bcell hb1)
  have hB : Below w.heap.size w w1 := ((Below.refl _ _).alloc (Nat.le_refl _) _).trans (hb1.mono (by simp))
  refine bodyPost_ret (v := pcV 0 ⟨#[]⟩ (n : Nat)) (by simp [results, Tryz.results55, go_sem, hcc, hff]) rfl ?_
  refine ⟨rfl, ((hB.setCell ?_ _).setCell ?_ _).setCell ?_ _⟩ <;> exact Nat.le_refl _
/-- the block of a piece that a function has made, as it was made; nothing older is changed -/
structure Own3 (w w1 : World) : Prop where
  bel : Below w.heap.size w w1
  lt : w.heap.size < w1.heap.size
  k0 : w1.cell? ⟨w.heap.size, 0, none⟩ = some (.int .i64 0)
  k1 : w1.cell? ⟨w.heap.size, 1, none⟩ = some (.string ⟨#[]⟩)
  k2 : w1.cell? ⟨w.heap.size, 2, none⟩ = some (.int .i64 0)
  f0 : w1.frozen? ⟨w.heap.size, 0, none⟩ = false
  f1 : w1.frozen? ⟨w.heap.size, 1, none⟩ = false
  f2 : w1.frozen? ⟨w.heap.size, 2, none⟩ = false
theorem Own3.new (w : World) : Own3 w (w.alloc (.cells #[.int .i64 0, .string ⟨#[]⟩, .int .i64 0] 55)) :=
  ⟨(Below.refl _ _).alloc (Nat.le_refl _) _, by simp, by simp [go_sem], by simp [go_sem], by simp [go_sem], by simp [go_sem], by simp [go_sem], by simp [go_sem]⟩
theorem Own3.step {w w1 w2 : World} (h : Own3 w w1) (b : Below w1.heap.size w1 w2) : Own3 w w2 := by
  obtain ⟨h1, h2⟩ := bcell b
  exact ⟨h.bel.trans (b.mono (Nat.le_of_lt h.lt)), Nat.lt_of_lt_of_le h.lt b.size, by rw [h1 _ _ h.lt]; exact h.k0, by rw [h1 _ _ h.lt]; exact h.k1, by rw [h1 _ _ h.lt]; exact h.k2, by rw [h2 _ _ h.lt]; exact h.f0, by rw [h2 _ _ h.lt]; exact h.f1, by rw [h2 _ _ h.lt]; exact h.f2⟩
theorem rowL_le (p : UInt8 → Bool) (l : Tx) : rowL p l ≤ l.length := by
  unfold rowL
  exact (List.takeWhile_sublist p).length_le
theorem num_no (s : ByteArray) (w : World) (h0 : rowL digB s.data.toList = 0) :
    Calls Tryz.prog 62 #[.string s] w fun e w' => e = .returned (pcV 0 ⟨#[]⟩ 0) ∧ Below w.heap.size w w' := by
  have hr := fun w => row_digit digN digB false (Lib.hid kin_dig) s w (Lib.hid (weak_ dig_any))
  simp only [h0] at hr
  have HR := Lib.hid hr
  clear hr h0
  go_enter Tryz.func62, Tryz.ntmps62
  go_wp2_with (go_at_call 80; refine (HR.out _).mono ?_; rintro e w1 ⟨rfl, hb1⟩; obtain ⟨hcc, hff⟩ := bcell hb1)
  have hB : Below w.heap.size w w1 := ((Below.refl _ _).alloc (Nat.le_refl _) _).trans (hb1.mono (by simp))
  refine bodyPost_ret (v := pcV 0 ⟨#[]⟩ 0) (by simp [results, Tryz.results62, go_sem, hcc, hff]) rfl ?_
  refine ⟨rfl, ((hB.setCell ?_ _).setCell ?_ _).setCell ?_ _⟩ <;> exact Nat.le_refl _
theorem num_yes (s : ByteArray) (w : World) (hs : s.size ≤ 281474976710656) (h0 : rowL digB s.data.toList ≠ 0) :
    Calls Tryz.prog 62 #[.string s] w fun e w' => e = .returned (pcV 4 (s.extract 0 (rowL numB s.data.toList)) (rowL numB s.data.toList : Nat)) ∧ Below w.heap.size w w' := by
  have hr := fun w => row_digit digN digB false (Lib.hid kin_dig) s w (Lib.hid (weak_ dig_any))
  have hq := fun w => row_num numN numB false (Lib.hid kin_num) s w (Lib.hid (weak_ num_any))
  obtain ⟨n, hn⟩ : ∃ n, rowL numB s.data.toList = n := ⟨_, rfl⟩
  obtain ⟨m, hm⟩ : ∃ m, rowL digB s.data.toList = m := ⟨_, rfl⟩
  have hle : n ≤ s.size := by rw [← hn, Lib.size_eq]; exact rowL_le _ _
  rw [hn]
  simp only [hn] at hq
  simp only [hm] at hr
  rw [hm] at h0
  have hc := fun w => clone_any (s.extract 0 n) w (by rw [ByteArray.size_extract]; omega)
  have HR := Lib.hid hr
  have HQ := Lib.hid hq
  have HC := Lib.hid hc
  clear hr hq hn hm hc hs
  have c0 : ((m : Int) == 0) = false := by rw [beq_eq_false_iff_ne]; omega
  have c1 : (0 : Int) ≤ (n : Int) := by omega
  have c2 : (n : Int) ≤ (s.size : Int) := by omega
  clear h0
  go_enter Tryz.func62, Tryz.ntmps62
  go_wp2_with (first
    | (go_at_call 80; (with_reducible refine (HR.out _).mono ?_); rintro e w1 ⟨rfl, hb1⟩; have F1 := (Own3.new w).step hb1; clear hb1; obtain ⟨hB, hL, k0, k1, k2, f0, f1, f2⟩ := id F1)
    | (go_at_call 80; (with_reducible refine (HQ.out _).mono ?_); rintro e w2 ⟨rfl, hb2⟩; have F2 := F1.step hb2; clear hb2 hB hL k0 k1 k2 f0 f1 f2; obtain ⟨hB, hL, k0, k1, k2, f0, f1, f2⟩ := id F2)
    | (go_at_call 27; (with_reducible refine (HC.out _).mono ?_); rintro e w3 ⟨rfl, hb3⟩; have F3 := F2.step hb3; clear hb3 hB hL k0 k1 k2 f0 f1 f2; obtain ⟨hB, hL, k0, k1, k2, f0, f1, f2⟩ := id F3))
  refine bodyPost_ret (v := pcV 4 (s.extract 0 n) (n : Nat)) (by simp [results, Tryz.results62, go_sem, k0, k1, k2]) rfl ?_
  refine ⟨rfl, ((hB.setCell ?_ _).setCell ?_ _).setCell ?_ _⟩ <;> exact Nat.le_refl _
end Go.Proofs.YtgnpkpboilnijaaGreatDoor
namespace Go.Proofs.YtgnpkpboilnijaaGreatDoor
open Go.ChangeShapes Go.WideShapes Go.ChangeAt Go.RowKit
set_option maxRecDepth 100000
set_option linter.unusedVariables false
set_option linter.unusedSimpArgs false

def lowI (z : Int) : Int := if 65 ≤ z ∧ z ≤ 90 then z + 32 else z
def lowB (c : UInt8) : UInt8 := if 65 ≤ c.toNat ∧ c.toNat ≤ 90 then c + 32 else c
theorem lowB_I (c : UInt8) : ((lowB c).toNat : Int) = lowI (c.toNat : Int) := by
  unfold lowB lowI
  by_cases h : 65 ≤ c.toNat ∧ c.toNat ≤ 90
  · rw [if_pos h, if_pos (by omega), UInt8.toNat_add]
    have : (32 : UInt8).toNat = 32 := rfl
    rw [this]
    omega
  · rw [if_neg h, if_neg (by omega)]
def smallA (s : ByteArray) : ByteArray := ⟨(s.data.toList.map lowB).toArray⟩
structure SmI (s : ByteArray) (w : World) (k : Nat) (wr : World) : Prop where
  cell : ∀ (j : Nat) (hj : j < s.size), wr.cell? ⟨w.heap.size, j, none⟩ = some (.int .u8 ((if j < k then lowB s[j] else s[j]).toNat : Int))
  fro : ∀ (j : Nat) (hj : j < s.size), wr.frozen? ⟨w.heap.size, j, none⟩ = false
  bel : Below w.heap.size w wr
theorem SmI.keep {s : ByteArray} {w wr : World} {k : Nat} (h : SmI s w k wr) (hk : k < s.size) (hs : lowI (s[k].toNat : Int) = (s[k].toNat : Int)) : SmI s w (k + 1) wr := by
  refine ⟨fun j hj => ?_, h.fro, h.bel⟩
  rw [h.cell j hj]
  by_cases e : j = k
  · subst e
    rw [if_neg (by omega), if_pos (by omega), lowB_I, hs]
  · by_cases e2 : j < k
    · rw [if_pos e2, if_pos (by omega)]
    · rw [if_neg e2, if_neg (by omega)]
theorem SmI.put {s : ByteArray} {w wr : World} {k : Nat} (h : SmI s w k wr) (hk : k < s.size) (z : Int) (hz : z = lowI (s[k].toNat : Int)) : SmI s w (k + 1) (wr.setCell ⟨w.heap.size, k, none⟩ (.int .u8 z)) := by
  refine ⟨fun j hj => ?_, fun j hj => ?_, h.bel.setCell (Nat.le_refl _) _⟩
  · by_cases e : j = k
    · subst e
      rw [World.cell?_setCell_same _ _ _ (h.cell j hj), if_pos (by omega), lowB_I, hz]
    · rw [World.cell?_setCell_other _ _ _ _ (by intro h2; simp only [Addr.mk.injEq] at h2; omega), h.cell j hj]
      by_cases e2 : j < k
      · rw [if_pos e2, if_pos (by omega)]
      · rw [if_neg e2, if_neg (by omega)]
  · rw [World.frozen?_setCell]; exact h.fro j hj
set_option maxRecDepth 100000 in
theorem small_any (s : ByteArray) (hs : s.size ≤ 281474976710656) (w : World) : Calls Tryz.prog 86 #[.string s] w fun e w' => e = .returned (.string (smallA s)) ∧ Below w.heap.size w w' := by
  have hconv := run_bytes_of_string (P := Tryz.prog) w 9 58 5 s (by kernel_rfl) (by kernel_rfl) (by kernel_rfl)
  have hI : SmI s w 0 (w.drew.alloc (.cells (bytesRow s (grownCap w s.size 0 5)) 5 ((bytesRow s (grownCap w s.size 0 5)).size, (bytesRow s (grownCap w s.size 0 5)).size + 1))) := by
    have e1 : w.drew.heap.size = w.heap.size := by simp
    refine ⟨fun j hj => ?_, fun j hj => ?_, ((Below.refl _ _).drew).alloc (by simp) _⟩
    · rw [if_neg (by omega)]
      rw [← e1, World.cell?_alloc_mark, bytesRow_at s _ j hj]
      rfl
    · rw [← e1, World.frozen?_alloc_mark]
      have : j < (bytesRow s (grownCap w s.size 0 5)).size := by
        have := bytesRow_at s (grownCap w s.size 0 5) j hj
        exact (Array.getElem?_eq_some_iff.1 this).1
      rw [decide_eq_false (by omega)]; rfl
  generalize (w.drew.alloc (.cells (bytesRow s (grownCap w s.size 0 5)) 5 ((bytesRow s (grownCap w s.size 0 5)).size, (bytesRow s (grownCap w s.size 0 5)).size + 1))) = w1 at *
  generalize grownCap w s.size 0 5 = cap at *
  have HI := Lib.hid hI
  clear hI
  go_enter Tryz.func86, Tryz.ntmps86
  go_wp2
  go_loopw [10] (fun u10 wr => ∃ k : Nat, u10 = .int .i64 (k : Int) ∧ k ≤ s.size ∧ SmI s w k wr) (fun u10 _ => s.size - (match u10 with | .int _ k => k.toNat | _ => 0))
  case atStart => exact ⟨0, rfl, Nat.zero_le _, HI.out⟩
  case round =>
    obtain ⟨k, rfl, hks, hS⟩ := hrel
    clear HI hconv
    have HS := Lib.hid hS
    clear hS
    by_cases hk : k < s.size
    · have lw : Hid ((k : Int) + 1 = ((k + 1 : Nat) : Int)) := Lib.hid (by omega)
      obtain ⟨z, hz⟩ : ∃ z : Int, ((s[k]'hk).toNat : Int) = z := ⟨_, rfl⟩
      have hc : wr.cell? ⟨w.heap.size, k, none⟩ = some (.int .u8 z) := by
        have := HS.out.cell k hk
        rwa [if_neg (by omega), hz] at this
      have hf : wr.frozen? ⟨w.heap.size, k, none⟩ = false := HS.out.fro k hk
      have lk : (k : Int) < (s.size : Int) := by omega
      have l0 : (0 : Int) ≤ (k : Int) := by omega
      have HZ := Lib.hid hz
      clear hz
      by_cases h1 : 65 ≤ z ∧ z ≤ 90
      · obtain ⟨ha, hb⟩ := h1
        have s1 : IntKind.u8.wrap (z - 65) = z - 65 := IntWalk.u8_in _ (by omega)
        have s2 : IntKind.u8.wrap (z - 65 + 97) = z - 65 + 97 := IntWalk.u8_in _ (by omega)
        go_wp2
        refine ⟨⟨k + 1, by rw [lw.out], by omega, HS.out.put hk _ (by rw [HZ.out]; unfold lowI; rw [if_pos ⟨ha, hb⟩]; omega)⟩, ?_⟩
        rw [lw.out]; simp only [Int.toNat_natCast]; omega
      · by_cases h2 : 65 ≤ z
        · have h3 : ¬ (z ≤ 90) := by omega
          clear h1
          go_wp2
          refine ⟨⟨k + 1, by rw [lw.out], by omega, HS.out.keep hk (by rw [HZ.out]; unfold lowI; rw [if_neg (by omega)])⟩, ?_⟩
          rw [lw.out]; simp only [Int.toNat_natCast]; omega
        · clear h1
          go_wp2
          refine ⟨⟨k + 1, by rw [lw.out], by omega, HS.out.keep hk (by rw [HZ.out]; unfold lowI; rw [if_neg (by omega)])⟩, ?_⟩
          rw [lw.out]; simp only [Int.toNat_natCast]; omega
    · have lk : ¬ ((k : Int) < (s.size : Int)) := by omega
      have hks2 : k = s.size := by omega
      have hback := run_convert_bytes_back (P := Tryz.prog) wr 58 9 5 ⟨w.heap.size, 0, none⟩ cap (s.data.toList.map lowB) (by kernel_rfl) (by kernel_rfl) (by kernel_rfl) (fun j hj => by
        have hj2 : j < s.size := by rw [Lib.size_eq]; simpa using hj
        have := HS.out.cell j hj2
        rw [if_pos (by omega)] at this
        have ea : (⟨w.heap.size, 0, none⟩ : Addr).add j = ⟨w.heap.size, j, none⟩ := by simp [Addr.add]; exact fun h => h.symm
        rw [ea, this, List.getElem_map]
        rfl)
      rw [List.length_map, ← Lib.size_eq] at hback
      clear hks2
      go_wp2
      go_ret
      exact ⟨rfl, HS.out.bel⟩
theorem word_no (s : ByteArray) (w : World) (h0 : rowL letB s.data.toList = 0) :
    Calls Tryz.prog 58 #[.string s] w fun e w' => e = .returned (pcV 0 ⟨#[]⟩ 0) ∧ Below w.heap.size w w' := by
  have hr := fun w => row_letter letN letB true (Lib.hid kin_let) s w (Lib.hid (weak_ let_any))
  simp only [h0] at hr
  have HR := Lib.hid hr
  clear hr h0
  go_enter Tryz.func58, Tryz.ntmps58
  go_wp2_with (go_at_call 80; refine (HR.out _).mono ?_; rintro e w1 ⟨rfl, hb1⟩; obtain ⟨hcc, hff⟩ := bcell hb1)
  have hB : Below w.heap.size w w1 := ((Below.refl _ _).alloc (Nat.le_refl _) _).trans (hb1.mono (by simp))
  refine bodyPost_ret (v := pcV 0 ⟨#[]⟩ 0) (by simp [results, Tryz.results58, go_sem, hcc, hff]) rfl ?_
  refine ⟨rfl, ((hB.setCell ?_ _).setCell ?_ _).setCell ?_ _⟩ <;> exact Nat.le_refl _
theorem word_yes (s : ByteArray) (w : World) (hs : s.size ≤ 281474976710656) (h0 : rowL letB s.data.toList ≠ 0) :
    Calls Tryz.prog 58 #[.string s] w fun e w' => e = .returned (pcV 1 (smallA (s.extract 0 (rowL wordB s.data.toList))) (rowL wordB s.data.toList : Nat)) ∧ Below w.heap.size w w' := by
  have hr := fun w => row_letter letN letB true (Lib.hid kin_let) s w (Lib.hid (weak_ let_any))
  have hq := fun w => row_word wordN wordB true (Lib.hid kin_word) s w (Lib.hid (weak_ word_any))
  obtain ⟨n, hn⟩ : ∃ n, rowL wordB s.data.toList = n := ⟨_, rfl⟩
  obtain ⟨m, hm⟩ : ∃ m, rowL letB s.data.toList = m := ⟨_, rfl⟩
  have hle : n ≤ s.size := by rw [← hn, Lib.size_eq]; exact rowL_le _ _
  rw [hn]
  simp only [hn] at hq
  simp only [hm] at hr
  rw [hm] at h0
  have hc := fun w => small_any (s.extract 0 n) (by rw [ByteArray.size_extract]; omega) w
  have HR := Lib.hid hr
  have HQ := Lib.hid hq
  have HC := Lib.hid hc
  clear hr hq hn hm hc hs
  have c0 : ((m : Int) == 0) = false := by rw [beq_eq_false_iff_ne]; omega
  have c1 : (0 : Int) ≤ (n : Int) := by omega
  have c2 : (n : Int) ≤ (s.size : Int) := by omega
  clear h0
  go_enter Tryz.func58, Tryz.ntmps58
  go_wp2_with (first
    | (go_at_call 80; (with_reducible refine (HR.out _).mono ?_); rintro e w1 ⟨rfl, hb1⟩; have F1 := (Own3.new w).step hb1; clear hb1; obtain ⟨hB, hL, k0, k1, k2, f0, f1, f2⟩ := id F1)
    | (go_at_call 80; (with_reducible refine (HQ.out _).mono ?_); rintro e w2 ⟨rfl, hb2⟩; have F2 := F1.step hb2; clear hb2 hB hL k0 k1 k2 f0 f1 f2; obtain ⟨hB, hL, k0, k1, k2, f0, f1, f2⟩ := id F2)
    | (go_at_call 86; (with_reducible refine (HC.out _).mono ?_); rintro e w3 ⟨rfl, hb3⟩; have F3 := F2.step hb3; clear hb3 hB hL k0 k1 k2 f0 f1 f2; obtain ⟨hB, hL, k0, k1, k2, f0, f1, f2⟩ := id F3))
  refine bodyPost_ret (v := pcV 1 (smallA (s.extract 0 n)) (n : Nat)) (by simp [results, Tryz.results58, go_sem, k0, k1, k2]) rfl ?_
  refine ⟨rfl, ((hB.setCell ?_ _).setCell ?_ _).setCell ?_ _⟩ <;> exact Nat.le_refl _
end Go.Proofs.YtgnpkpboilnijaaGreatDoor
