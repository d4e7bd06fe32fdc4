/- What package lexer's blank answers: strings.ContainsRune of the five blanks. Condition: none. -/
import Derived.Test.YtlmgggipkdmdfaaDoorLxr
import Derived.Test.YtlmgggipkdmdfaaDoorLxi
import Derived.Laws.Runes
import Derived.WalkMore
import Derived.BigQuiet
import Derived.Deep.RegionWith
import Derived.Deep.RegionHeld3
import Derived.Deep.QuietTactic
namespace Go.Proofs.YtlmgggipkdmdfaaDoor
open Go.ChangeShapes Go.WideShapes Go.ChangeAt Go.RowKit
set_option linter.unusedVariables false
set_option linter.unusedSimpArgs false

def blkN (n : Int) : Bool := decide (n = 32 ∨ n = 9 ∨ n = 10 ∨ n = 12 ∨ n = 13)
abbrev five : ByteArray := ⟨#[32, 9, 10, 12, 13]⟩

theorem valid_any (n : Int) (w : World) : Calls Tryd.prog 79 #[.int .i32 n] w fun e w' => e = .returned (.bool (Utf8.valid n)) ∧ w' = w := by
  obtain ⟨b, hb⟩ : ∃ b, Utf8.valid n = b := ⟨_, rfl⟩
  rw [hb]
  have HB := Lib.hid hb
  clear hb
  go_enter Tryd.func79, Tryd.ntmps79
  go_wp2
  all_goals
    go_ret
    refine ⟨?_, rfl⟩
    rw [← HB.out]
    refine retb ?_
    unfold Utf8.valid
    rw [Bool.eq_iff_iff]
    simp
    try omega
set_option maxRecDepth 100000 in
theorem runes_low (n : Int) (h0 : 0 ≤ n) (h1 : n < 128) (w : World) : Calls Tryd.prog 71 #[.string five, .int .i32 n] w fun e w' => e = .returned (.int .i64 (Lib.indexByte five.data.toList n.toNat.toUInt8)) ∧ Below w.heap.size w w' := by
  have d0 : decide ((0 : Int) ≤ n) = true := decide_eq_true h0
  have d1 : decide (n < (128 : Int)) = true := decide_eq_true h1
  have HM := Lib.hid (show n % 256 = n by omega)
  clear h0 h1
  go_enter Tryd.func71, Tryd.ntmps71
  go_wp2_with (go_at_call 61; refine (sidx_any _ _ _).mono ?_; rintro e w1 ⟨rfl, hw⟩; obtain rfl := hw.symm)
  go_ret
  refine ⟨?_, Below.refl _ _⟩
  rw [HM.out]; rfl
set_option maxRecDepth 100000 in
theorem runes_bad (n : Int) (h0 : Utf8.valid n = false) (w : World) : Calls Tryd.prog 71 #[.string five, .int .i32 n] w fun e w' => e = .returned (.int .i64 (-1)) ∧ Below w.heap.size w w' := by
  have hv : Calls Tryd.prog 79 #[.int .i32 n] w fun e w' => e = .returned (.bool false) ∧ w' = w := by
    have := valid_any n w
    rwa [h0] at this
  have hr : ¬ (0 ≤ n ∧ n < 55296) := by
    intro h; unfold Utf8.valid at h0; simp at h0; omega
  have d1 : (n == 65533) = false := by
    rw [beq_eq_false_iff_ne]; intro e; subst e; revert h0; decide
  clear h0
  have HV := Lib.hid hv
  clear hv
  by_cases h : 0 ≤ n
  · have d0 : decide ((0 : Int) ≤ n) = true := decide_eq_true h
    have d2 : decide (n < (128 : Int)) = false := decide_eq_false (by omega)
    clear h hr
    go_enter Tryd.func71, Tryd.ntmps71
    go_wp2_with (go_at_call 79; refine HV.out.mono ?_; rintro e w1 ⟨rfl, hw⟩; obtain rfl := hw.symm)
    go_ret
    exact ⟨rfl, Below.refl _ _⟩
  · have d0 : decide ((0 : Int) ≤ n) = false := decide_eq_false h
    clear h hr
    go_enter Tryd.func71, Tryd.ntmps71
    go_wp2_with (go_at_call 79; refine HV.out.mono ?_; rintro e w1 ⟨rfl, hw⟩; obtain rfl := hw.symm)
    go_ret
    exact ⟨rfl, Below.refl _ _⟩
theorem five_low (j : Nat) (h : j < five.size) : (five[j]'h).toNat < 128 := by
  have h5 : j < 5 := h
  match j, h5 with
  | 0, _ => show (32 : UInt8).toNat < 128; decide
  | 1, _ => show (9 : UInt8).toNat < 128; decide
  | 2, _ => show (10 : UInt8).toNat < 128; decide
  | 3, _ => show (12 : UInt8).toNat < 128; decide
  | 4, _ => show (13 : UInt8).toNat < 128; decide
set_option maxRecDepth 100000 in
theorem runes_err (w : World) : Calls Tryd.prog 71 #[.string five, .int .i32 65533] w fun e w' => e = .returned (.int .i64 (-1)) ∧ Below w.heap.size w w' := by
  obtain ⟨s, hs⟩ : ∃ s, s = five := ⟨_, rfl⟩
  have hlow : ∀ (j : Nat) (h : j < s.size), (s[j]'h).toNat < 128 := by subst hs; exact five_low
  rw [← hs]
  clear hs
  have HL := Lib.hid hlow
  clear hlow
  have h0 : (w.iter s 0).heap[w.heap.size]? = some (.stringIter s 0) := w.iter_heap s 0
  have hb0 : Below w.heap.size w (w.iter s 0) := (Below.refl _ _).alloc (Nat.le_refl _) _
  go_enter Tryd.func71, Tryd.ntmps71
  go_wp2
  go_loopw [5] (fun _ wr => ∃ pos, wr.heap[w.heap.size]? = some (.stringIter s pos) ∧ Below w.heap.size w wr) (fun _ wr => s.size - wr.iterPos w.heap.size)
  case atStart => exact ⟨0, h0, hb0⟩
  case round =>
    obtain ⟨pos, hg, hB⟩ := hrel
    clear h0 hb0
    have HG := Lib.hid hg
    have HB := Lib.hid hB
    have HIP := Lib.hid (show wr.iterPos w.heap.size = pos by simp [World.iterPos, hg])
    clear hg hB
    by_cases hp : pos < s.size
    · have hnx : ∀ ty, (Instr.next (.pointer (some ⟨w.heap.size, 0, none⟩)) true ty).run Tryd.prog wr = _ := fun ty => run_next_at_ wr w.heap.size s pos ty HG.out hp
      rw [decode_ascii s pos hp (HL.out pos hp)] at hnx
      have h1 : ({ wr with heap := wr.heap.setIfInBounds w.heap.size (.stringIter s (pos + 1)) } : World).heap[w.heap.size]? = some (.stringIter s (pos + 1)) := by
        have hlt : w.heap.size < wr.heap.size := (Array.getElem?_eq_some_iff.1 HG.out).1
        simp [hlt]
      have hB1 := iter_below w.heap.size (.stringIter s (pos + 1)) w.heap.size HB.out (Nat.le_refl _)
      have hne : (((s[pos]'hp).toNat : Int) == 65533) = false := by
        have := HL.out pos hp
        rw [beq_eq_false_iff_ne]; omega
      simp only at hnx
      generalize ({ wr with heap := wr.heap.setIfInBounds w.heap.size (.stringIter s (pos + 1)) } : World) = w1 at *
      generalize ((s[pos]'hp).toNat : Int) = rn at *
      have H1 := Lib.hid h1
      have HB1 := Lib.hid hB1
      clear h1 hB1
      go_wp2
      go_roundw
      case rel => exact ⟨pos + 1, H1.out, HB1.out⟩
      case measure =>
        have e2 : w1.iterPos w.heap.size = pos + 1 := by simp [World.iterPos, H1.out]
        rw [HIP.out, e2]; omega
    · have hnx : ∀ ty, (Instr.next (.pointer (some ⟨w.heap.size, 0, none⟩)) true ty).run Tryd.prog wr = _ := fun ty => run_next_over wr w.heap.size s pos ty HG.out hp
      go_wp2
      go_ret
      exact ⟨rfl, HB.out⟩
theorem below_drewN_ {B : Nat} {a w : World} (h : Below B a w) (n : Nat) : Below B a (w.drewN n) := ⟨h.os, h.tape, h.output, h.size, h.block⟩
theorem idx_none (l : Tx) (c : UInt8) (h : ∀ x ∈ l, x ≠ c) : Lib.indexByte l c = -1 := by
  induction l with
  | nil => rfl
  | cons x l ih =>
    have h1 := h x (by simp)
    have h2 := ih (fun y hy => h y (by simp [hy]))
    unfold Lib.indexByte
    rw [if_neg (by simpa using h1), h2]
    rfl
set_option maxHeartbeats 1000000 in
set_option maxRecDepth 100000 in
theorem runes_wide (n : Int) (hv : Utf8.valid n = true) (h128 : 128 ≤ n) (hne : n ≠ 65533) (w : World) : Calls Tryd.prog 71 #[.string five, .int .i32 n] w fun e w' => e = .returned (.int .i64 (-1)) ∧ Below w.heap.size w w' := by
  have hval : Calls Tryd.prog 79 #[.int .i32 n] w fun e w' => e = .returned (.bool true) ∧ w' = w := by
    have := valid_any n w
    rwa [hv] at this
  obtain ⟨z2, z4, zb⟩ := encode_facts n hv h128
  obtain ⟨L, hL⟩ : ∃ L, Utf8.encode n = L := ⟨_, rfl⟩
  obtain ⟨s, hs⟩ : ∃ s, s = five := ⟨_, rfl⟩
  have hlow : ∀ (j : Nat) (h : j < s.size), (s[j]'h).toNat < 128 := by subst hs; exact five_low
  have hsz : s.size = 5 := by rw [hs]; rfl
  have d0 : decide ((0 : Int) ≤ n) = true := decide_eq_true (by omega)
  have d2 : decide (n < (128 : Int)) = false := decide_eq_false (by omega)
  have d1 : (n == 65533) = false := by rw [beq_eq_false_iff_ne]; exact hne
  rw [← hs]
  rw [hL] at z2 z4 zb
  have HV := Lib.hid hval
  have HL := Lib.hid hlow
  have HZB := Lib.hid zb
  obtain ⟨m, hm⟩ : ∃ m, L.size = m + 1 := ⟨L.size - 1, by omega⟩
  have hm1 : 1 ≤ m := by omega
  have hm3 : m ≤ 3 := by omega
  have hLm : m < L.size := by omega
  have hsm : m < s.size := by omega
  have hb128 : 128 ≤ (L[m]'hLm).toNat := by
    have := zb (by omega)
    simpa [hm] using this
  have hs128 : (s[m]'hsm).toNat < 128 := hlow m hsm
  have hq : (((s[m]'hsm).toNat : Int) != ((L[m]'hLm).toNat : Int)) = true := by rw [bne, beq_eq_false_iff_ne.2 (by omega)]; rfl
  have hix : Hid (∀ a b, Lib.indexByte (s.extract a b).data.toList (((L[m]'hLm).toNat : Int).toNat.toUInt8) = -1) := Lib.hid (fun a b => idx_none _ _ (fun x hx e => by
    have hx2 : x ∈ s.data.toList := by
      have := List.mem_of_mem_drop (List.mem_of_mem_take (show x ∈ (s.data.toList.drop a).take (b - a) by simpa [List.extract_eq_take_drop] using hx))
      exact this
    obtain ⟨j, hj, rfl⟩ := List.getElem_of_mem hx2
    have hj2 : j < s.size := by rw [Lib.size_eq]; exact hj
    have := hlow j hj2
    have e2 : (s.data.toList[j]).toNat = (s[j]'hj2).toNat := rfl
    rw [e] at e2
    simp at e2
    omega))
  clear hs hlow hval zb hv h128 hne z2 z4
  have HSZ := Lib.hid hsz
  clear hsz
  go_enter Tryd.func71, Tryd.ntmps71
  go_wp2_with (go_at_call 79; refine HV.out.mono ?_; rintro e w1 ⟨rfl, hw⟩; obtain rfl := hw.symm)
  go_step3
  go_wp2
  have l0 : (0 : Int) ≤ (m : Int) := by omega
  have l1 : (m : Int) < (s.size : Int) := by omega
  have l2 : (m : Int) < (L.size : Int) := by omega
  have l4 : (m : Int) + 1 ≤ (s.size : Int) := by omega
  have l5 : m + 1 ≤ s.size := by omega
  have l6 : s.size ≤ 5 := by have := HSZ.out; omega
  have lw : IntKind.i64.wrap ((m : Int) + 1) = (m : Int) + 1 := IntWalk.i64_in _ (by omega)
  have HMM := Lib.hid hm
  clear hm hm1 hm3 hL
  go_loop [9] (fun i => i = .int .i64 m) (fun i => 0)
  case atStart => rfl
  case round =>
    subst hrel
    go_wp2
    go_step3
    go_wp2
    go_quiet (fail)
    go_wp2
    have l7 : (0:Int) ≤ (m : Int) + 1 := by omega
    have l8 : ((m : Int) + 1).toNat = m + 1 := by omega
    go_quiet (first | (go_at_call 61; exact (sidx_any _ _ _).mono (fun _ _ h => ⟨h.1, _, h.2⟩)))
    rw [hix.out]
    go_wp2
    simp (config := { zetaDelta := true }) only [Exit.noGoto_ret, Exit.inBlock, Exit.then]
    go_simp
    try rw [Exit.noGoto_ret]
    go_simp
    try rw [Exit.noGoto_ret]
    go_simp
    go_ret
    exact ⟨rfl, below_drewN_ (Below.refl _ _) _⟩
def fiveI (n : Int) : Int := if 0 ≤ n ∧ n < 128 then Lib.indexByte five.data.toList n.toNat.toUInt8 else -1
theorem runes_any (n : Int) (w : World) : Calls Tryd.prog 71 #[.string five, .int .i32 n] w fun e w' => e = .returned (.int .i64 (fiveI n)) ∧ Below w.heap.size w w' := by
  by_cases h : 0 ≤ n ∧ n < 128
  · rw [show fiveI n = _ from if_pos h]
    exact runes_low n h.1 h.2 w
  · rw [show fiveI n = _ from if_neg h]
    by_cases he : n = 65533
    · subst he; exact runes_err w
    · cases hv : Utf8.valid n with
      | false => exact runes_bad n hv w
      | true =>
        have h0 : 0 ≤ n := by unfold Utf8.valid at hv; simp at hv; omega
        exact runes_wide n hv (by omega) he w
def fiveB (n : Int) : Bool := decide (0 ≤ fiveI n)
theorem conr_any (n : Int) (w : World) : Calls Tryd.prog 64 #[.string five, .int .i32 n] w fun e w' => e = .returned (.bool (fiveB n)) ∧ Below w.heap.size w w' := by
  obtain ⟨i, hi⟩ : ∃ i, fiveI n = i := ⟨_, rfl⟩
  have hr := runes_any n w
  rw [hi] at hr
  have e1 : fiveB n = decide (0 ≤ i) := by unfold fiveB; rw [hi]
  rw [e1]
  have HR := Lib.hid hr
  clear hr hi e1
  go_enter Tryd.func64, Tryd.ntmps64
  go_wp2_with (go_at_call 71; refine HR.out.mono ?_; rintro e w1 ⟨rfl, hb⟩)
  go_ret
  exact ⟨rfl, hb⟩
theorem blank_any (n : Int) (w : World) : Calls Tryd.prog 50 #[.int .i32 n] w fun e w' => e = .returned (.bool (fiveB n)) ∧ Below w.heap.size w w' := by
  obtain ⟨b, hb⟩ : ∃ b, fiveB n = b := ⟨_, rfl⟩
  have hr := conr_any n w
  rw [hb] at *
  have HR := Lib.hid hr
  clear hr hb
  go_enter Tryd.func50, Tryd.ntmps50
  go_wp2_with (go_at_call 64; refine HR.out.mono ?_; rintro e w1 ⟨rfl, hb⟩)
  go_ret
  exact ⟨rfl, hb⟩
def fiveQ (c : UInt8) : Bool := fiveB (c.toNat : Int)
theorem five_wide (n : Int) (h : 128 ≤ n) : fiveB n = false := by unfold fiveB fiveI; rw [if_neg (by omega)]; rfl
theorem kin_blank : Kin fiveB fiveQ false := ⟨fun _ _ => rfl, five_wide, fun c h => five_wide _ (by omega)⟩
end Go.Proofs.YtlmgggipkdmdfaaDoor
