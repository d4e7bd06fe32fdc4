/- What package lexer's sign and param answer, strings.HasPrefix and CutPrefix. Condition: a text's length; of sign, that it is not empty.
   What package lexer's param answers. Condition: a text's length.
   What package lexer's lineRemark answers. Condition: the global of bytealg, a text's length. -/
import Derived.Test.YtgnpkpboilnijaaGreatDoorG3
import Derived.WalkMore
import Derived.BigQuiet
import Derived.IntWalk
import Derived.Deep.QuietTactic
set_option linter.unusedSimpArgs false
set_option linter.unusedVariables false
namespace Go.Proofs.YtgnpkpboilnijaaGreatDoor
open Go.ChangeShapes Go.WideShapes Go.ChangeAt Go.RowKit
set_option maxRecDepth 100000
set_option linter.unusedVariables false
set_option linter.unusedSimpArgs false

abbrev signT : ByteArray := ⟨#[40, 41, 44, 59, 46, 61, 60, 62, 43, 45, 42, 47, 37, 38, 124, 94, 126, 33, 64, 35, 63, 58, 91, 93]⟩
def signI (c : UInt8) : Int := Lib.indexByte signT.data.toList c
theorem sign_any (s : ByteArray) (h : 0 < s.size) (w : World) : Calls Tryz.prog 64 #[.string s] w fun e w' =>
    e = .returned (if signI (s[0]'h) < 0 then pcV 0 ⟨#[]⟩ 0 else pcV 5 (s.extract 0 1) 1) ∧ Below w.heap.size w w' := by
  obtain ⟨i, hi⟩ : ∃ i, signI (s[0]'h) = i := ⟨_, rfl⟩
  have hc : ∀ w, Calls Tryz.prog 91 #[.string signT, .int .u8 ((s[0]'h).toNat : Int)] w fun e w' => e = .returned (.int .i64 i) ∧ w' = w := by
    intro w
    have := sidx_any signT ((s[0]'h).toNat : Int) w
    rwa [show ((s[0]'h).toNat : Int).toNat.toUInt8 = s[0]'h by simp, show Lib.indexByte signT.data.toList (s[0]'h) = i from hi] at this
  have hk := fun w => clone_any (s.extract 0 1) w (by rw [ByteArray.size_extract]; omega)
  have hz : (0 : Int) < (s.size : Int) := by omega
  have h1 : (1 : Int) ≤ (s.size : Int) := by omega
  rw [hi]
  have HC := Lib.hid hc
  have HK := Lib.hid hk
  clear hc hi hk
  by_cases hi : i < 0
  · rw [if_pos hi]
    go_enter Tryz.func64, Tryz.ntmps64
    go_wp2_with (first
      | (go_at_call 91; (with_reducible refine (HC.out _).mono ?_); rintro e w1 ⟨rfl, hw⟩; obtain rfl := hw.symm))
    refine bodyPost_ret (v := pcV 0 ⟨#[]⟩ 0) (by simp [results, Tryz.results64, go_sem]) rfl ?_
    exact ⟨rfl, (Below.refl _ _).alloc (Nat.le_refl _) _⟩
  · rw [if_neg hi]
    go_enter Tryz.func64, Tryz.ntmps64
    go_wp2_with (first
      | (go_at_call 91; (with_reducible refine (HC.out _).mono ?_); rintro e w1 ⟨rfl, hw⟩; obtain rfl := hw.symm)
      | (go_at_call 27; (with_reducible refine (HK.out _).mono ?_); rintro e w3 ⟨rfl, hb3⟩; have F3 := (Own3.new w).step hb3; clear hb3; obtain ⟨hB, hL, k0, k1, k2, f0, f1, f2⟩ := id F3))
    refine bodyPost_ret (v := pcV 5 (s.extract 0 1) 1) (by simp [results, Tryz.results64, go_sem, k0, k1, k2]) rfl ?_
    refine ⟨rfl, ((hB.setCell ?_ _).setCell ?_ _).setCell ?_ _⟩ <;> exact Nat.le_refl _
def hpB (s p : ByteArray) : Bool := decide (p.size ≤ s.size) && ((s.extract 0 p.size).toList == p.toList)
theorem lhp_any (s p : ByteArray) (w : World) : Calls Tryz.prog 95 #[.string s, .string p] w fun e w' => e = .returned (.bool (hpB s p)) ∧ w' = w := by
  by_cases hle : p.size ≤ s.size
  · have c0 : (p.size : Int) ≤ (s.size : Int) := by omega
    have c1 : (0 : Int) ≤ (p.size : Int) := by omega
    obtain ⟨b, hb⟩ : ∃ b, ((s.extract 0 p.size).toList == p.toList) = b := ⟨_, rfl⟩
    rw [show hpB s p = b by unfold hpB; rw [decide_eq_true hle, hb]; rfl]
    go_enter Tryz.func95, Tryz.ntmps95
    go_wp2
    go_ret
    exact ⟨rfl, rfl⟩
  · have c0 : ¬ ((p.size : Int) ≤ (s.size : Int)) := by omega
    rw [show hpB s p = false by unfold hpB; rw [decide_eq_false hle]; rfl]
    go_enter Tryz.func95, Tryz.ntmps95
    go_wp2
    go_ret
    exact ⟨rfl, rfl⟩
theorem hp_any (s p : ByteArray) (w : World) : Calls Tryz.prog 82 #[.string s, .string p] w fun e w' => e = .returned (.bool (hpB s p)) ∧ w' = w := by
  have h := lhp_any s p
  generalize hpB s p = b at *
  have H := Lib.hid h
  clear h
  go_enter Tryz.func82, Tryz.ntmps82
  go_wp2_with (go_at_call 95; refine (H.out _).mono ?_; rintro e w1 ⟨rfl, hw⟩; obtain rfl := hw.symm)
  go_ret
  exact ⟨rfl, rfl⟩
def cutpV (s p : ByteArray) : Value := .tuple #[.string (if hpB s p = true then s.extract p.size s.size else s), .bool (hpB s p)]
theorem lcutp_any (s p : ByteArray) (w : World) : Calls Tryz.prog 70 #[.string s, .string p] w fun e w' => e = .returned (cutpV s p) ∧ w' = w := by
  have h := lhp_any s p
  unfold cutpV
  cases hb : hpB s p with
  | true =>
    have hle : p.size ≤ s.size := by unfold hpB at hb; simp at hb; exact hb.1
    have c0 : (p.size : Int) ≤ (s.size : Int) := by omega
    have c1 : (0 : Int) ≤ (p.size : Int) := by omega
    rw [hb] at h
    have H := Lib.hid h
    clear h hb
    rw [if_pos rfl]
    go_enter Tryz.func70, Tryz.ntmps70
    go_wp2_with (go_at_call 95; refine (H.out _).mono ?_; rintro e w1 ⟨rfl, hw⟩; obtain rfl := hw.symm)
    go_ret2
    exact ⟨rfl, rfl⟩
  | false =>
    rw [hb] at h
    have H := Lib.hid h
    clear h hb
    rw [if_neg (by simp)]
    go_enter Tryz.func70, Tryz.ntmps70
    go_wp2_with (go_at_call 95; refine (H.out _).mono ?_; rintro e w1 ⟨rfl, hw⟩; obtain rfl := hw.symm)
    go_ret2
    exact ⟨rfl, rfl⟩
theorem cutp_any (s p : ByteArray) (w : World) : Calls Tryz.prog 41 #[.string s, .string p] w fun e w' => e = .returned (cutpV s p) ∧ w' = w := by
  have h := lcutp_any s p
  unfold cutpV at *
  generalize (if hpB s p = true then s.extract p.size s.size else s) = t at *
  generalize hpB s p = b at *
  have H := Lib.hid h
  clear h
  go_enter Tryz.func41, Tryz.ntmps41
  go_wp2_with (go_at_call 70; refine (H.out _).mono ?_; rintro e w1 ⟨rfl, hw⟩; obtain rfl := hw.symm)
  go_ret2
  exact ⟨rfl, rfl⟩
end Go.Proofs.YtgnpkpboilnijaaGreatDoor
namespace Go.Proofs.YtgnpkpboilnijaaGreatDoor
open Go.ChangeShapes Go.WideShapes Go.ChangeAt Go.RowKit
set_option maxRecDepth 100000
set_option linter.unusedVariables false
set_option linter.unusedSimpArgs false

abbrev dolT : ByteArray := ⟨#[36]⟩
theorem param_core (s r : ByteArray) (b : Bool) (n : Nat) (w : World) (hn : rowL digB r.data.toList = n) (hle : n + 1 ≤ s.size ∨ b = false ∨ n = 0) (hs : s.size ≤ 281474976710656)
    (hc : ∀ w, Calls Tryz.prog 41 #[.string s, .string dolT] w fun e w' => e = .returned (.tuple #[.string r, .bool b]) ∧ w' = w) :
    Calls Tryz.prog 63 #[.string s] w fun e w' => e = .returned (if b = false ∨ n = 0 then pcV 0 ⟨#[]⟩ 0 else pcV 5 (s.extract 0 (n + 1)) ((n + 1 : Nat) : Int)) ∧ Below w.heap.size w w' := by
  have hr := fun w => row_digit digN digB false (Lib.hid kin_dig) r w (Lib.hid (weak_ dig_any))
  have hk := fun w => clone_any (s.extract 0 (n + 1)) w (by rw [ByteArray.size_extract]; omega)
  simp only [hn] at hr
  have HC := Lib.hid hc
  have HR := Lib.hid hr
  have HK := Lib.hid hk
  clear hc hr hk hn
  by_cases h : b = false ∨ n = 0
  · rw [if_pos h]
    cases b with
    | false =>
      clear h hle
      go_enter Tryz.func63, Tryz.ntmps63
      go_wp2_with (first
        | (go_at_call 41; (with_reducible refine (HC.out _).mono ?_); rintro e w1 ⟨rfl, hw⟩; obtain rfl := hw.symm)
        | (go_at_call 80; (with_reducible refine (HR.out _).mono ?_); rintro e w2 ⟨rfl, hb1⟩; have F1 := (Own3.new w).step hb1; clear hb1; obtain ⟨hB, hL, k0, k1, k2, f0, f1, f2⟩ := id F1))
      refine bodyPost_ret (v := pcV 0 ⟨#[]⟩ 0) (by simp [results, Tryz.results63, go_sem, k0, k1, k2]) rfl ?_
      refine ⟨rfl, ((hB.setCell ?_ _).setCell ?_ _).setCell ?_ _⟩ <;> exact Nat.le_refl _
    | true =>
      have h0 : n = 0 := by simpa using h
      subst h0
      clear h hle
      go_enter Tryz.func63, Tryz.ntmps63
      go_wp2_with (first
        | (go_at_call 41; (with_reducible refine (HC.out _).mono ?_); rintro e w1 ⟨rfl, hw⟩; obtain rfl := hw.symm)
        | (go_at_call 80; (with_reducible refine (HR.out _).mono ?_); rintro e w2 ⟨rfl, hb1⟩; have F1 := (Own3.new w).step hb1; clear hb1; obtain ⟨hB, hL, k0, k1, k2, f0, f1, f2⟩ := id F1))
      refine bodyPost_ret (v := pcV 0 ⟨#[]⟩ 0) (by simp [results, Tryz.results63, go_sem, k0, k1, k2]) rfl ?_
      refine ⟨rfl, ((hB.setCell ?_ _).setCell ?_ _).setCell ?_ _⟩ <;> exact Nat.le_refl _
  · rw [if_neg h]
    have hb : b = true := by
      cases b with
      | true => rfl
      | false => exact absurd (Or.inl rfl) h
    subst hb
    have hn0 : n ≠ 0 := fun e => h (Or.inr e)
    have hl : n + 1 ≤ s.size := by
      rcases hle with h1 | h1 | h1
      · exact h1
      · cases h1
      · exact absurd h1 hn0
    have c0 : ((n : Int) == 0) = false := by rw [beq_eq_false_iff_ne]; omega
    obtain ⟨m, hm⟩ : ∃ m, n + 1 = m := ⟨_, rfl⟩
    have e0 : (n : Int) + 1 = (m : Int) := by omega
    have cw : IntKind.i64.wrap ((n : Int) + 1) = (m : Int) := by rw [e0]; exact IntWalk.i64_in _ (by omega)
    rw [hm] at HK ⊢
    have c1 : (0 : Int) ≤ (m : Int) := by omega
    have c2 : (m : Int) ≤ (s.size : Int) := by omega
    clear h hle hn0 hl hm hs
    have E0 := Lib.hid e0
    clear e0
    go_enter Tryz.func63, Tryz.ntmps63
    go_wp2_with (first
      | (go_at_call 41; (with_reducible refine (HC.out _).mono ?_); rintro e w1 ⟨rfl, hw⟩; obtain rfl := hw.symm)
      | (go_at_call 80; (with_reducible refine (HR.out _).mono ?_); rintro e w2 ⟨rfl, hb1⟩; have F1 := (Own3.new w).step hb1; clear hb1; obtain ⟨hB, hL, k0, k1, k2, f0, f1, f2⟩ := id F1)
      | (go_at_call 27; (with_reducible refine (HK.out _).mono ?_); rintro e w3 ⟨rfl, hb3⟩; have F3 := F1.step hb3; clear hb3 hB hL k0 k1 k2 f0 f1 f2; obtain ⟨hB, hL, k0, k1, k2, f0, f1, f2⟩ := id F3))
    refine bodyPost_ret (v := pcV 5 (s.extract 0 m) (m : Nat)) (by simp [results, Tryz.results63, go_sem, k0, k1, k2]) rfl ?_
    refine ⟨rfl, ((hB.setCell ?_ _).setCell ?_ _).setCell ?_ _⟩ <;> exact Nat.le_refl _
def dolR (s : ByteArray) : ByteArray := if hpB s dolT = true then s.extract 1 s.size else s
def parN (s : ByteArray) : Nat := rowL digB (dolR s).data.toList
theorem param_any (s : ByteArray) (w : World) (hs : s.size ≤ 281474976710656) :
    Calls Tryz.prog 63 #[.string s] w fun e w' => e = .returned (if hpB s dolT = false ∨ parN s = 0 then pcV 0 ⟨#[]⟩ 0 else pcV 5 (s.extract 0 (parN s + 1)) ((parN s + 1 : Nat) : Int)) ∧ Below w.heap.size w w' := by
  refine param_core s (dolR s) (hpB s dolT) (parN s) w rfl ?_ hs (fun w => cutp_any s dolT w)
  cases hb : hpB s dolT with
  | false => exact .inr (.inl rfl)
  | true =>
    have hle : 1 ≤ s.size := by unfold hpB at hb; simp at hb; exact hb.1
    left
    have h1 : parN s ≤ (dolR s).size := by rw [Lib.size_eq]; exact rowL_le _ _
    have h2 : (dolR s).size = s.size - 1 := by unfold dolR; rw [if_pos hb, ByteArray.size_extract]; omega
    omega
end Go.Proofs.YtgnpkpboilnijaaGreatDoor
namespace Go.Proofs.YtgnpkpboilnijaaGreatDoor
open Go.ChangeShapes Go.WideShapes Go.ChangeAt Go.RowKit
set_option maxRecDepth 100000
set_option linter.unusedVariables false
set_option linter.unusedSimpArgs false

/-- the word that package bytealg keeps -/
def Wd (m : Int) (w : World) : Prop := w.cell? ⟨0, 0, none⟩ = some (.int .i64 m)
theorem Wd.lt {m : Int} {w : World} (h : Wd m w) : 0 < w.heap.size := by
  unfold Wd World.cell? at h
  split at h
  · rename_i hb
    exact (Array.getElem?_eq_some_iff.1 hb).1
  · simp at h
theorem Wd.below {m : Int} {w w' : World} (h : Wd m w) (b : Below w.heap.size w w') : Wd m w' := by
  unfold Wd
  rw [b.cell (p := ⟨0, 0, none⟩) h.lt]
  exact h
theorem Own3.drewN {w w1 : World} (h : Own3 w w1) (n : Nat) : Own3 w (w1.drewN n) := h.step (below_drewN_ (Below.refl _ _) _)
abbrev dashT : ByteArray := ⟨#[45, 45]⟩
def lineA (s : ByteArray) : ByteArray := ⟨(Lib.cut s.data.toList [10]).1.toArray⟩
theorem line_any (s : ByteArray) (m : Int) (w : World) (hs : s.size < 4294967281) (hm : Wd m w) :
    Calls Tryz.prog 56 #[.string s] w fun e w' => e = .returned (pcV 0 ⟨#[]⟩ (if hpB s dashT = true then ((lineA s).size : Int) else 0)) ∧ Below w.heap.size w w' := by
  have hc : ∀ w1, Wd m w1 → _ := fun w1 h1 => Tryz.strings_Cut s ⟨#[10]⟩ m w1 hs h1
  have hp := fun w => hp_any s dashT w
  have hown := Own3.new w
  have hw := hm.below hown.bel
  have hb : ∀ v : ByteArray, v = lineA s → (v.size : Int) = ((lineA s).size : Int) := fun v h => by rw [h]
  have e1 : (⟨(Lib.cut s.data.toList (⟨#[10]⟩ : ByteArray).data.toList).1.toArray⟩ : ByteArray) = lineA s := rfl
  rw [e1] at hc
  generalize lineA s = l at *
  generalize (⟨(Lib.cut s.data.toList (⟨#[10]⟩ : ByteArray).data.toList).2.1.toArray⟩ : ByteArray) = l2 at *
  generalize (Lib.cut s.data.toList (⟨#[10]⟩ : ByteArray).data.toList).2.2 = b at *
  have HC := Lib.hid hc
  have HO := Lib.hid hown
  have HW := Lib.hid hw
  clear hc hown hw e1 hm hb
  cases hpb : hpB s dashT with
  | false =>
    rw [hpb] at hp
    have HP := Lib.hid hp
    clear hp hpb
    rw [if_neg (by simp)]
    go_enter Tryz.func56, Tryz.ntmps56
    go_wp2_with (first
      | (go_at_call 82; (with_reducible refine (HP.out _).mono ?_); rintro e w1 ⟨rfl, hw⟩; obtain rfl := hw.symm))
    refine bodyPost_ret (v := pcV 0 ⟨#[]⟩ 0) (by simp [results, Tryz.results56, go_sem]) rfl ?_
    exact ⟨rfl, (Below.refl _ _).alloc (Nat.le_refl _) _⟩
  | true =>
    rw [hpb] at hp
    have HP := Lib.hid hp
    clear hp hpb
    rw [if_pos rfl]
    go_enter Tryz.func56, Tryz.ntmps56
    go_wp2_with (first
      | (go_at_call 82; (with_reducible refine (HP.out _).mono ?_); rintro e w1 ⟨rfl, hw⟩; obtain rfl := hw.symm)
      | (go_at_call 83; refine (HC.out _ HW.out).mono ?_; rintro e w2 ⟨rfl, nq, rfl⟩; have F1 := HO.out.drewN nq; obtain ⟨hB, hL, k0, k1, k2, f0, f1, f2⟩ := id F1))
    refine bodyPost_ret (v := pcV 0 ⟨#[]⟩ (l.size : Int)) (by simp [results, Tryz.results56, go_sem, k0, k1, k2]) rfl ?_
    refine ⟨rfl, ((hB.setCell ?_ _).setCell ?_ _).setCell ?_ _⟩ <;> exact Nat.le_refl _
end Go.Proofs.YtgnpkpboilnijaaGreatDoor
