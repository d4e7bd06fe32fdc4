/- What package lexer's lineRemark answers. Condition: the global of bytealg, a text's length. -/
import Derived.Test.YtlmgggipkdmdfaaDoorLxg
import Derived.WalkMore
import Derived.BigQuiet
import Derived.IntWalk
import Derived.Deep.QuietTactic
namespace Go.Proofs.YtlmgggipkdmdfaaDoor
open Go.ChangeShapes Go.WideShapes Go.ChangeAt Go.RowKit
set_option linter.unusedVariables false
set_option linter.unusedSimpArgs false

/-- the word that package bytealg keeps -/
def Wd (m : Int) (w : World) : Prop := w.cell? ⟨0, 0, none⟩ = some (.int .i64 m)
theorem Wd.lt {m : Int} {w : World} (h : Wd m w) : 0 < w.heap.size := by
  unfold Wd World.cell? at h
  split at h
  · rename_i hb
    exact (Array.getElem?_eq_some_iff.1 hb).1
  · simp at h
theorem Wd.below {m : Int} {w w' : World} (h : Wd m w) (b : Below w.heap.size w w') : Wd m w' := by
  unfold Wd
  rw [b.cell (p := ⟨0, 0, none⟩) h.lt]
  exact h
theorem Own3.drewN {w w1 : World} (h : Own3 w w1) (n : Nat) : Own3 w (w1.drewN n) := h.step (below_drewN_ (Below.refl _ _) _)
abbrev dashT : ByteArray := ⟨#[45, 45]⟩
def lineA (s : ByteArray) : ByteArray := ⟨(Lib.cut s.data.toList [10]).1.toArray⟩
theorem line_any (s : ByteArray) (m : Int) (w : World) (hs : s.size < 4294967281) (hm : Wd m w) :
    Calls Tryd.prog 27 #[.string s] w fun e w' => e = .returned (pcV 0 ⟨#[]⟩ (if hpB s dashT = true then ((lineA s).size : Int) else 0)) ∧ Below w.heap.size w w' := by
  have hc : ∀ w1, Wd m w1 → _ := fun w1 h1 => Tryd.strings_Cut s ⟨#[10]⟩ m w1 hs h1
  have hp := fun w => hp_any s dashT w
  have hown := Own3.new w
  have hw := hm.below hown.bel
  have hb : ∀ v : ByteArray, v = lineA s → (v.size : Int) = ((lineA s).size : Int) := fun v h => by rw [h]
  have e1 : (⟨(Lib.cut s.data.toList (⟨#[10]⟩ : ByteArray).data.toList).1.toArray⟩ : ByteArray) = lineA s := rfl
  rw [e1] at hc
  generalize lineA s = l at *
  generalize (⟨(Lib.cut s.data.toList (⟨#[10]⟩ : ByteArray).data.toList).2.1.toArray⟩ : ByteArray) = l2 at *
  generalize (Lib.cut s.data.toList (⟨#[10]⟩ : ByteArray).data.toList).2.2 = b at *
  have HC := Lib.hid hc
  have HO := Lib.hid hown
  have HW := Lib.hid hw
  clear hc hown hw e1 hm hb
  cases hpb : hpB s dashT with
  | false =>
    rw [hpb] at hp
    have HP := Lib.hid hp
    clear hp hpb
    rw [if_neg (by simp)]
    go_enter Tryd.func27, Tryd.ntmps27
    go_wp2_with (first
      | (go_at_call 51; (with_reducible refine (HP.out _).mono ?_); rintro e w1 ⟨rfl, hw⟩; obtain rfl := hw.symm))
    refine bodyPost_ret (v := pcV 0 ⟨#[]⟩ 0) (by simp [results, Tryd.results27, go_sem]) rfl ?_
    exact ⟨rfl, (Below.refl _ _).alloc (Nat.le_refl _) _⟩
  | true =>
    rw [hpb] at hp
    have HP := Lib.hid hp
    clear hp hpb
    rw [if_pos rfl]
    go_enter Tryd.func27, Tryd.ntmps27
    go_wp2_with (first
      | (go_at_call 51; (with_reducible refine (HP.out _).mono ?_); rintro e w1 ⟨rfl, hw⟩; obtain rfl := hw.symm)
      | (go_at_call 52; refine (HC.out _ HW.out).mono ?_; rintro e w2 ⟨rfl, nq, rfl⟩; have F1 := HO.out.drewN nq; obtain ⟨hB, hL, k0, k1, k2, f0, f1, f2⟩ := id F1))
    refine bodyPost_ret (v := pcV 0 ⟨#[]⟩ (l.size : Int)) (by simp [results, Tryd.results27, go_sem, k0, k1, k2]) rfl ?_
    refine ⟨rfl, ((hB.setCell ?_ _).setCell ?_ _).setCell ?_ _⟩ <;> exact Nat.le_refl _
end Go.Proofs.YtlmgggipkdmdfaaDoor
