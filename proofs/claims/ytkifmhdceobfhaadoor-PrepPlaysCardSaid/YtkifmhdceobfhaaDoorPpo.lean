/- PrepNil: the law's own steps. No condition. -/
import Derived.Test.YtkifmhdceobfhaaDoorPpn
namespace Go.Proofs.YtkifmhdceobfhaaDoor.PP
open Go.ChangeShapes Go.WideShapes Go.ChangeAt Go.RowKit Go.Maps Go.ChangeMaps
open Go.Proofs.YtkifmhdceobfhaaDoor.SL
set_option maxRecDepth 100000
set_option linter.unusedVariables false
set_option linter.unusedSimpArgs false

theorem wf64 (x : Int) (h : (Lit.int .i64 x).wf = true) : I9 x := by
  simp [Lit.wf, IntKind.min, IntKind.max, IntKind.signed, IntKind.bits] at h
  exact ⟨by omega, by omega⟩
theorem nb_nil (w : World) : Nb w (.pointer none) := .inl rfl
set_option maxHeartbeats 16000000 in
theorem nil_law (c : Int) (s : ByteArray) (w : World) (hc : (Lit.int .i64 c).wf = true) (hs : s.size ≤ 140737488351232) :
    Calls Tryd.prog 6 #[.int .i64 c, .string s] w fun e w' => e = .returned (.bool true) ∧ Below w.heap.size w w' := by
  clear hc hs
  obtain ⟨zp, hzp⟩ : ∃ x, Hid (Value.pointer none = x) := ⟨_, Lib.hid rfl⟩
  obtain ⟨W1, hW1⟩ : ∃ W, w.alloc (.cells #[.pointer none, .map none, .map none, .map none] 52) = W := ⟨_, rfl⟩
  obtain ⟨z, hz⟩ : ∃ b, w.heap.size = b := ⟨_, rfl⟩
  have hb1 : Below w.heap.size w W1 := by rw [← hW1]; exact (Below.refl _ _).alloc (Nat.le_refl _) _
  have k1 : Bk W1 z 52 #[.pointer none, .map none, .map none, .map none] := by rw [← hW1, ← hz]; exact Bk.new _ _ _
  have HN := Lib.hid (nb_nil W1)
  have HZ : Hid (Nb W1 (ptr z)) := Lib.hid (.inr ⟨z, rfl, k1.cell 0⟩)
  have HB := Lib.hid hb1
  clear hb1 k1 hzp
  go_enter Tryd.func6, Tryd.ntmps6
  go_wp2_with fail
  try rw [hz]
  try rw [hW1]
  clear hz hW1
  refine (find_nb HN.out c s s).mono ?_
  rintro e w' ⟨rfl, rfl⟩
  go_wp2_with fail
  refine (find_nb HZ.out c s s).mono ?_
  rintro e w' ⟨rfl, rfl⟩
  go_wp2_with fail
  refine (need_nb HN.out c s s).mono ?_
  rintro e w' ⟨rfl, rfl⟩
  go_wp2_with fail
  refine (need_nb HZ.out c s s).mono ?_
  rintro e w' ⟨rfl, rfl⟩
  go_wp2_with fail
  refine (define_nb HN.out c s s).mono ?_
  rintro e w' ⟨rfl, rfl⟩
  go_wp2_with fail
  refine (define_nb HZ.out c s s).mono ?_
  rintro e w' ⟨rfl, rfl⟩
  go_wp2_with fail
  refine (close_nb HN.out c s).mono ?_
  rintro e w' ⟨rfl, rfl⟩
  go_wp2_with fail
  refine (close_nb HZ.out c s).mono ?_
  rintro e w' ⟨rfl, rfl⟩
  go_wp2_with fail
  refine (leave_nb HN.out c s s).mono ?_
  rintro e w' ⟨rfl, rfl⟩
  go_wp2_with fail
  refine (forget_nb HZ.out c s s).mono ?_
  rintro e w' ⟨rfl, rfl⟩
  go_wp2_with fail
  refine (has_nb HN.out c s s).mono ?_
  rintro e w' ⟨rfl, rfl⟩
  go_wp2_with fail
  refine (copy_nb HN.out c s s).mono ?_
  rintro e w' ⟨rfl, rfl⟩
  go_wp2_with fail
  refine (copy_nb HZ.out c s s).mono ?_
  rintro e w' ⟨rfl, rfl⟩
  go_wp2_with fail
  refine (known_any W1).mono ?_
  rintro e w2 ⟨rfl, hb⟩
  have HF := Lib.hid (HB.out.trans (hb.mono HB.out.size))
  clear hb
  go_wp2
  go_ret
  exact ⟨rfl, HF.out⟩
end Go.Proofs.YtkifmhdceobfhaaDoor.PP
