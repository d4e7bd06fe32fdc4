/- ExpiryNil: its walk. No condition. -/
import Derived.Test.YtfilmbeoggmglaaExt
namespace Go.Proofs.Ytfilmbeoggmglaa.EX
open Go.ChangeShapes Go.WideShapes Go.ChangeAt Go.RowKit Go.Maps Go.ChangeMaps
open Go.Proofs.Ytfilmbeoggmglaa.SL Go.Proofs.Ytfilmbeoggmglaa.RW
set_option maxRecDepth 100000
set_option linter.unusedVariables false
set_option linter.unusedSimpArgs false

theorem qzero (w : World) : Bk (w.alloc (.cells #[.pointer none, .int .i64 0, .map none, .slice none 0 0] 73)) w.heap.size 73 #[.pointer none, .int .i64 0, .map none, .slice none 0 0] := Bk.new _ _ _
set_option maxHeartbeats 8000000 in
theorem nil_any (k : ByteArray) (w : World) :
    Calls Try.prog 7 #[.string k] w fun e w' => e = .returned (.bool true) ∧ Below w.heap.size w w' := by
  obtain ⟨W, hW⟩ : ∃ W, w.alloc (.cells #[.pointer none, .int .i64 0, .map none, .slice none 0 0] 73) = W := ⟨_, rfl⟩
  obtain ⟨z, hz⟩ : ∃ b, w.heap.size = b := ⟨_, rfl⟩
  have hb : Below w.heap.size w W := by rw [← hW]; exact (Below.refl _ _).alloc (Nat.le_refl _) _
  have hk : Bk W z 73 #[.pointer none, .int .i64 0, .map none, .slice none 0 0] := by rw [← hW, ← hz]; exact qzero w
  have HB := Lib.hid hb
  have HK := Lib.hid hk
  clear hb hk
  go_enter Try.func7, Try.ntmps7
  go_wp2_with fail
  try rw [hW]
  refine (at_nil _ k).mono ?_
  rintro e w1 ⟨rfl, hb1⟩
  have HK := Lib.hid (HK.out.below hb1)
  have HB := Lib.hid (HB.out.trans (hb1.mono HB.out.size))
  clear hb1
  try clear hW
  try rw [hz]
  try clear hz
  go_wp2_with fail
  try rw [hz]
  refine (next_zero _ z (HK.out.cell 0)).mono ?_
  rintro e w' ⟨rfl, rfl⟩
  go_wp2_with fail
  refine (set_nil _ k 1).mono ?_
  rintro e w' ⟨rfl, rfl⟩
  go_wp2_with fail
  refine (set_zero _ z k 1 (HK.out.cell 0)).mono ?_
  rintro e w' ⟨rfl, rfl⟩
  go_wp2_with fail
  refine (drop_nil _ k).mono ?_
  rintro e w2 ⟨rfl, hb2⟩
  have HK := Lib.hid (HK.out.below hb2)
  have HB := Lib.hid (HB.out.trans (hb2.mono HB.out.size))
  clear hb2
  go_wp2_with fail
  refine (drop_zero _ k z (HK.out.cell 0)).mono ?_
  rintro e w3 ⟨rfl, hb3⟩
  have HK := Lib.hid (HK.out.below hb3)
  have HB := Lib.hid (HB.out.trans (hb3.mono HB.out.size))
  clear hb3
  go_wp2_with fail
  refine (due_nil _ 9).mono ?_
  rintro e w' ⟨rfl, rfl⟩
  go_wp2_with fail
  refine (due_zero _ z (HK.out.cell 0) 9).mono ?_
  rintro e w' ⟨rfl, rfl⟩
  go_wp2_with fail
  refine (keys_nil _).mono ?_
  rintro e w' ⟨rfl, rfl⟩
  go_wp2_with fail
  refine (copy_nil _).mono ?_
  rintro e w' ⟨rfl, rfl⟩
  go_wp2_with fail
  refine (copy_zero _ z (HK.out.cell 0)).mono ?_
  rintro e w' ⟨rfl, rfl⟩
  go_wp2_with fail
  refine (known_any _).mono ?_
  rintro e wk ⟨rfl, hk⟩
  have HK2 := Lib.hid hk
  clear hk
  go_wp2
  go_ret
  exact ⟨rfl, HB.out.trans (HK2.out.mono HB.out.size)⟩
end Go.Proofs.Ytfilmbeoggmglaa.EX
