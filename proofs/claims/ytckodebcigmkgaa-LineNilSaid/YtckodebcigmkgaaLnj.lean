/- LineNil's walk. No condition. -/
import Derived.Test.YtckodebcigmkgaaLni
namespace Go.Proofs.Ytckodebcigmkgaa.LN
open Go.ChangeShapes Go.WideShapes Go.ChangeAt Go.RowKit
open Go.Proofs.Ytckodebcigmkgaa.SL Go.Proofs.Ytckodebcigmkgaa.RW
set_option maxRecDepth 100000
set_option linter.unusedVariables false
set_option linter.unusedSimpArgs false

set_option maxHeartbeats 16000000 in
theorem nil_any (id : Int) (w : World) (hc : (Lit.int .i64 id).wf = true) : Calls Try.prog 6 #[nV id] w (RdP (.bool true) w) := by
  clear hc
  obtain ⟨W, hW⟩ : ∃ W, w.alloc (.cells #[.pointer none, nV 0, .slice none 0 0] 51) = W := ⟨_, rfl⟩
  obtain ⟨z, hz⟩ : ∃ b, w.heap.size = b := ⟨_, rfl⟩
  have hb : Below w.heap.size w W := by rw [← hW]; exact (Below.refl _ _).alloc (Nat.le_refl _) _
  have hk : Bk W z 51 #[.pointer none, nV 0, .slice none 0 0] := by rw [← hW, ← hz]; exact Bk.new _ _ _
  have HB := Lib.hid hb
  have HZ : Hid (Nb W (ptr z)) := Lib.hid (.inr ⟨z, rfl, hk.cell 0⟩)
  have HN := Lib.hid (show ∀ W : World, Nb W (.pointer none) from fun W => .inl rfl)
  clear hb hk
  go_enter Try.func6, Try.ntmps6
  have HC := Lib.hid (first_no (HN.out W))
  go_wp2_with fail
  try rw [hW]
  try rw [hz]
  refine HC.out.mono ?_
  rintro e w1 ⟨rfl, rfl⟩
  clear HC
  clear hW hz
  have HC := Lib.hid (first_no HZ.out)
  go_wp2_with fail
  refine HC.out.mono ?_
  rintro e w2 ⟨rfl, rfl⟩
  clear HC
  have HC := Lib.hid (join_no (HN.out W) id 1)
  go_wp2_with fail
  refine HC.out.mono ?_
  rintro e w3 ⟨rfl, rfl⟩
  clear HC
  have HC := Lib.hid (join_no HZ.out id 1)
  go_wp2_with fail
  refine HC.out.mono ?_
  rintro e w4 ⟨rfl, rfl⟩
  clear HC
  have HC := Lib.hid (leave_no (HN.out W) id)
  go_wp2_with fail
  refine HC.out.mono ?_
  rintro e w5 ⟨rfl, hb⟩
  have HZ := Lib.hid (HZ.out.below hb)
  have HB := Lib.hid (HB.out.trans (hb.mono HB.out.size))
  clear hb HC
  have HC := Lib.hid (leave_no HZ.out id)
  go_wp2_with fail
  refine HC.out.mono ?_
  rintro e w6 ⟨rfl, hb⟩
  have HZ := Lib.hid (HZ.out.below hb)
  have HB := Lib.hid (HB.out.trans (hb.mono HB.out.size))
  clear hb HC
  have HC := Lib.hid (late_no (HN.out w6) 9)
  go_wp2_with fail
  refine HC.out.mono ?_
  rintro e w7 ⟨rfl, hb⟩
  have HZ := Lib.hid (HZ.out.below hb)
  have HB := Lib.hid (HB.out.trans (hb.mono HB.out.size))
  clear hb HC
  have HC := Lib.hid (place_no (HN.out w7) id)
  go_wp2_with fail
  refine HC.out.mono ?_
  rintro e w8 ⟨rfl, hb⟩
  have HZ := Lib.hid (HZ.out.below hb)
  have HB := Lib.hid (HB.out.trans (hb.mono HB.out.size))
  clear hb HC
  have HC := Lib.hid (place_no HZ.out id)
  go_wp2_with fail
  refine HC.out.mono ?_
  rintro e w9 ⟨rfl, hb⟩
  have HZ := Lib.hid (HZ.out.below hb)
  have HB := Lib.hid (HB.out.trans (hb.mono HB.out.size))
  clear hb HC
  have HC := Lib.hid (all_no HZ.out)
  go_wp2_with fail
  refine HC.out.mono ?_
  rintro e w10 ⟨rfl, rfl⟩
  clear HC
  have HC := Lib.hid (copy_no (HN.out w9))
  go_wp2_with fail
  refine HC.out.mono ?_
  rintro e w11 ⟨rfl, rfl⟩
  clear HC
  have HC := Lib.hid (copy_no HZ.out)
  go_wp2_with fail
  refine HC.out.mono ?_
  rintro e w12 ⟨rfl, rfl⟩
  clear HC
  go_wp2_with fail
  refine (known_any _).mono ?_
  rintro e wz ⟨rfl, hb⟩
  have HB := Lib.hid (HB.out.trans (hb.mono HB.out.size))
  clear hb
  go_wp2
  go_ret
  exact ⟨rfl, HB.out⟩
end Go.Proofs.Ytckodebcigmkgaa.LN
