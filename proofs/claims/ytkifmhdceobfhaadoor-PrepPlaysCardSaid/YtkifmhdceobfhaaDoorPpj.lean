/- Package prep, its code: every function of a book that is none; the zero book. No condition. -/
import Derived.Test.YtkifmhdceobfhaaDoorPpe
namespace Go.Proofs.YtkifmhdceobfhaaDoor.PP
open Go.ChangeShapes Go.WideShapes Go.ChangeAt Go.RowKit Go.Maps Go.ChangeMaps
open Go.Proofs.YtkifmhdceobfhaaDoor.SL
set_option maxRecDepth 100000
set_option linter.unusedVariables false
set_option linter.unusedSimpArgs false

section
variable {w : World} {v : Value}
theorem define_nb (h : Nb w v) (c : Int) (n s : Tx) : Calls Tryd.prog 9 #[v, nV c, .string n, .string s] w fun e w' => e = .returned (nV 12) ∧ w = w' := by
  have hG := given_no h
  clear h
  go_enter Tryd.func9, Tryd.ntmps9
  go_wp2_with (go_at_call 27; refine hG.mono ?_; rintro e w' ⟨rfl, rfl⟩)
  go_ret
  exact ⟨rfl, rfl⟩
theorem find_nb (h : Nb w v) (c : Int) (n s : Tx) : Calls Tryd.prog 20 #[v, nV c, .string n] w fun e w' => e = .returned (.tuple #[.string ByteArray.empty, .bool false]) ∧ w = w' := by
  have hG := given_no h
  clear h
  go_enter Tryd.func20, Tryd.ntmps20
  go_wp2_with (go_at_call 27; refine hG.mono ?_; rintro e w' ⟨rfl, rfl⟩)
  go_ret2
  exact ⟨rfl, rfl⟩
theorem leave_nb (h : Nb w v) (c : Int) (n s : Tx) : Calls Tryd.prog 13 #[v, nV c] w fun e w' => e = .returned (nV 0) ∧ w = w' := by
  have hG := given_no h
  clear h
  go_enter Tryd.func13, Tryd.ntmps13
  go_wp2_with (go_at_call 27; refine hG.mono ?_; rintro e w' ⟨rfl, rfl⟩)
  go_ret
  exact ⟨rfl, rfl⟩
theorem need_nb (h : Nb w v) (c : Int) (n s : Tx) : Calls Tryd.prog 15 #[v, nV c, .string n] w fun e w' => e = .returned (.tuple #[.string ByteArray.empty, .bool false]) ∧ w = w' := by
  have hG := given_no h
  clear h
  go_enter Tryd.func15, Tryd.ntmps15
  go_wp2_with (go_at_call 27; refine hG.mono ?_; rintro e w' ⟨rfl, rfl⟩)
  go_ret2
  exact ⟨rfl, rfl⟩
theorem has_nb (h : Nb w v) (c : Int) (n s : Tx) : Calls Tryd.prog 23 #[v, nV c] w fun e w' => e = .returned (.slice none 0 0) ∧ w = w' := by
  have hG := given_no h
  clear h
  go_enter Tryd.func23, Tryd.ntmps23
  go_wp2_with (go_at_call 27; refine hG.mono ?_; rintro e w' ⟨rfl, rfl⟩)
  go_ret
  exact ⟨rfl, rfl⟩
theorem forget_nb (h : Nb w v) (c : Int) (n s : Tx) : Calls Tryd.prog 17 #[v, nV c] w fun e w' => e = .returned (nV 0) ∧ w = w' := by
  have hG := given_no h
  clear h
  go_enter Tryd.func17, Tryd.ntmps17
  go_wp2_with (go_at_call 27; refine hG.mono ?_; rintro e w' ⟨rfl, rfl⟩)
  go_ret
  exact ⟨rfl, rfl⟩
theorem copy_nb (h : Nb w v) (c : Int) (n s : Tx) : Calls Tryd.prog 19 #[v] w fun e w' => e = .returned (.pointer none) ∧ w = w' := by
  have hG := given_no h
  clear h
  go_enter Tryd.func19, Tryd.ntmps19
  go_wp2_with (go_at_call 27; refine hG.mono ?_; rintro e w' ⟨rfl, rfl⟩)
  go_ret
  exact ⟨rfl, rfl⟩
theorem close_nb (h : Nb w v) (c : Int) (n : Tx) : Calls Tryd.prog 11 #[v, nV c, .string n] w fun e w' => e = .returned (.bool false) ∧ w = w' := by
  have HF := Lib.hid (find_nb h c n n)
  clear h
  go_enter Tryd.func11, Tryd.ntmps11
  go_wp2_with (go_at_call 20; refine HF.out.mono ?_; rintro e w' ⟨rfl, rfl⟩)
  go_ret
  exact ⟨rfl, rfl⟩
end
end Go.Proofs.YtkifmhdceobfhaaDoor.PP
