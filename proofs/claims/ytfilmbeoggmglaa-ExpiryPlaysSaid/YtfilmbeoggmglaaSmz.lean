/- The document's store for slru: Touch of what is not there. Condition: how many. -/
import Derived.Test.YtfilmbeoggmglaaSmy
namespace Go.Proofs.Ytfilmbeoggmglaa.SL
open Go.ChangeShapes Go.WideShapes Go.ChangeAt Go.RowKit Go.Maps Go.ChangeMaps
set_option maxRecDepth 100000
set_option linter.unusedVariables false
set_option linter.unusedSimpArgs false

theorem rtouch_no (w0 w : World) (g : Nat) (al ke mo : Int) (T K : List En) (h : RS w0 w g al ke mo T K) (hl : T.length ≤ 1073741824 ∧ K.length ≤ 1073741824) (k : ByteArray) (hk : hasS k T K = none) :
    Calls Try.prog 15 #[ptr g, .string k] w fun e w' => e = .returned (.tuple #[.slice none 0 0, .bool false]) ∧ ∃ n, w' = w.drewN n := by
  have HR := Lib.hid h
  have HL := Lib.hid hl
  have HZ : Hid (HasV (hasS k T K) = .tuple #[.int .i64 0, .bool false]) := Lib.hid (by rw [hk]; rfl)
  clear h hl hk
  go_enter Try.func15, Try.ntmps15
  go_wp2_with fail
  refine (rhas_to w0 w g al ke mo T K HR.out HL.out k _ HZ.out).mono ?_
  rintro e w1 ⟨rfl, n1, rfl⟩
  go_wp2
  go_ret2
  exact ⟨rfl, _, rfl⟩
end Go.Proofs.Ytfilmbeoggmglaa.SL
