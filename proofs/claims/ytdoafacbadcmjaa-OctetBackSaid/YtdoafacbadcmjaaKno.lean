/- The law's own helper 'known' returns true: fixed calls of package octet answer as they must; below the memory that was there nothing turns. -/
import Derived.Test.YtdoafacbadcmjaaOct
namespace Go.Proofs.Ytdoafacbadcmjaa
open Go.ChangeShapes Go.WideShapes Go.ChangeAt Go.RowKit
set_option linter.unusedVariables false

theorem step (w0 w1 w2 : World) (h : Below w0.heap.size w0 w1) (k : Below w1.heap.size w1 w2) : Below w0.heap.size w0 w2 := h.trans (k.mono h.size)

theorem k1 (w : World) : Calls Try.prog 15 #[.string ⟨#[255, 255]⟩, .int .i64 0] w fun e w' => e = .returned (.tuple #[.int .i64 (-1), .int .i64 2, .int .i64 0]) ∧ Below w.heap.size w w' := by
  have h := get16_any ⟨#[255, 255]⟩ 0 w (by decide)
  rw [show g16 ⟨#[255, 255]⟩ 0 = (-1, 2, 0) by decide +kernel] at h; exact h
theorem k2 (w : World) : Calls Try.prog 17 #[.string ⟨#[0, 0, 1, 2]⟩, .int .i64 0] w fun e w' => e = .returned (.tuple #[.int .i64 258, .int .i64 4, .int .i64 0]) ∧ Below w.heap.size w w' := by
  have h := get32_any ⟨#[0, 0, 1, 2]⟩ 0 w (by decide)
  rw [show g32 ⟨#[0, 0, 1, 2]⟩ 0 = (258, 4, 0) by decide +kernel] at h; exact h
theorem k3 (w : World) : Calls Try.prog 19 #[.string ⟨#[97, 98, 0, 99]⟩, .int .i64 1] w fun e w' => e = .returned (.tuple #[.string ⟨#[98]⟩, .int .i64 3, .int .i64 0]) ∧ Below w.heap.size w w' := by
  have h := getText_any ⟨#[97, 98, 0, 99]⟩ 1 w (by decide)
  rw [show gText ⟨#[97, 98, 0, 99]⟩ 1 = (⟨#[98]⟩, 3, 0) by decide +kernel] at h; exact h
theorem k4 (w : World) : Calls Try.prog 19 #[.string ⟨#[97, 98]⟩, .int .i64 0] w fun e w' => e = .returned (.tuple #[.string ⟨#[]⟩, .int .i64 0, .int .i64 3]) ∧ Below w.heap.size w w' := by
  have h := getText_any ⟨#[97, 98]⟩ 0 w (by decide)
  rw [show gText ⟨#[97, 98]⟩ 0 = (⟨#[]⟩, 0, 3) by decide +kernel] at h; exact h
theorem k5 (w : World) : Calls Try.prog 21 #[.string ⟨#[97, 98, 99]⟩, .int .i64 1, .int .i64 2] w fun e w' => e = .returned (.tuple #[.string ⟨#[98, 99]⟩, .int .i64 3, .int .i64 0]) ∧ Below w.heap.size w w' := by
  have h := getBytes_any ⟨#[97, 98, 99]⟩ 1 2 w (by decide)
  rw [show gBytes ⟨#[97, 98, 99]⟩ 1 2 = (⟨#[98, 99]⟩, 3, 0) by decide +kernel] at h; exact h
theorem k6 (w : World) : Calls Try.prog 21 #[.string ⟨#[97, 98, 99]⟩, .int .i64 4, .int .i64 0] w fun e w' => e = .returned (.tuple #[.string ⟨#[]⟩, .int .i64 0, .int .i64 1]) ∧ Below w.heap.size w w' := by
  have h := getBytes_any ⟨#[97, 98, 99]⟩ 4 0 w (by decide)
  rw [show gBytes ⟨#[97, 98, 99]⟩ 4 0 = (⟨#[]⟩, 0, 1) by decide +kernel] at h; exact h
theorem k7 (w : World) : Calls Try.prog 8 #[.string ⟨#[97]⟩, .int .i64 258] w fun e w' => e = .returned (.string ⟨#[97, 1, 2]⟩) ∧ Below w.heap.size w w' := by
  have h := put16_any ⟨#[97]⟩ 258 (by decide) w
  rw [show put16 ⟨#[97]⟩ 258 = ⟨#[97, 1, 2]⟩ by decide +kernel] at h; exact h
theorem k8 (w : World) : Calls Try.prog 10 #[.string ⟨#[]⟩, .int .i64 (-2)] w fun e w' => e = .returned (.string ⟨#[255, 255, 255, 254]⟩) ∧ Below w.heap.size w w' := by
  have h := put32_any ⟨#[]⟩ (-2) (by decide) w
  rw [show put32 ⟨#[]⟩ (-2) = ⟨#[255, 255, 255, 254]⟩ by decide +kernel] at h; exact h
theorem k9 (w : World) : Calls Try.prog 12 #[.string ⟨#[120]⟩, .string ⟨#[97, 0, 98]⟩] w fun e w' => e = .returned (.string ⟨#[120, 97, 0]⟩) ∧ Below w.heap.size w w' := by
  have h := putText_any ⟨#[120]⟩ ⟨#[97, 0, 98]⟩ w (by decide) (by decide)
  rw [show putText ⟨#[120]⟩ ⟨#[97, 0, 98]⟩ = ⟨#[120, 97, 0]⟩ by decide +kernel] at h; exact h

set_option maxHeartbeats 1000000 in
set_option maxRecDepth 100000 in
theorem known_any (w : World) : Calls Try.prog 14 #[] w fun e w' => e = .returned (.bool true) ∧ Below w.heap.size w w' := by
  have hB := Below.refl w.heap.size w
  go_enter Try.func14, Try.ntmps14
  go_wp2_with (first
    | (go_at_call 15; refine (k1 _).mono ?_; rintro e w' ⟨rfl, hb⟩; replace hB := step _ _ _ hB hb; clear hb)
    | (go_at_call 17; refine (k2 _).mono ?_; rintro e w' ⟨rfl, hb⟩; replace hB := step _ _ _ hB hb; clear hb)
    | (go_at_call 19; (first | (with_reducible refine (k3 _).mono ?_) | (with_reducible refine (k4 _).mono ?_)); rintro e w' ⟨rfl, hb⟩; replace hB := step _ _ _ hB hb; clear hb)
    | (go_at_call 21; (first | (with_reducible refine (k5 _).mono ?_) | (with_reducible refine (k6 _).mono ?_)); rintro e w' ⟨rfl, hb⟩; replace hB := step _ _ _ hB hb; clear hb)
    | (go_at_call 8; refine (k7 _).mono ?_; rintro e w' ⟨rfl, hb⟩; replace hB := step _ _ _ hB hb; clear hb)
    | (go_at_call 10; refine (k8 _).mono ?_; rintro e w' ⟨rfl, hb⟩; replace hB := step _ _ _ hB hb; clear hb)
    | (go_at_call 12; refine (k9 _).mono ?_; rintro e w' ⟨rfl, hb⟩; replace hB := step _ _ _ hB hb; clear hb))
  go_ret
  exact ⟨rfl, hB⟩
end Go.Proofs.Ytdoafacbadcmjaa
