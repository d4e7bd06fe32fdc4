/- What package back's Encode answers, for every kind that there is. Condition: what is told is of at most so many and so long texts (Few). -/
import Derived.Test.YtnjifbgjglniaaaBkta
import Derived.Test.YtnjifbgjglniaaaBktb
namespace Go.Proofs.Ytnjifbgjglniaaa.BK
open Go.Proofs.Ytnjifbgjglniaaa
open Go.ChangeShapes Go.WideShapes Go.ChangeAt Go.RowKit
set_option linter.unusedVariables false
set_option linter.unusedSimpArgs false
set_option maxRecDepth 100000
attribute [local go_sem ↓] Go.wp_at_zero Go.wp_at_succ


theorem Few.lens {a : Tell} (f : Few a) : Lens a := ⟨by have := f.keys; omega, by have := f.vals; omega, by have := f.null; omega⟩
theorem enc_any (a : Tell) (v : Value) (w : World) (f : Few a) (har : AR (fun i => i < w.heap.size) w v a) :
    Calls Try.prog 13 #[v] w (EncP (encP a) w) := by
  obtain ⟨kv, vv, nv, rfl, h1, h2, h3⟩ := har.ex
  have har : AR (fun i => i < w.heap.size) w (.agg (tellV a kv vv nv)) a := ⟨kv, vv, nv, rfl, h1, h2, h3⟩
  cases hk : kd a.kind with
  | none => rw [encP_none a hk]; exact enc_kind a kv vv nv w hk
  | some d =>
    rw [← encR_eq a d hk]
    cases d
    · exact enc_login a kv vv nv w hk f har f.lens
    · exact enc_secret a kv vv nv w hk f har f.lens
    · exact enc_status a kv vv nv w hk f har f.lens
    · exact enc_done a kv vv nv w hk f har f.lens
    · exact enc_setting a kv vv nv w hk f har f.lens
    · exact enc_columns a kv vv nv w hk f har f.lens
    · exact enc_row a kv vv nv w hk f har f.lens
    · exact enc_fields a kv vv nv w hk f har f.lens
    · exact enc_nothing a kv vv nv w hk f har f.lens

theorem encP_two (a : Tell) : (RightP a ∧ encP a = ((a.kind, body a), 0)) ∨ (¬ RightP a ∧ encP a = ((0, []), 4)) := by
  unfold encP
  by_cases h : RightP a
  · rw [if_pos h]; exact .inl ⟨h, rfl⟩
  · rw [if_neg h]; exact .inr ⟨h, rfl⟩
theorem bright_any (a : Tell) (v : Value) (w : World) (f : Few a) (har : AR (fun i => i < w.heap.size) w v a) :
    Calls Try.prog 15 #[v] w fun e w' => e = .returned (.bool ((encP a).2 == 0)) ∧ Below w.heap.size w w' := by
  have d : ∀ W : World, Below w.heap.size w W → Calls Try.prog 13 #[v] W (EncP (encP a) W) := fun W hB =>
    enc_any a v W f (har.step (fun b hb => hB.block b hb) (fun b hb => Nat.lt_of_lt_of_le hb hB.size))
  obtain ⟨kv, vv, nv, rfl, _⟩ := har.ex
  clear har
  rw [box_cut] at d ⊢
  generalize encP a = r at *
  obtain ⟨⟨k, b⟩, er⟩ := r
  have HD := Lib.hid d
  clear d
  go_enter Try.func15, Try.ntmps15
  go_wp2_with fail
  refine (HD.out _ ((Below.refl _ _).alloc (Nat.le_refl _) _)).mono ?_; rintro e w1 ⟨rfl, hb1⟩
  unfold u8
  have hz := hb1.size
  simp at hz
  go_wp2
  go_ret
  exact ⟨rfl, ((((Below.refl _ _).alloc (Nat.le_refl _) _).trans (hb1.mono (by simp))).alloc (by omega) _)⟩
end Go.Proofs.Ytnjifbgjglniaaa.BK
