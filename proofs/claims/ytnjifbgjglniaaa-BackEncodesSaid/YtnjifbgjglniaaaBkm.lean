/- What package back's bodiesOf answers: how a kind's bodies are read and written, by their functions' numbers. Condition: none. -/
import Derived.Test.YtnjifbgjglniaaaBkc
namespace Go.Proofs.Ytnjifbgjglniaaa.BK
open Go.Proofs.Ytnjifbgjglniaaa
open Go.ChangeShapes Go.WideShapes Go.ChangeAt Go.RowKit
set_option linter.unusedVariables false
set_option linter.unusedSimpArgs false
set_option maxRecDepth 100000
attribute [local go_sem ↓] Go.wp_at_zero Go.wp_at_succ

abbrev fnV (k : Nat) : Value := .func (.func k) #[] #[]
theorem kd_inv (k : UInt8) : (kd k = none) ∨ (k = 82 ∧ kd k = some .login) ∨ (k = 75 ∧ kd k = some .secret) ∨ (k = 90 ∧ kd k = some .status) ∨ (k = 67 ∧ kd k = some .done) ∨ (k = 83 ∧ kd k = some .setting) ∨ (k = 84 ∧ kd k = some .columns) ∨ (k = 68 ∧ kd k = some .row) ∨ ((k = 69 ∨ k = 78) ∧ kd k = some .fields) ∨ ((k = 49 ∨ k = 50 ∨ k = 51 ∨ k = 110 ∨ k = 73 ∨ k = 115) ∧ kd k = some .nothing) := by
  unfold kd
  by_cases h0 : k = 82
  · simp [h0]
  · rw [if_neg h0]
    by_cases h1 : k = 75
    · simp [h1]
    · rw [if_neg h1]
      by_cases h2 : k = 90
      · simp [h2]
      · rw [if_neg h2]
        by_cases h3 : k = 67
        · simp [h3]
        · rw [if_neg h3]
          by_cases h4 : k = 83
          · simp [h4]
          · rw [if_neg h4]
            by_cases h5 : k = 84
            · simp [h5]
            · rw [if_neg h5]
              by_cases h6 : k = 68
              · simp [h6]
              · rw [if_neg h6]
                by_cases h7 : k = 69 ∨ k = 78
                · rw [if_pos h7]; simp [h7]
                · rw [if_neg h7]
                  by_cases h8 : k = 49 ∨ k = 50 ∨ k = 51 ∨ k = 110 ∨ k = 73 ∨ k = 115
                  · rw [if_pos h8]; simp [h8]
                  · rw [if_neg h8]; simp
def rdN : Kd → Nat
  | .login => 37
  | .secret => 39
  | .status => 41
  | .done => 43
  | .setting => 45
  | .columns => 47
  | .row => 49
  | .fields => 51
  | .nothing => 53
def wrN : Kd → Nat
  | .login => 38
  | .secret => 40
  | .status => 42
  | .done => 44
  | .setting => 46
  | .columns => 48
  | .row => 50
  | .fields => 52
  | .nothing => 54
/-- what bodiesOf answers -/
def BoP (p q : Value) (b : Bool) (w : World) (e : Ending) (w' : World) : Prop := e = .returned (.tuple #[.agg #[p, q], .bool b]) ∧ Below w.heap.size w w'

theorem bodies_none (k : UInt8) (h : kd k = none) (w : World) :
    Calls Try.prog 20 #[.int .u8 (k.toNat : Int)] w (BoP .nilFunc .nilFunc false w) := by
  have ne : ∀ b : UInt8, kd b ≠ none → ((k.toNat : Int) == (b.toNat : Int)) = false := by
    intro b hb
    have : k.toNat ≠ b.toNat := fun e => hb (by rw [← UInt8.toNat_inj.1 e]; exact h)
    simp; omega
  have e0 : ((k.toNat : Int) == 82) = false := ne 82 (by decide)
  have e1 : ((k.toNat : Int) == 75) = false := ne 75 (by decide)
  have e2 : ((k.toNat : Int) == 90) = false := ne 90 (by decide)
  have e3 : ((k.toNat : Int) == 67) = false := ne 67 (by decide)
  have e4 : ((k.toNat : Int) == 83) = false := ne 83 (by decide)
  have e5 : ((k.toNat : Int) == 84) = false := ne 84 (by decide)
  have e6 : ((k.toNat : Int) == 68) = false := ne 68 (by decide)
  have e7 : ((k.toNat : Int) == 69) = false := ne 69 (by decide)
  have e8 : ((k.toNat : Int) == 78) = false := ne 78 (by decide)
  have e9 : ((k.toNat : Int) == 49) = false := ne 49 (by decide)
  have e10 : ((k.toNat : Int) == 50) = false := ne 50 (by decide)
  have e11 : ((k.toNat : Int) == 51) = false := ne 51 (by decide)
  have e12 : ((k.toNat : Int) == 110) = false := ne 110 (by decide)
  have e13 : ((k.toNat : Int) == 73) = false := ne 73 (by decide)
  have e14 : ((k.toNat : Int) == 115) = false := ne 115 (by decide)
  clear ne h
  have hst : ∀ (W : World) (p : Addr) (md), (store p .nilFunc md).run Try.prog W = stored Try.prog W p .nilFunc md := fun W p md => run_store Try.prog W p _ md rfl
  go_enter Try.func20, Try.ntmps20
  go_wp2
  exact bodyPost_ret (v := .tuple #[.agg #[.nilFunc, .nilFunc], .bool false]) (by simp [results, Try.results20, go_sem]) rfl ⟨rfl, by first | exact (Below.refl _ _).alloc (Nat.le_refl _) _ | exact ((Below.refl _ _).alloc (Nat.le_refl _) _).setCell (by simp) _⟩
set_option maxHeartbeats 2000000 in
theorem bodies_some (k : UInt8) (d : Kd) (h : kd k = some d) (w : World) :
    Calls Try.prog 20 #[.int .u8 (k.toNat : Int)] w (BoP (fnV (rdN d)) (fnV (wrN d)) true w) := by
  rcases kd_inv k with h1 | ⟨rfl, h1⟩ | ⟨rfl, h1⟩ | ⟨rfl, h1⟩ | ⟨rfl, h1⟩ | ⟨rfl, h1⟩ | ⟨rfl, h1⟩ | ⟨rfl, h1⟩ | ⟨rfl | rfl, h1⟩ | ⟨rfl | rfl | rfl | rfl | rfl | rfl, h1⟩
  · rw [h] at h1; cases h1
  all_goals
    rw [h] at h1
    injection h1 with h1
    subst h1
    clear h
    have hst : ∀ (i : Nat) (W : World) (p : Addr) (md), (store p (.func (.func i) #[] #[]) md).run Try.prog W = stored Try.prog W p (.func (.func i) #[] #[]) md := fun i W p md => run_store Try.prog W p _ md rfl
    simp only [show ((82 : UInt8).toNat : Int) = 82 from rfl, show ((75 : UInt8).toNat : Int) = 75 from rfl, show ((90 : UInt8).toNat : Int) = 90 from rfl, show ((67 : UInt8).toNat : Int) = 67 from rfl, show ((83 : UInt8).toNat : Int) = 83 from rfl, show ((84 : UInt8).toNat : Int) = 84 from rfl, show ((68 : UInt8).toNat : Int) = 68 from rfl, show ((69 : UInt8).toNat : Int) = 69 from rfl, show ((78 : UInt8).toNat : Int) = 78 from rfl, show ((49 : UInt8).toNat : Int) = 49 from rfl, show ((50 : UInt8).toNat : Int) = 50 from rfl, show ((51 : UInt8).toNat : Int) = 51 from rfl, show ((110 : UInt8).toNat : Int) = 110 from rfl, show ((73 : UInt8).toNat : Int) = 73 from rfl, show ((115 : UInt8).toNat : Int) = 115 from rfl]
    go_enter Try.func20, Try.ntmps20
    go_wp2
    refine bodyPost_ret (v := .tuple #[.agg #[fnV (rdN _), fnV (wrN _)], .bool true]) (by simp [results, Try.results20, go_sem]; exact ⟨rfl, rfl⟩) rfl ⟨rfl, ?_⟩
    first | exact (Below.refl _ _).alloc (Nat.le_refl _) _ | exact ((Below.refl _ _).alloc (Nat.le_refl _) _).setCell (by simp) _
end Go.Proofs.Ytnjifbgjglniaaa.BK
