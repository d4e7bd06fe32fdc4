/- The document's store for slru: Put of what is too small, too big; New. No condition. -/
import Derived.Test.YtfilmbeoggmglaaSmx
namespace Go.Proofs.Ytfilmbeoggmglaa.SL
open Go.ChangeShapes Go.WideShapes Go.ChangeAt Go.RowKit Go.Maps Go.ChangeMaps
set_option maxRecDepth 100000
set_option linter.unusedVariables false
set_option linter.unusedSimpArgs false

theorem rput_low (w0 w : World) (g : Nat) (al ke mo : Int) (T K : List En) (h : RS w0 w g al ke mo T K) (k : ByteArray) (z : Int) (hz : z < 1) :
    Calls Try.prog 12 #[ptr g, .string k, .int .i64 z] w fun e w' => e = .returned (.tuple #[.slice none 0 0, .int .i64 1]) ∧ w = w' := by
  clear h
  go_enter Try.func12, Try.ntmps12
  go_wp2
  go_ret2
  exact ⟨rfl, rfl⟩
theorem rput_big (w0 w : World) (g : Nat) (al ke mo : Int) (T K : List En) (h : RS w0 w g al ke mo T K) (k : ByteArray) (z : Int) (hz : 1 ≤ z) (hm : mo < z) :
    Calls Try.prog 12 #[ptr g, .string k, .int .i64 z] w fun e w' => e = .returned (.tuple #[.slice none 0 0, .int .i64 2]) ∧ w = w' := by
  obtain ⟨aT, cT, aK, cK, h1, _⟩ := h
  have q4 := h1.cell 4
  have nz : ¬ (z < 1) := by omega
  clear h1 hz
  go_enter Try.func12, Try.ntmps12
  go_wp2
  go_ret2
  exact ⟨rfl, rfl⟩
set_option maxHeartbeats 1000000 in
theorem rnew_yes (w0 w : World) (h0 : Below w0.heap.size w0 w) (al ke mo : Int) (hb : okB al ke mo) :
    Calls Try.prog 10 #[.int .i64 al, .int .i64 ke, .int .i64 mo] w fun e w' => ∃ g, e = .returned (.tuple #[ptr g, .int .i64 0]) ∧ RS w0 w' g al ke mo [] [] ∧ Below w.heap.size w w' := by
  obtain ⟨b1, b2, b3, b4, b5, b6⟩ := hb
  have n1 : ¬ (al < 1) := by omega
  have n2 : ¬ (1073741824 < al) := by omega
  have n3 : ¬ (ke < 0) := by omega
  have n4 : ¬ (al < ke) := by omega
  have n5 : ¬ (mo < 1) := by omega
  have n6 : ¬ (al < mo) := by omega
  have hbk := Bk.new w 47 #[.slice none 0 0, .slice none 0 0, .int .i64 al, .int .i64 ke, .int .i64 mo]
  have hbl : Below w.heap.size w (w.alloc (.cells #[.slice none 0 0, .slice none 0 0, .int .i64 al, .int .i64 ke, .int .i64 mo] 47)) := (Below.refl _ _).alloc (Nat.le_refl _) _
  have HBK := Lib.hid hbk
  have HBL := Lib.hid hbl
  have H0 := Lib.hid h0
  clear hbk hbl h0 b1 b2 b3 b4 b5 b6
  go_enter Try.func10, Try.ntmps10
  go_wp2
  go_ret2
  exact ⟨_, rfl, ⟨none, 0, none, 0, HBK.out, EO.nil _ _, EO.nil _ _, (fun q hq => by cases hq), (fun q hq => by cases hq), H0.out.size, H0.out.trans (HBL.out.mono H0.out.size)⟩, HBL.out⟩
set_option maxHeartbeats 2000000 in
theorem rnew_no (al ke mo : Int) (w : World) (h : ¬ okB al ke mo) : Calls Try.prog 10 #[.int .i64 al, .int .i64 ke, .int .i64 mo] w fun e w' => e = .returned (.tuple #[ptr w.heap.size, .int .i64 1]) ∧ Below w.heap.size w w' := by
  by_cases c0 : al < 1
  · have b0 : decide (al < 1) = true := decide_eq_true c0
    clear h c0
    go_enter Try.func10, Try.ntmps10
    go_wp2
    go_ret2
    exact ⟨rfl, (Below.refl _ _).alloc (Nat.le_refl _) _⟩
  have a0 : decide (al < 1) = false := decide_eq_false c0
  by_cases c1 : 1073741824 < al
  · have b1 : decide (1073741824 < al) = true := decide_eq_true c1
    clear h c0 c1
    go_enter Try.func10, Try.ntmps10
    go_wp2
    go_ret2
    exact ⟨rfl, (Below.refl _ _).alloc (Nat.le_refl _) _⟩
  have a1 : decide (1073741824 < al) = false := decide_eq_false c1
  by_cases c2 : ke < 0
  · have b2 : decide (ke < 0) = true := decide_eq_true c2
    clear h c0 c1 c2
    go_enter Try.func10, Try.ntmps10
    go_wp2
    go_ret2
    exact ⟨rfl, (Below.refl _ _).alloc (Nat.le_refl _) _⟩
  have a2 : decide (ke < 0) = false := decide_eq_false c2
  by_cases c3 : al < ke
  · have b3 : decide (al < ke) = true := decide_eq_true c3
    clear h c0 c1 c2 c3
    go_enter Try.func10, Try.ntmps10
    go_wp2
    go_ret2
    exact ⟨rfl, (Below.refl _ _).alloc (Nat.le_refl _) _⟩
  have a3 : decide (al < ke) = false := decide_eq_false c3
  by_cases c4 : mo < 1
  · have b4 : decide (mo < 1) = true := decide_eq_true c4
    clear h c0 c1 c2 c3 c4
    go_enter Try.func10, Try.ntmps10
    go_wp2
    go_ret2
    exact ⟨rfl, (Below.refl _ _).alloc (Nat.le_refl _) _⟩
  have a4 : decide (mo < 1) = false := decide_eq_false c4
  by_cases c5 : al < mo
  · have b5 : decide (al < mo) = true := decide_eq_true c5
    clear h c0 c1 c2 c3 c4 c5
    go_enter Try.func10, Try.ntmps10
    go_wp2
    go_ret2
    exact ⟨rfl, (Below.refl _ _).alloc (Nat.le_refl _) _⟩
  have a5 : decide (al < mo) = false := decide_eq_false c5
  exact absurd ⟨by omega, by omega, by omega, by omega, by omega, by omega⟩ h
end Go.Proofs.Ytfilmbeoggmglaa.SL
