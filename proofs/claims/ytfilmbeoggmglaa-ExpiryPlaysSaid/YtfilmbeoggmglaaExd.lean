/- sort.Search with a test that may make memory; the tests of package expiry's order; where a test begins to hold. Conditions: how many. -/
import Derived.Test.YtfilmbeoggmglaaExc
import Derived.Test.YtfilmbeoggmglaaSlj
namespace Go.Proofs.Ytfilmbeoggmglaa.EX
open Go.ChangeShapes Go.WideShapes Go.ChangeAt Go.RowKit
open Go.Proofs.Ytfilmbeoggmglaa.SL Go.Proofs.Ytfilmbeoggmglaa.RW
set_option maxRecDepth 100000
set_option linter.unusedVariables false
set_option linter.unusedSimpArgs false

def SeaP (n : Nat) (p : Nat → Bool) (w : World) (e : Ending) (w' : World) : Prop :=
  ∃ c : Nat, e = .returned (.int .i64 (c : Int)) ∧ (c ≤ n ∧ (∀ t, t < c → p t = false) ∧ (∀ t, c ≤ t → t < n → p t = true)) ∧ Below w.heap.size w w'
set_option maxHeartbeats 2000000 in
theorem search_any (g : Nat) (cb : Array Value) (n : Nat) (p : Nat → Bool) (w : World) (henter : ∀ args W, (callFunc g args).run Try.prog W = .ok (.enter g args) W)
    (hf : ∀ W, Below w.heap.size w W → ∀ i, i < n → Calls Try.prog g (#[.int .i64 (i : Int)] ++ cb) W fun e W' => e = .returned (.bool (p i)) ∧ Below W.heap.size W W')
    (hmono : ∀ a b, a ≤ b → b < n → p a = true → p b = true) (hn : n ≤ 1000000) :
    Calls Try.prog 80 #[.int .i64 (n : Int), .func (.func g) #[] cb] w (SeaP n p w) := by
  have HF := Lib.hid hf
  have HM := Lib.hid hmono
  have HN := Lib.hid hn
  clear hf hmono hn
  go_enter Try.func80, Try.ntmps80
  go_wp2
  go_loopg [5, 6] n (fun kx s5 s6 wr => ∃ (lo hi : Nat), s5 = .int .i64 (lo : Int) ∧ s6 = .int .i64 (hi : Int) ∧ lo ≤ hi ∧ hi ≤ n ∧ hi - lo ≤ kx ∧ Below w.heap.size w wr ∧ Hid ((∀ t, t < lo → p t = false) ∧ (∀ t, hi ≤ t → t < n → p t = true)))
  case atStart => exact ⟨0, n, rfl, rfl, Nat.zero_le _, Nat.le_refl _, by omega, Below.refl _ _, Lib.hid ⟨fun t ht => absurd ht (Nat.not_lt_zero _), fun t h1 h2 => by omega⟩⟩
  case round =>
    obtain ⟨lo, hi, rfl, rfl, hlh, hin, hg, hb, I⟩ := hrel
    have HB := Lib.hid hb
    clear hb
    by_cases hlt : lo < hi
    · obtain ⟨m, hm⟩ : ∃ m, (lo + hi) / 2 = m := ⟨_, rfl⟩
      have hm1 : m < n := by omega
      obtain ⟨m1, hm1'⟩ : ∃ m1, m + 1 = m1 := ⟨_, rfl⟩
      have hmh : m < hi := by omega
      have hlm : lo ≤ m := by omega
      have e1 : ((lo : Int) + (hi : Int)) / 2 = (m : Int) := by omega
      have H0 : Hid (m < hi ∧ lo ≤ m ∧ m1 = m + 1 ∧ lo < hi ∧ hi ≤ n ∧ hi - lo ≤ gk) := Lib.hid ⟨hmh, hlm, hm1'.symm, hlt, hin, hg⟩
      have HC := Lib.hid (HF.out wr HB.out m hm1)
      have l1 : (lo : Int) < (hi : Int) := by omega
      have hb1 : (lo : Int) + (hi : Int) ≤ 2000000 := by have := HN.out; omega
      have hb0 : (0 : Int) ≤ (lo : Int) + (hi : Int) := by omega
      have hb2 : (m : Int) + 1 ≤ 2000000 := by have := HN.out; omega
      have hm1i : (m : Int) + 1 = (m1 : Int) := by omega
      clear hm hm1 hm1' hmh hlm hlt hlh hin hg
      have w1 : IntKind.i64.wrap ((lo : Int) + (hi : Int)) = (lo : Int) + (hi : Int) := IntWalk.i64_in _ (by omega)
      have w2 : IntKind.u64.wrap ((lo : Int) + (hi : Int)) = (lo : Int) + (hi : Int) := by rw [IntKind.wrap_u64]; omega
      have w3 : IntKind.i64.wrap (((lo : Int) + (hi : Int)) / 2) = (m : Int) := by rw [e1]; exact IntWalk.i64_in _ (by omega)
      have w4 : IntKind.u64.wrap (((lo : Int) + (hi : Int)) / 2) = (m : Int) := by rw [e1, IntKind.wrap_u64]; omega
      have w5 : wrap64 (m : Int) = (m : Int) := IntWalk.wrap64_in _ (by omega)
      have w6 : IntKind.i64.wrap ((m : Int) + 1) = (m1 : Int) := by rw [hm1i]; exact IntWalk.i64_in _ (by omega)
      clear hb0 hb1 hb2 hm1i
      cases hp : p m with
      | true =>
        rw [hp] at HC
        have HP := Lib.hid hp
        clear hp
        go_wp2_with fail
        refine HC.out.mono ?_
        rintro e w2 ⟨rfl, hb2⟩
        have HB2 := Lib.hid (HB.out.trans (hb2.mono HB.out.size))
        clear hb2
        go_wp2
        go_roundg (m - lo)
        case measure => have := H0.out; omega
        case rel => exact ⟨lo, m, rfl, rfl, by have := H0.out; omega, by have := H0.out; omega, Nat.le_refl _, HB2.out, Lib.hid ⟨I.out.1, fun t h1 h2 => HM.out m t h1 h2 HP.out⟩⟩
      | false =>
        rw [hp] at HC
        have HP := Lib.hid hp
        clear hp
        go_wp2_with fail
        refine HC.out.mono ?_
        rintro e w2 ⟨rfl, hb2⟩
        have HB2 := Lib.hid (HB.out.trans (hb2.mono HB.out.size))
        clear hb2
        go_wp2
        go_roundg (hi - m1)
        case measure => have := H0.out; omega
        case rel => exact ⟨m1, hi, rfl, rfl, by have := H0.out; omega, by have := H0.out; omega, Nat.le_refl _, HB2.out, Lib.hid ⟨fun t ht => by
          cases ht2 : p t with
          | false => rfl
          | true =>
            have := HM.out t m (by have := H0.out; omega) (by have := H0.out; omega) ht2
            rw [HP.out] at this; exact absurd this (by decide), I.out.2⟩⟩
    · have l1 : ¬ ((lo : Int) < (hi : Int)) := by omega
      have he : lo = hi := by omega
      subst he
      have H0 : Hid (lo ≤ n) := Lib.hid hin
      clear hlt hlh hin hg
      go_wp2
      go_ret
      exact ⟨lo, rfl, ⟨H0.out, I.out.1, I.out.2⟩, HB.out⟩
/-- the cells of an entry as one value -/
abbrev eV (e : Et) : Value := .agg #[.string e.1, .int .i64 e.2.1, .int .i64 e.2.2]
def TesP (b : Bool) (w : World) (e : Ending) (w' : World) : Prop := e = .returned (.bool b) ∧ Below w.heap.size w w'
/-- add's test: is another one's deadline later -/
theorem addc_any (w : World) (b : Nat) (x y : Et) (h : Bk w b 101 #[.string x.1, .int .i64 x.2.1, .int .i64 x.2.2]) (B : Bool) (hB : decide (x.2.1 < y.2.1) = B) :
    Calls Try.prog 70 #[eV y, .pointer (some ⟨b, 0, none⟩)] w (TesP B w) := by
  have hl := h.lt
  have hk : ∀ t cs, Bk (w.alloc (.cells cs t)) b 101 #[.string x.1, .int .i64 x.2.1, .int .i64 x.2.2] := fun t cs => h.alloc _
  have c1 : ∀ t cs, (w.alloc (.cells cs t)).cell? ⟨b, 1, none⟩ = some (.int .i64 x.2.1) := fun t cs => (hk t cs).cell 1
  clear h hk
  go_enter Try.func70, Try.ntmps70
  go_wp2
  go_ret
  exact ⟨by rw [← hB]; rfl, (Below.refl _ _).alloc (Nat.le_refl _) _⟩
/-- take's test: is its deadline later than now -/
theorem takec_any (w : World) (b : Nat) (now : Int) (y : Et) (h : Bk w b 3 #[.int .i64 now]) (B : Bool) (hB : decide (now < y.2.1) = B) :
    Calls Try.prog 77 #[eV y, .pointer (some ⟨b, 0, none⟩)] w (TesP B w) := by
  have hl := h.lt
  have c1 : ∀ t cs, (w.alloc (.cells cs t)).cell? ⟨b, 0, none⟩ = some (.int .i64 now) := fun t cs => (h.alloc _).cell 0
  clear h
  go_enter Try.func77, Try.ntmps77
  go_wp2
  go_ret
  exact ⟨by rw [← hB]; rfl, (Below.refl _ _).alloc (Nat.le_refl _) _⟩
/-- remove's test: does it stand there, or behind -/
theorem remc_any (w : World) (b : Nat) (x y : Et) (h : Bk w b 101 #[.string x.1, .int .i64 x.2.1, .int .i64 x.2.2]) (B : Bool) (hB : (decide (x.2.1 < y.2.1) || (decide (y.2.1 = x.2.1) && decide (x.2.2 ≤ y.2.2))) = B) :
    Calls Try.prog 75 #[eV y, .pointer (some ⟨b, 0, none⟩)] w (TesP B w) := by
  have hl := h.lt
  have hk : ∀ t cs, Bk (w.alloc (.cells cs t)) b 101 #[.string x.1, .int .i64 x.2.1, .int .i64 x.2.2] := fun t cs => h.alloc _
  have c1 : ∀ t cs, (w.alloc (.cells cs t)).cell? ⟨b, 1, none⟩ = some (.int .i64 x.2.1) := fun t cs => (hk t cs).cell 1
  have c2 : ∀ t cs, (w.alloc (.cells cs t)).cell? ⟨b, 2, none⟩ = some (.int .i64 x.2.2) := fun t cs => (hk t cs).cell 2
  clear h hk
  obtain ⟨yk, ya, ys⟩ := y
  obtain ⟨xk, xa, xs⟩ := x
  simp only at c1 c2 hB
  have HB := Lib.hid hB
  clear hB
  by_cases h1 : xa < ya
  · have d1 : decide (xa < ya) = true := decide_eq_true h1
    go_enter Try.func75, Try.ntmps75
    go_wp2
    go_ret
    exact ⟨by rw [← HB.out, d1]; rfl, (Below.refl _ _).alloc (Nat.le_refl _) _⟩
  · have d1 : decide (xa < ya) = false := decide_eq_false h1
    by_cases h2 : ya = xa
    · subst h2
      go_enter Try.func75, Try.ntmps75
      go_wp2
      go_ret
      exact ⟨by rw [← HB.out, d1]; simp, (Below.refl _ _).alloc (Nat.le_refl _) _⟩
    · have d2 : decide (ya = xa) = false := decide_eq_false h2
      have d3 : (ya == xa) = false := beq_eq_false_iff_ne.2 h2
      go_enter Try.func75, Try.ntmps75
      go_wp2
      go_ret
      exact ⟨by rw [← HB.out, d1, d2]; rfl, (Below.refl _ _).alloc (Nat.le_refl _) _⟩
end Go.Proofs.Ytfilmbeoggmglaa.EX
