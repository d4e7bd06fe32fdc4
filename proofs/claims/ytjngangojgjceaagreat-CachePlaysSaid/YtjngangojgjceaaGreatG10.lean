/- sort.Search with a test that may make memory; the tests of package expiry's order; where a test begins to hold. Conditions: how many.
   Where a test begins to hold in package expiry's order: first, of an order of one block. Conditions: how many.
   Package expiry: an entry let into its order, and out of it. Conditions: how many. -/
import Derived.Test.YtjngangojgjceaaGreatG9
import Derived.Test.YtjngangojgjceaaGreatG6
set_option linter.unusedSimpArgs false
set_option linter.unusedVariables false
namespace Go.Proofs.YtjngangojgjceaaGreat.EX
open Go.ChangeShapes Go.WideShapes Go.ChangeAt Go.RowKit
open Go.Proofs.YtjngangojgjceaaGreat.SL Go.Proofs.YtjngangojgjceaaGreat.RW
set_option maxRecDepth 100000
set_option linter.unusedVariables false
set_option linter.unusedSimpArgs false

def SeaP (n : Nat) (p : Nat → Bool) (w : World) (e : Ending) (w' : World) : Prop :=
  ∃ c : Nat, e = .returned (.int .i64 (c : Int)) ∧ (c ≤ n ∧ (∀ t, t < c → p t = false) ∧ (∀ t, c ≤ t → t < n → p t = true)) ∧ Below w.heap.size w w'
set_option maxHeartbeats 2000000 in
theorem search_any (g : Nat) (cb : Array Value) (n : Nat) (p : Nat → Bool) (w : World) (henter : ∀ args W, (callFunc g args).run Tryz.prog W = .ok (.enter g args) W)
    (hf : ∀ W, Below w.heap.size w W → ∀ i, i < n → Calls Tryz.prog g (#[.int .i64 (i : Int)] ++ cb) W fun e W' => e = .returned (.bool (p i)) ∧ Below W.heap.size W W')
    (hmono : ∀ a b, a ≤ b → b < n → p a = true → p b = true) (hn : n ≤ 1000000) :
    Calls Tryz.prog 124 #[.int .i64 (n : Int), .func (.func g) #[] cb] w (SeaP n p w) := by
  have HF := Lib.hid hf
  have HM := Lib.hid hmono
  have HN := Lib.hid hn
  clear hf hmono hn
  go_enter Tryz.func124, Tryz.ntmps124
  go_wp2
  go_loopg [5, 6] n (fun kx s5 s6 wr => ∃ (lo hi : Nat), s5 = .int .i64 (lo : Int) ∧ s6 = .int .i64 (hi : Int) ∧ lo ≤ hi ∧ hi ≤ n ∧ hi - lo ≤ kx ∧ Below w.heap.size w wr ∧ Hid ((∀ t, t < lo → p t = false) ∧ (∀ t, hi ≤ t → t < n → p t = true)))
  case atStart => exact ⟨0, n, rfl, rfl, Nat.zero_le _, Nat.le_refl _, by omega, Below.refl _ _, Lib.hid ⟨fun t ht => absurd ht (Nat.not_lt_zero _), fun t h1 h2 => by omega⟩⟩
  case round =>
    obtain ⟨lo, hi, rfl, rfl, hlh, hin, hg, hb, I⟩ := hrel
    have HB := Lib.hid hb
    clear hb
    by_cases hlt : lo < hi
    · obtain ⟨m, hm⟩ : ∃ m, (lo + hi) / 2 = m := ⟨_, rfl⟩
      have hm1 : m < n := by omega
      obtain ⟨m1, hm1'⟩ : ∃ m1, m + 1 = m1 := ⟨_, rfl⟩
      have hmh : m < hi := by omega
      have hlm : lo ≤ m := by omega
      have e1 : ((lo : Int) + (hi : Int)) / 2 = (m : Int) := by omega
      have H0 : Hid (m < hi ∧ lo ≤ m ∧ m1 = m + 1 ∧ lo < hi ∧ hi ≤ n ∧ hi - lo ≤ gk) := Lib.hid ⟨hmh, hlm, hm1'.symm, hlt, hin, hg⟩
      have HC := Lib.hid (HF.out wr HB.out m hm1)
      have l1 : (lo : Int) < (hi : Int) := by omega
      have hb1 : (lo : Int) + (hi : Int) ≤ 2000000 := by have := HN.out; omega
      have hb0 : (0 : Int) ≤ (lo : Int) + (hi : Int) := by omega
      have hb2 : (m : Int) + 1 ≤ 2000000 := by have := HN.out; omega
      have hm1i : (m : Int) + 1 = (m1 : Int) := by omega
      clear hm hm1 hm1' hmh hlm hlt hlh hin hg
      have w1 : IntKind.i64.wrap ((lo : Int) + (hi : Int)) = (lo : Int) + (hi : Int) := IntWalk.i64_in _ (by omega)
      have w2 : IntKind.u64.wrap ((lo : Int) + (hi : Int)) = (lo : Int) + (hi : Int) := by rw [IntKind.wrap_u64]; omega
      have w3 : IntKind.i64.wrap (((lo : Int) + (hi : Int)) / 2) = (m : Int) := by rw [e1]; exact IntWalk.i64_in _ (by omega)
      have w4 : IntKind.u64.wrap (((lo : Int) + (hi : Int)) / 2) = (m : Int) := by rw [e1, IntKind.wrap_u64]; omega
      have w5 : wrap64 (m : Int) = (m : Int) := IntWalk.wrap64_in _ (by omega)
      have w6 : IntKind.i64.wrap ((m : Int) + 1) = (m1 : Int) := by rw [hm1i]; exact IntWalk.i64_in _ (by omega)
      clear hb0 hb1 hb2 hm1i
      cases hp : p m with
      | true =>
        rw [hp] at HC
        have HP := Lib.hid hp
        clear hp
        go_wp2_with fail
        refine HC.out.mono ?_
        rintro e w2 ⟨rfl, hb2⟩
        have HB2 := Lib.hid (HB.out.trans (hb2.mono HB.out.size))
        clear hb2
        go_wp2
        go_roundg (m - lo)
        case measure => have := H0.out; omega
        case rel => exact ⟨lo, m, rfl, rfl, by have := H0.out; omega, by have := H0.out; omega, Nat.le_refl _, HB2.out, Lib.hid ⟨I.out.1, fun t h1 h2 => HM.out m t h1 h2 HP.out⟩⟩
      | false =>
        rw [hp] at HC
        have HP := Lib.hid hp
        clear hp
        go_wp2_with fail
        refine HC.out.mono ?_
        rintro e w2 ⟨rfl, hb2⟩
        have HB2 := Lib.hid (HB.out.trans (hb2.mono HB.out.size))
        clear hb2
        go_wp2
        go_roundg (hi - m1)
        case measure => have := H0.out; omega
        case rel => exact ⟨m1, hi, rfl, rfl, by have := H0.out; omega, by have := H0.out; omega, Nat.le_refl _, HB2.out, Lib.hid ⟨fun t ht => by
          cases ht2 : p t with
          | false => rfl
          | true =>
            have := HM.out t m (by have := H0.out; omega) (by have := H0.out; omega) ht2
            rw [HP.out] at this; exact absurd this (by decide), I.out.2⟩⟩
    · have l1 : ¬ ((lo : Int) < (hi : Int)) := by omega
      have he : lo = hi := by omega
      subst he
      have H0 : Hid (lo ≤ n) := Lib.hid hin
      clear hlt hlh hin hg
      go_wp2
      go_ret
      exact ⟨lo, rfl, ⟨H0.out, I.out.1, I.out.2⟩, HB.out⟩
/-- the cells of an entry as one value -/
abbrev eV (e : Et) : Value := .agg #[.string e.1, .int .i64 e.2.1, .int .i64 e.2.2]
def TesP (b : Bool) (w : World) (e : Ending) (w' : World) : Prop := e = .returned (.bool b) ∧ Below w.heap.size w w'
/-- add's test: is another one's deadline later -/
theorem addc_any (w : World) (b : Nat) (x y : Et) (h : Bk w b 131 #[.string x.1, .int .i64 x.2.1, .int .i64 x.2.2]) (B : Bool) (hB : decide (x.2.1 < y.2.1) = B) :
    Calls Tryz.prog 105 #[eV y, .pointer (some ⟨b, 0, none⟩)] w (TesP B w) := by
  have hl := h.lt
  have hk : ∀ t cs, Bk (w.alloc (.cells cs t)) b 131 #[.string x.1, .int .i64 x.2.1, .int .i64 x.2.2] := fun t cs => h.alloc _
  have c1 : ∀ t cs, (w.alloc (.cells cs t)).cell? ⟨b, 1, none⟩ = some (.int .i64 x.2.1) := fun t cs => (hk t cs).cell 1
  clear h hk
  go_enter Tryz.func105, Tryz.ntmps105
  go_wp2
  go_ret
  exact ⟨by rw [← hB]; rfl, (Below.refl _ _).alloc (Nat.le_refl _) _⟩
/-- take's test: is its deadline later than now -/
theorem takec_any (w : World) (b : Nat) (now : Int) (y : Et) (h : Bk w b 3 #[.int .i64 now]) (B : Bool) (hB : decide (now < y.2.1) = B) :
    Calls Tryz.prog 117 #[eV y, .pointer (some ⟨b, 0, none⟩)] w (TesP B w) := by
  have hl := h.lt
  have c1 : ∀ t cs, (w.alloc (.cells cs t)).cell? ⟨b, 0, none⟩ = some (.int .i64 now) := fun t cs => (h.alloc _).cell 0
  clear h
  go_enter Tryz.func117, Tryz.ntmps117
  go_wp2
  go_ret
  exact ⟨by rw [← hB]; rfl, (Below.refl _ _).alloc (Nat.le_refl _) _⟩
/-- remove's test: does it stand there, or behind -/
theorem remc_any (w : World) (b : Nat) (x y : Et) (h : Bk w b 131 #[.string x.1, .int .i64 x.2.1, .int .i64 x.2.2]) (B : Bool) (hB : (decide (x.2.1 < y.2.1) || (decide (y.2.1 = x.2.1) && decide (x.2.2 ≤ y.2.2))) = B) :
    Calls Tryz.prog 115 #[eV y, .pointer (some ⟨b, 0, none⟩)] w (TesP B w) := by
  have hl := h.lt
  have hk : ∀ t cs, Bk (w.alloc (.cells cs t)) b 131 #[.string x.1, .int .i64 x.2.1, .int .i64 x.2.2] := fun t cs => h.alloc _
  have c1 : ∀ t cs, (w.alloc (.cells cs t)).cell? ⟨b, 1, none⟩ = some (.int .i64 x.2.1) := fun t cs => (hk t cs).cell 1
  have c2 : ∀ t cs, (w.alloc (.cells cs t)).cell? ⟨b, 2, none⟩ = some (.int .i64 x.2.2) := fun t cs => (hk t cs).cell 2
  clear h hk
  obtain ⟨yk, ya, ys⟩ := y
  obtain ⟨xk, xa, xs⟩ := x
  simp only at c1 c2 hB
  have HB := Lib.hid hB
  clear hB
  by_cases h1 : xa < ya
  · have d1 : decide (xa < ya) = true := decide_eq_true h1
    go_enter Tryz.func115, Tryz.ntmps115
    go_wp2
    go_ret
    exact ⟨by rw [← HB.out, d1]; rfl, (Below.refl _ _).alloc (Nat.le_refl _) _⟩
  · have d1 : decide (xa < ya) = false := decide_eq_false h1
    by_cases h2 : ya = xa
    · subst h2
      go_enter Tryz.func115, Tryz.ntmps115
      go_wp2
      go_ret
      exact ⟨by rw [← HB.out, d1]; simp, (Below.refl _ _).alloc (Nat.le_refl _) _⟩
    · have d2 : decide (ya = xa) = false := decide_eq_false h2
      have d3 : (ya == xa) = false := beq_eq_false_iff_ne.2 h2
      go_enter Tryz.func115, Tryz.ntmps115
      go_wp2
      go_ret
      exact ⟨by rw [← HB.out, d1, d2]; rfl, (Below.refl _ _).alloc (Nat.le_refl _) _⟩
end Go.Proofs.YtjngangojgjceaaGreat.EX
namespace Go.Proofs.YtjngangojgjceaaGreat.EX
open Go.ChangeShapes Go.WideShapes Go.ChangeAt Go.RowKit
open Go.Proofs.YtjngangojgjceaaGreat.SL Go.Proofs.YtjngangojgjceaaGreat.RW
set_option maxRecDepth 100000
set_option linter.unusedVariables false
set_option linter.unusedSimpArgs false

/-- the test of a function value: of each entry of L it tells q, and makes memory at most -/
structure Tes (fg : Nat) (fcb : Array Value) (q : Et → Bool) (L : List Et) (w : World) : Prop where
  enter : ∀ args W, (callFunc fg args).run Tryz.prog W = .ok (.enter fg args) W
  tells : ∀ W, Below w.heap.size w W → ∀ e ∈ L, Calls Tryz.prog fg (#[eV e] ++ fcb) W (TesP (q e) W)
set_option maxHeartbeats 4000000 in
theorem frs_any (W : World) (bf bo bb ob g n cap fg i : Nat) (fcb : Array Value) (e : Et) (B : Bool) (h1 : Bk W bf 167 #[.func (.func fg) #[] fcb]) (h2 : Bk W bo 114 #[.slice (some ⟨ob, 0, none⟩) 1 1]) (h3 : Bk W bb 3 #[.int .i64 0])
    (h4 : W.cell? ⟨ob, 0, none⟩ = some (.slice (some ⟨g, 0, none⟩) n cap)) (hi : i < n) (h5 : W.cell? ⟨g, i * 3, none⟩ = some (.string e.1)) (h6 : W.cell? ⟨g, i * 3 + 1, none⟩ = some (.int .i64 e.2.1)) (h7 : W.cell? ⟨g, i * 3 + 2, none⟩ = some (.int .i64 e.2.2))
    (henter : ∀ args W, (callFunc fg args).run Tryz.prog W = .ok (.enter fg args) W) (hq : ∀ W', Below W.heap.size W W' → Calls Tryz.prog fg (#[eV e] ++ fcb) W' (TesP B W')) :
    Calls Tryz.prog 126 #[.int .i64 (i : Int), ptr bf, ptr bo, ptr bb] W (TesP B W) := by
  have HQ := Lib.hid hq
  have c1 := h1.cell 0
  have c2 := h2.cell 0
  have c3 := h3.cell 0
  have HLT : Hid (bf < W.heap.size ∧ bo < W.heap.size ∧ bb < W.heap.size ∧ ob < W.heap.size ∧ g < W.heap.size) := Lib.hid ⟨h1.lt, h2.lt, h3.lt, World.block_lt_of_cell? _ _ h4, World.block_lt_of_cell? _ _ h5⟩
  have l0 : (0 : Int) ≤ (i : Int) := by omega
  have l1 : (i : Int) < (n : Int) := by omega
  clear hq h1 h2 h3 hi
  go_enter Tryz.func126, Tryz.ntmps126
  go_wp2_with fail
  refine wp_region_held_drew (S := (fun w' => Below W.heap.size W w')) (by kernel_rfl) ?_ (fun hS => ?_)
  · exact (Below.refl _ _).drew
  refine tkY 0 ?_ rfl hS ?_ ?_
  rotate_left
  · intro wz hz
    have z1 := (hz.cell (p := ⟨bf, 0, none⟩) HLT.out.1).trans c1
    have z2 := (hz.cell (p := ⟨bo, 0, none⟩) HLT.out.2.1).trans c2
    have z3 := (hz.cell (p := ⟨bb, 0, none⟩) HLT.out.2.2.1).trans c3
    have z4 := (hz.cell (p := ⟨ob, 0, none⟩) HLT.out.2.2.2.1).trans h4
    have z5 := (hz.cell (p := ⟨g, i * 3, none⟩) HLT.out.2.2.2.2).trans h5
    have z6 := (hz.cell (p := ⟨g, i * 3 + 1, none⟩) HLT.out.2.2.2.2).trans h6
    have z7 := (hz.cell (p := ⟨g, i * 3 + 2, none⟩) HLT.out.2.2.2.2).trans h7
    go_simp
    all_goals first | with_reducible rfl | omega
  try simp only [Act.put, pu]
  refine tkY 1 ?_ rfl hS ?_ ?_
  rotate_left
  · intro wz hz
    have z1 := (hz.cell (p := ⟨bf, 0, none⟩) HLT.out.1).trans c1
    have z2 := (hz.cell (p := ⟨bo, 0, none⟩) HLT.out.2.1).trans c2
    have z3 := (hz.cell (p := ⟨bb, 0, none⟩) HLT.out.2.2.1).trans c3
    have z4 := (hz.cell (p := ⟨ob, 0, none⟩) HLT.out.2.2.2.1).trans h4
    have z5 := (hz.cell (p := ⟨g, i * 3, none⟩) HLT.out.2.2.2.2).trans h5
    have z6 := (hz.cell (p := ⟨g, i * 3 + 1, none⟩) HLT.out.2.2.2.2).trans h6
    have z7 := (hz.cell (p := ⟨g, i * 3 + 2, none⟩) HLT.out.2.2.2.2).trans h7
    go_simp
    all_goals first | with_reducible rfl | omega
  try simp only [Act.put, pu]
  refine tkY 2 ?_ rfl hS ?_ ?_
  rotate_left
  · intro wz hz
    have z1 := (hz.cell (p := ⟨bf, 0, none⟩) HLT.out.1).trans c1
    have z2 := (hz.cell (p := ⟨bo, 0, none⟩) HLT.out.2.1).trans c2
    have z3 := (hz.cell (p := ⟨bb, 0, none⟩) HLT.out.2.2.1).trans c3
    have z4 := (hz.cell (p := ⟨ob, 0, none⟩) HLT.out.2.2.2.1).trans h4
    have z5 := (hz.cell (p := ⟨g, i * 3, none⟩) HLT.out.2.2.2.2).trans h5
    have z6 := (hz.cell (p := ⟨g, i * 3 + 1, none⟩) HLT.out.2.2.2.2).trans h6
    have z7 := (hz.cell (p := ⟨g, i * 3 + 2, none⟩) HLT.out.2.2.2.2).trans h7
    go_simp
    all_goals first | with_reducible rfl | omega
  try simp only [Act.put, pu]
  refine tkY 3 ?_ rfl hS ?_ ?_
  rotate_left
  · intro wz hz
    have z1 := (hz.cell (p := ⟨bf, 0, none⟩) HLT.out.1).trans c1
    have z2 := (hz.cell (p := ⟨bo, 0, none⟩) HLT.out.2.1).trans c2
    have z3 := (hz.cell (p := ⟨bb, 0, none⟩) HLT.out.2.2.1).trans c3
    have z4 := (hz.cell (p := ⟨ob, 0, none⟩) HLT.out.2.2.2.1).trans h4
    have z5 := (hz.cell (p := ⟨g, i * 3, none⟩) HLT.out.2.2.2.2).trans h5
    have z6 := (hz.cell (p := ⟨g, i * 3 + 1, none⟩) HLT.out.2.2.2.2).trans h6
    have z7 := (hz.cell (p := ⟨g, i * 3 + 2, none⟩) HLT.out.2.2.2.2).trans h7
    go_simp
    all_goals first | with_reducible rfl | omega
  try simp only [Act.put, pu]
  refine tkY 4 ?_ rfl hS ?_ ?_
  rotate_left
  · intro wz hz
    have z1 := (hz.cell (p := ⟨bf, 0, none⟩) HLT.out.1).trans c1
    have z2 := (hz.cell (p := ⟨bo, 0, none⟩) HLT.out.2.1).trans c2
    have z3 := (hz.cell (p := ⟨bb, 0, none⟩) HLT.out.2.2.1).trans c3
    have z4 := (hz.cell (p := ⟨ob, 0, none⟩) HLT.out.2.2.2.1).trans h4
    have z5 := (hz.cell (p := ⟨g, i * 3, none⟩) HLT.out.2.2.2.2).trans h5
    have z6 := (hz.cell (p := ⟨g, i * 3 + 1, none⟩) HLT.out.2.2.2.2).trans h6
    have z7 := (hz.cell (p := ⟨g, i * 3 + 2, none⟩) HLT.out.2.2.2.2).trans h7
    go_simp
    all_goals first | with_reducible rfl | omega
  try simp only [Act.put, pu]
  refine tkY 5 ?_ rfl hS ?_ ?_
  rotate_left
  · intro wz hz
    have z1 := (hz.cell (p := ⟨bf, 0, none⟩) HLT.out.1).trans c1
    have z2 := (hz.cell (p := ⟨bo, 0, none⟩) HLT.out.2.1).trans c2
    have z3 := (hz.cell (p := ⟨bb, 0, none⟩) HLT.out.2.2.1).trans c3
    have z4 := (hz.cell (p := ⟨ob, 0, none⟩) HLT.out.2.2.2.1).trans h4
    have z5 := (hz.cell (p := ⟨g, i * 3, none⟩) HLT.out.2.2.2.2).trans h5
    have z6 := (hz.cell (p := ⟨g, i * 3 + 1, none⟩) HLT.out.2.2.2.2).trans h6
    have z7 := (hz.cell (p := ⟨g, i * 3 + 2, none⟩) HLT.out.2.2.2.2).trans h7
    go_simp
    all_goals first | with_reducible rfl | omega
  try simp only [Act.put, pu]
  refine tkY 6 ?_ rfl hS ?_ ?_
  rotate_left
  · intro wz hz
    have z1 := (hz.cell (p := ⟨bf, 0, none⟩) HLT.out.1).trans c1
    have z2 := (hz.cell (p := ⟨bo, 0, none⟩) HLT.out.2.1).trans c2
    have z3 := (hz.cell (p := ⟨bb, 0, none⟩) HLT.out.2.2.1).trans c3
    have z4 := (hz.cell (p := ⟨ob, 0, none⟩) HLT.out.2.2.2.1).trans h4
    have z5 := (hz.cell (p := ⟨g, i * 3, none⟩) HLT.out.2.2.2.2).trans h5
    have z6 := (hz.cell (p := ⟨g, i * 3 + 1, none⟩) HLT.out.2.2.2.2).trans h6
    have z7 := (hz.cell (p := ⟨g, i * 3 + 2, none⟩) HLT.out.2.2.2.2).trans h7
    go_simp
    all_goals first | with_reducible rfl | omega
  try simp only [Act.put, pu]
  refine tkY 7 ?_ rfl hS ?_ ?_
  rotate_left
  · intro wz hz
    have z1 := (hz.cell (p := ⟨bf, 0, none⟩) HLT.out.1).trans c1
    have z2 := (hz.cell (p := ⟨bo, 0, none⟩) HLT.out.2.1).trans c2
    have z3 := (hz.cell (p := ⟨bb, 0, none⟩) HLT.out.2.2.1).trans c3
    have z4 := (hz.cell (p := ⟨ob, 0, none⟩) HLT.out.2.2.2.1).trans h4
    have z5 := (hz.cell (p := ⟨g, i * 3, none⟩) HLT.out.2.2.2.2).trans h5
    have z6 := (hz.cell (p := ⟨g, i * 3 + 1, none⟩) HLT.out.2.2.2.2).trans h6
    have z7 := (hz.cell (p := ⟨g, i * 3 + 2, none⟩) HLT.out.2.2.2.2).trans h7
    go_simp
    all_goals first | with_reducible rfl | omega
  try simp only [Act.put, pu]
  refine wpAnyH_ready (rs := [8]) (by kernel_rfl) (by simp) (AllReadyH.cons rfl (fun K' hK' => ?_) AllReadyH.nil)
  go_simp
  refine (HQ.out _ hS).mono ?_
  rintro e2 w2 ⟨rfl, hb2⟩
  have hb3 := hS.trans (hb2.mono hS.size)
  have HB3 := Lib.hid hb3
  clear hb2
  refine hK'.out _ _ ?_ (fun hSn => ?_)
  · exact hb3
  clear hK' K' hS
  have hS := hSn
  clear hSn
  try simp only [Act.put, pu]
  refine tkY 9 ?_ rfl hS ?_ ?_
  rotate_left
  · intro wz hz
    have z1 := (hz.cell (p := ⟨bf, 0, none⟩) HLT.out.1).trans c1
    have z2 := (hz.cell (p := ⟨bo, 0, none⟩) HLT.out.2.1).trans c2
    have z3 := (hz.cell (p := ⟨bb, 0, none⟩) HLT.out.2.2.1).trans c3
    have z4 := (hz.cell (p := ⟨ob, 0, none⟩) HLT.out.2.2.2.1).trans h4
    have z5 := (hz.cell (p := ⟨g, i * 3, none⟩) HLT.out.2.2.2.2).trans h5
    have z6 := (hz.cell (p := ⟨g, i * 3 + 1, none⟩) HLT.out.2.2.2.2).trans h6
    have z7 := (hz.cell (p := ⟨g, i * 3 + 2, none⟩) HLT.out.2.2.2.2).trans h7
    go_simp
    all_goals first | with_reducible rfl | omega
  try simp only [Act.put, pu]
  refine wpAnyH_done (by kernel_rfl) ?_ _
  clear hS
  go_wp2
  go_ret
  exact ⟨rfl, HB3.out⟩
def FirP (q : Et → Bool) (L : List Et) (w : World) (e : Ending) (w' : World) : Prop :=
  ∃ c : Nat, e = .returned (.tuple #[.int .i64 0, .int .i64 (c : Int)]) ∧ c ≤ L.length ∧ L.take c = L.filter (fun x => !q x) ∧ L.drop c = L.filter q ∧ Below w.heap.size w w'
set_option maxHeartbeats 4000000 in
theorem first_any (w : World) (B ob fg : Nat) (fcb : Array Value) (v : Value) (L : List Et) (q : Et → Bool) (h : Bk w ob 168 #[v]) (hv : EQ B w v L) (ht : Tes fg fcb q L w) (hm : L.Pairwise fun a b => q a = true → q b = true) (hl : L.length ≤ 1000000) :
    Calls Tryz.prog 104 #[.slice (some ⟨ob, 0, none⟩) 1 1, .func (.func fg) #[] fcb] w (FirP q L w) := by
  have HT := Lib.hid ht
  have HV := Lib.hid hv
  have HH := Lib.hid h
  have HL := Lib.hid hl
  obtain ⟨va, vc, rfl⟩ := hv.form
  obtain ⟨W1, hW1⟩ : ∃ W, (w.alloc (.cells #[.slice (some ⟨ob, 0, none⟩) 1 1] 114)).alloc (.cells #[.func (.func fg) #[] fcb] 167) = W := ⟨_, rfl⟩
  have hb1 : Below w.heap.size w W1 := by rw [← hW1]; exact ((Below.refl _ _).alloc (Nat.le_refl _) _).alloc (by simp) _
  have k1 : Bk W1 w.heap.size 114 #[.slice (some ⟨ob, 0, none⟩) 1 1] := by rw [← hW1]; exact (Bk.new w _ _).alloc _
  have k2 : Bk W1 (w.heap.size + 1) 167 #[.func (.func fg) #[] fcb] := by rw [← hW1]; exact Bk.new1 _ _ _ _
  have HB1 := Lib.hid hb1
  have K1 := Lib.hid k1
  have K2 := Lib.hid k2
  have q1 := k1.cell 0
  have henter2 : ∀ args W, (callFunc 126 args).run Tryz.prog W = .ok (.enter 126 args) W := fun args W => by show Sem.run Tryz.prog (callFunc 126 args) W = _; go_simp
  have henter1 : ∀ args W, (callFunc 125 args).run Tryz.prog W = .ok (.enter 125 args) W := fun args W => by show Sem.run Tryz.prog (callFunc 125 args) W = _; go_simp
  have HE1 := Lib.hid henter1
  have HE2 := Lib.hid henter2
  have HMM := Lib.hid hm
  clear h hv ht hl hm hb1 k1 k2 henter1 henter2
  go_enter Tryz.func104, Tryz.ntmps104
  go_wp2_with fail
  refine (search_any 125 _ 0 (fun _ => true) W1 HE1.out (fun W hb i hi => absurd hi (Nat.not_lt_zero _)) (fun _ _ _ _ _ => rfl) (by omega)).mono ?_
  rintro e w2 ⟨c0, rfl, ⟨hc0, _, _⟩, hb2⟩
  have : c0 = 0 := by omega
  subst this
  have HB2 := Lib.hid (HB1.out.trans (hb2.mono HB1.out.size))
  have K1 := Lib.hid (K1.out.below hb2)
  have K2 := Lib.hid (K2.out.below hb2)
  clear q1 hb2 hc0 hW1
  obtain ⟨W3, hW3⟩ : ∃ W, w2.alloc (.cells #[.int .i64 0] 3) = W := ⟨_, rfl⟩
  have hb3 : Below w2.heap.size w2 W3 := by rw [← hW3]; exact (Below.refl _ _).alloc (Nat.le_refl _) _
  have k3 : Bk W3 w2.heap.size 3 #[.int .i64 0] := by rw [← hW3]; exact Bk.new _ _ _
  have HB3 := Lib.hid (HB2.out.trans (hb3.mono HB2.out.size))
  have K1 := Lib.hid (K1.out.below hb3)
  have K2 := Lib.hid (K2.out.below hb3)
  have K3 := Lib.hid k3
  have KO := Lib.hid (HH.out.below HB3.out)
  have HV3 := Lib.hid (HV.out.below HB3.out)
  have q1 := K1.out.cell 0
  have q2 := k3.cell 0
  have q3 := KO.out.cell 0
  clear hb3 k3
  subst hW3
  go_wp2_with fail
  obtain ⟨W3, hW3⟩ : ∃ W, w2.alloc (.cells #[.int .i64 0] 3) = W := ⟨_, rfl⟩
  obtain ⟨b2, hb2e⟩ : ∃ b, w2.heap.size = b := ⟨_, rfl⟩
  rw [hW3] at HB3 K1 K2 K3 KO HV3 q2 ⊢
  rw [hb2e] at K3 q2 ⊢
  clear hW3 hb2e q1 q3
  refine (search_any 126 _ L.length (fun i => match L[i]? with | some e => q e | none => true) W3 HE2.out (fun W hb i hi => ?_) (fun a b hab hb hpa => ?_) HL.out).mono ?_
  · obtain ⟨e, he⟩ : ∃ e, L[i]? = some e := ⟨_, List.getElem?_eq_getElem hi⟩
    rcases HV3.out.inv with ⟨_, hl0⟩ | ⟨g, cap, hve, _⟩
    · rw [hl0] at hi; simp at hi
    · have hv4 := HV3.out.below hb
      rw [hve] at hv4
      obtain ⟨c1, c2, c3⟩ := hv4.cells i e he
      have k0 := (KO.out.below hb).cell 0
      rw [hve] at k0
      show Calls _ _ _ _ (TesP (match L[i]? with | some e => q e | none => true) W)
      rw [he]
      exact frs_any W _ _ b2 ob g L.length cap fg i fcb e (q e) (K2.out.below hb) (K1.out.below hb) (K3.out.below hb) k0 hi c1 c2 c3 HT.out.enter (fun W' hb' => HT.out.tells W' (HB3.out.trans ((hb.trans (hb'.mono hb.size)).mono HB3.out.size)) e (List.mem_of_getElem? he))
  · have ha : a < L.length := Nat.lt_of_le_of_lt hab hb
    simp only [List.getElem?_eq_getElem ha, List.getElem?_eq_getElem hb] at hpa ⊢
    rcases Nat.lt_or_ge a b with h | h
    · exact (List.pairwise_iff_getElem.1 HMM.out) a b ha hb h hpa
    · have : a = b := by omega
      subst this; exact hpa
  rintro e w4 ⟨c, rfl, ⟨hc, h1, h2⟩, hb4⟩
  have hcut := cut_filter q L c hc (fun i x hi hx => by have := h1 i hi; simp only [hx] at this; exact this) (fun i x hi hx => by have := h2 i hi (List.getElem?_eq_some_iff.1 hx).1; simp only [hx] at this; exact this)
  have HCUT := Lib.hid hcut
  have HC := Lib.hid hc
  have q2 := (hb4.cell (p := ⟨b2, 0, none⟩) K3.out.lt).trans q2
  have HB4 := Lib.hid (HB3.out.trans (hb4.mono HB3.out.size))
  clear hcut hc h1 h2 hb4
  go_wp2
  go_ret2
  exact ⟨c, rfl, HC.out, HCUT.out.1, HCUT.out.2, HB4.out⟩
end Go.Proofs.YtjngangojgjceaaGreat.EX
namespace Go.Proofs.YtjngangojgjceaaGreat.EX
open Go.ChangeShapes Go.WideShapes Go.ChangeAt Go.RowKit
open Go.Proofs.YtjngangojgjceaaGreat.SL Go.Proofs.YtjngangojgjceaaGreat.RW
set_option maxRecDepth 100000
set_option linter.unusedVariables false
set_option linter.unusedSimpArgs false

theorem ty_qe : (129 : TypeId) ≠ 131 := by decide
theorem ty_oe : (168 : TypeId) ≠ 131 := by decide
theorem ty_qo : (129 : TypeId) ≠ 168 := by decide
/-- a block of another type is none of a row of entries -/
theorem EQ.off {B : Nat} {w : World} {v : Value} {l : List Et} (h : EQ B w v l) {b : Nat} {t : TypeId} {cs : Array Value} (hb : Bk w b t cs) (ht : t ≠ 131) : ∀ q, v.ownBlock = some q → b ≠ q := by
  rintro q hq rfl
  obtain ⟨_, cur, fz, h9⟩ := h.ty b hq
  unfold Bk at hb
  rw [hb] at h9
  injection h9 with h9
  injection h9 with _ h9
  exact ht h9
theorem Bk.grown {w w' : World} {b : Nat} {t : TypeId} {cs : Array Value} {row : Option Nat} (h : Bk w b t cs) (hg : w.grownBy w' row) (hn : ∀ q, row = some q → b ≠ q) : Bk w' b t cs := h.heap (hg.block b h.lt (fun e => hn b e.symm rfl))
theorem delLenR {L A C : List Et} {c : Nat} (h1 : L.take c = A) (h2 : L.drop c = C) (hc : c ≤ L.length) (x : Et) : (A ++ x :: C).length = L.length + 1 := by
  rw [← h1, ← h2]; exact insLen L c x hc
def OrdP (B ob : Nat) (v : Value) (R : List Et) (w : World) (e : Ending) (w' : World) : Prop :=
  e = .returned (.tuple #[]) ∧ ∃ a c, Bk w' ob 168 #[.slice a R.length c] ∧ EQ B w' (.slice a R.length c) R ∧ Chg (fun b => b = ob ∨ v.ownBlock = some b) w w' ∧ ∀ q, (Value.slice a R.length c).ownBlock = some q → v.ownBlock = some q ∨ w.heap.size ≤ q
theorem mono_gt {n t : Int} {L : List Et} (h : Srt n L) : L.Pairwise fun a b => decide (t < a.2.1) = true → decide (t < b.2.1) = true := h.ord.imp fun {a b} hab ha => by
  have := of_decide_eq_true ha
  exact decide_eq_true (by rcases hab with e | e <;> omega)
set_option maxHeartbeats 8000000 in
theorem add_any (w : World) (B g ob : Nat) (v : Value) (L : List Et) (n : Int) (x : Et) (qc : Array Value) (hg : Bk w g 129 qc) (hq : qc[3]? = some (.slice (some ⟨ob, 0, none⟩) 1 1)) (ho : Bk w ob 168 #[v]) (hv : EQ B w v L) (hs : Srt n L) (hl : L.length ≤ 500) (hB : B ≤ w.heap.size) :
    Calls Tryz.prog 72 #[.pointer (some ⟨g, 3, none⟩), eV x] w (OrdP B ob v (leL x.2.1 L ++ x :: gtL x.2.1 L) w) := by
  obtain ⟨R, hR⟩ : ∃ R, leL x.2.1 L ++ x :: gtL x.2.1 L = R := ⟨_, rfl⟩
  have HR := Lib.hid hR
  rw [hR]
  clear hR
  have HS := Lib.hid hs
  have HL := Lib.hid hl
  obtain ⟨xb, hxb⟩ : ∃ b, w.heap.size = b := ⟨_, rfl⟩
  obtain ⟨W1, hW1⟩ : ∃ W, w.alloc (.cells #[.string x.1, .int .i64 x.2.1, .int .i64 x.2.2] 131) = W := ⟨_, rfl⟩
  have hb1 : Below w.heap.size w W1 := by rw [← hW1]; exact (Below.refl _ _).alloc (Nat.le_refl _) _
  have kx : Bk W1 xb 131 #[.string x.1, .int .i64 x.2.1, .int .i64 x.2.2] := by rw [← hW1, ← hxb]; exact Bk.new _ _ _
  have HB1 := Lib.hid hb1
  have KX := Lib.hid kx
  have KG := Lib.hid (hg.below hb1)
  have KO := Lib.hid (ho.below hb1)
  have HV := Lib.hid (hv.below hb1)
  have HB0 : Hid (B ≤ W1.heap.size) := Lib.hid (Nat.le_trans hB hb1.size)
  have q3 : W1.cell? ⟨g, 3, none⟩ = some (.slice (some ⟨ob, 0, none⟩) 1 1) := ((hg.below hb1).cell 3).trans hq
  have henter : ∀ args W, (callFunc 105 args).run Tryz.prog W = .ok (.enter 105 args) W := fun args W => by show Sem.run Tryz.prog (callFunc 105 args) W = _; go_simp
  have HE := Lib.hid henter
  have HNB : Hid (∀ q, v.ownBlock = some q → q < xb) := Lib.hid fun q hq => by have := (hv.lt q hq).2; omega
  have HOB : Hid (∀ q, v.ownBlock = some q → q < w.heap.size) := Lib.hid fun q hq => (hv.lt q hq).2
  have HQ3 := Lib.hid hq
  clear hs hl hb1 kx hg ho hv hB henter hq
  go_enter Tryz.func72, Tryz.ntmps72
  go_wp2_with fail
  try rw [hxb]
  refine (first_any W1 B ob _ #[ptr xb] v L (fun e => decide (x.2.1 < e.2.1)) KO.out HV.out ⟨HE.out, fun W hb e _ => addc_any W xb x e (KX.out.below hb) _ rfl⟩ (mono_gt HS.out) (by have := HL.out; omega)).mono ?_
  rintro e w2 ⟨c, rfl, hc, ht, hd, hb2⟩
  have ht2 : L.take c = leL x.2.1 L := ht
  have hd2 : L.drop c = gtL x.2.1 L := hd
  have HT := Lib.hid ht2
  have HD := Lib.hid hd2
  have HC := Lib.hid hc
  have HB2 := Lib.hid (HB1.out.trans (hb2.mono HB1.out.size))
  have KX2 := Lib.hid (KX.out.below hb2)
  have KG2 := Lib.hid (KG.out.below hb2)
  have KO2 := Lib.hid (KO.out.below hb2)
  have HV2 := Lib.hid (HV.out.below hb2)
  have HB3 : Hid (B ≤ w2.heap.size) := Lib.hid (Nat.le_trans HB0.out hb2.size)
  have c3 : w2.cell? ⟨g, 3, none⟩ = some (.slice (some ⟨ob, 0, none⟩) 1 1) := (KG2.out.cell 3).trans HQ3.out
  have c0 : w2.cell? ⟨ob, 0, none⟩ = some v := KO2.out.cell 0
  have x0 : w2.cell? ⟨xb, 0, none⟩ = some (.string x.1) := KX2.out.cell 0
  have x1 : w2.cell? ⟨xb, 1, none⟩ = some (.int .i64 x.2.1) := KX2.out.cell 1
  have x2 : w2.cell? ⟨xb, 2, none⟩ = some (.int .i64 x.2.2) := KX2.out.cell 2
  clear ht hd hc hb2 ht2 hd2 q3 KX KG KO HV HB0 HB1 hxb hW1
  go_wp2_with fail
  refine wp_region_held_drew (S := (fun w' => w'.cell? ⟨g, 3, none⟩ = some (.slice (some ⟨ob, 0, none⟩) 1 1) ∧ w'.cell? ⟨ob, 0, none⟩ = some v ∧ w'.cell? ⟨xb, 0, none⟩ = some (.string x.1) ∧ w'.cell? ⟨xb, 1, none⟩ = some (.int .i64 x.2.1) ∧ w'.cell? ⟨xb, 2, none⟩ = some (.int .i64 x.2.2))) (by kernel_rfl) ?_ (fun hS => ?_)
  · exact ⟨c3, c0, x0, x1, x2⟩
  refine tkY 0 ?_ rfl hS ?_ ?_
  rotate_left
  · intro wz hz
    obtain ⟨z0, z1, z2, z3, z4⟩ := hz
    go_simp
    all_goals first | with_reducible rfl | omega
  try simp only [Act.put, pu]
  refine tkY 1 ?_ rfl hS ?_ ?_
  rotate_left
  · intro wz hz
    obtain ⟨z0, z1, z2, z3, z4⟩ := hz
    go_simp
    all_goals first | with_reducible rfl | omega
  try simp only [Act.put, pu]
  refine tkY 2 ?_ rfl hS ?_ ?_
  rotate_left
  · intro wz hz
    obtain ⟨z0, z1, z2, z3, z4⟩ := hz
    go_simp
    all_goals first | with_reducible rfl | omega
  try simp only [Act.put, pu]
  refine tkY 3 ?_ rfl hS ?_ ?_
  rotate_left
  · intro wz hz
    obtain ⟨z0, z1, z2, z3, z4⟩ := hz
    go_simp
    all_goals first | with_reducible rfl | omega
  try simp only [Act.put, pu]
  refine tkY 4 ?_ rfl hS ?_ ?_
  rotate_left
  · intro wz hz
    obtain ⟨z0, z1, z2, z3, z4⟩ := hz
    go_simp
    all_goals first | with_reducible rfl | omega
  try simp only [Act.put, pu]
  refine tkY 5 ?_ rfl hS ?_ ?_
  rotate_left
  · intro wz hz
    obtain ⟨z0, z1, z2, z3, z4⟩ := hz
    go_simp
    all_goals first | with_reducible rfl | omega
  try simp only [Act.put, pu]
  refine tkY 6 ?_ rfl hS ?_ ?_
  rotate_left
  · intro wz hz
    obtain ⟨z0, z1, z2, z3, z4⟩ := hz
    go_simp
    all_goals first | with_reducible rfl | omega
  try simp only [Act.put, pu]
  refine tkY 7 ?_ rfl hS ?_ ?_
  rotate_left
  · intro wz hz
    obtain ⟨z0, z1, z2, z3, z4⟩ := hz
    go_simp
    all_goals first | with_reducible rfl | omega
  try simp only [Act.put, pu]
  refine wpAnyH_ready (rs := [8]) (by kernel_rfl) (by simp) (AllReadyH.cons rfl (fun K' hK' => ?_) AllReadyH.nil)
  go_simp
  obtain ⟨W4, hW4⟩ : ∃ W, (w2.alloc (.cells #[.string x.1, .int .i64 x.2.1, .int .i64 x.2.2] 131)).drew = W := ⟨_, rfl⟩
  have hb4 : Below w2.heap.size w2 W4 := by rw [← hW4]; exact ((Below.refl _ _).alloc (Nat.le_refl _) _).drew
  have kv : Bk W4 w2.heap.size 131 #[.string x.1, .int .i64 x.2.1, .int .i64 x.2.2] := by rw [← hW4]; exact (Bk.new w2 _ _).drew
  try rw [hW4]
  have HB4 := Lib.hid hb4
  have KV := Lib.hid kv
  have KX4 := KX2.out.below hb4
  have hSC := (show _ ∧ _ ∧ _ ∧ _ ∧ _ from ⟨((KG2.out.below hb4).cell 3).trans HQ3.out, (KO2.out.below hb4).cell 0, KX4.cell 0, KX4.cell 1, KX4.cell 2⟩)
  clear kv KX4 hW4
  refine hK'.out _ _ ?_ (fun hSn => ?_)
  · exact hSC
  clear hK' K' hS
  have hS := hSn
  clear hSn
  try simp only [Act.put, pu]
  refine wpAnyH_ready (rs := [9]) (by kernel_rfl) (by simp) (AllReadyH.cons rfl (fun K' hK' => ?_) AllReadyH.nil)
  go_simp
  refine (einsert_any B v L c x w2.heap.size W4 (HV2.out.below HB4.out) KV.out (fun q hq => by have := (HV2.out.lt q hq).2; omega) HC.out (by have := HL.out; omega) (Nat.le_trans HB3.out HB4.out.size)).mono ?_
  rintro e w5 ⟨a5, c5, rfl, he5, hg5, ho5⟩
  rw [HT.out, HD.out, HR.out] at he5 ho5
  rw [HT.out, HD.out, HR.out]
  have kg5 := Bk.grown (KG2.out.below HB4.out) hg5 (fun q hq => (HV2.out.below HB4.out).off (KG2.out.below HB4.out) ty_qe q hq)
  have ko5 := Bk.grown (KO2.out.below HB4.out) hg5 (fun q hq => (HV2.out.below HB4.out).off (KO2.out.below HB4.out) ty_oe q hq)
  have kx5 := Bk.grown (KX2.out.below HB4.out) hg5 (fun q hq => by have := HNB.out q hq; omega)
  have hSC := (show _ ∧ _ ∧ _ ∧ _ ∧ _ from ⟨(kg5.cell 3).trans HQ3.out, ko5.cell 0, kx5.cell 0, kx5.cell 1, kx5.cell 2⟩)
  have KG5 := Lib.hid kg5
  have KO5 := Lib.hid ko5
  have HE5 := Lib.hid he5
  have HG5 := Lib.hid hg5
  have HO5 := Lib.hid ho5
  clear kg5 ko5 kx5 he5 hg5 ho5
  refine hK'.out _ _ ?_ (fun hSn => ?_)
  · exact hSC
  clear hK' K' hS
  have hS := hSn
  clear hSn
  try simp only [Act.put, pu]
  refine tkY 10 ?_ rfl hS ?_ ?_
  rotate_left
  · intro wz hz
    obtain ⟨z0, z1, z2, z3, z4⟩ := hz
    go_simp
    all_goals first | with_reducible rfl | omega
  try simp only [Act.put, pu]
  refine wpAnyH_done (by kernel_rfl) ?_ _
  clear hS
  have hrl : R.length ≤ 512 := by
    have h1 := delLenR HT.out HD.out HC.out x
    rw [HR.out] at h1
    have := HL.out
    omega
  have HRL : Hid (R.length ≤ 512) := Lib.hid hrl
  have rl : ¬ ((512 : Int) < (R.length : Int)) := by omega
  have y3 : w5.cell? ⟨g, 3, none⟩ = some (.slice (some ⟨ob, 0, none⟩) 1 1) := (KG5.out.cell 3).trans HQ3.out
  have y0 : w5.cell? ⟨ob, 0, none⟩ = some v := KO5.out.cell 0
  have f0 := KO5.out.frozen 0
  clear c3 c0 x0 x1 x2 hrl
  go_wp2
  refine bodyPost_ret (v := .tuple #[]) (by simp [results, Tryz.results72, go_sem]) rfl ⟨rfl, a5, c5, KO5.out.set_ 0 _, ?_, ?_, ?_⟩
  · exact HE5.out.keep fun q hq => Below.heap_setCell _ _ _ _ (fun e => (HE5.out.off KO5.out ty_oe q hq) e.symm)
  · have h1 : Chg (fun b => b = ob ∨ v.ownBlock = some b) w w5 := ((Chg.of_below (S := fun b => b = ob ∨ v.ownBlock = some b) HB2.out).trans (Chg.of_below HB4.out)).grown HG5.out (fun k hk _ => .inr hk)
    exact h1.setCell (p := ⟨ob, 0, none⟩) (.inl rfl) _
  · intro q hq
    rcases HO5.out q hq with h | h
    · exact .inl h
    · exact .inr (Nat.le_trans HB2.out.size (Nat.le_trans HB4.out.size h))
end Go.Proofs.YtjngangojgjceaaGreat.EX
