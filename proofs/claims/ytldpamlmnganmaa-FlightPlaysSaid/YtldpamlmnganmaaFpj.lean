/- FlightPlays: plain; a copy beside the elder board. Conditions: as each. -/
import Derived.Test.YtldpamlmnganmaaFpi
namespace Go.Proofs.Ytldpamlmnganmaa.FL
open Go.ChangeShapes Go.WideShapes Go.ChangeAt Go.RowKit Go.Maps Go.ChangeMaps
open Go.Proofs.Ytldpamlmnganmaa.SL
set_option maxRecDepth 100000
set_option linter.unusedVariables false
set_option linter.unusedSimpArgs false

set_option maxHeartbeats 4000000 in
theorem plain_any (k : Ky) (w : World) : Calls Try.prog 12 #[kyV k] w (RdP (kyV k) w) := by
  obtain ⟨W0, hW0⟩ : ∃ W, w.alloc (.cells (kC k) 30) = W := ⟨_, rfl⟩
  obtain ⟨kb, hkb⟩ : ∃ b, w.heap.size = b := ⟨_, rfl⟩
  have b0 : Below w.heap.size w W0 := by rw [← hW0]; exact (Below.refl _ _).alloc (Nat.le_refl _) _
  have kk0 : Bk W0 kb 30 (kC k) := by rw [← hW0, ← hkb]; exact Bk.new _ _ _
  obtain ⟨W1, hW1⟩ : ∃ W, W0.alloc (.cells #[.string ⟨#[]⟩, .string ⟨#[]⟩, .int .i64 0, .string ⟨#[]⟩] 38) = W := ⟨_, rfl⟩
  obtain ⟨jb, hjb⟩ : ∃ b, W0.heap.size = b := ⟨_, rfl⟩
  have b1 : Below w.heap.size w W1 := by rw [← hW1]; exact b0.alloc b0.size _
  have kk : Bk W1 kb 30 (kC k) := by rw [← hW1]; exact kk0.alloc _
  have jj : Bk W1 jb 38 #[.string ⟨#[]⟩, .string ⟨#[]⟩, .int .i64 0, .string ⟨#[]⟩] := by rw [← hW1, ← hjb]; exact Bk.new _ _ _
  have HB := Lib.hid b1
  have HJ := Lib.hid jj
  have HJB : Hid (w.heap.size ≤ jb) := Lib.hid (by rw [← hjb]; exact b0.size)
  obtain ⟨db, ro, fm, no⟩ := k
  have a0 : W1.cell? ⟨kb, 0, none⟩ = some (.string db) := kk.cell 0
  have a1 : W1.cell? ⟨kb, 1, none⟩ = some (.string ro) := kk.cell 1
  have a2 : W1.cell? ⟨kb, 2, none⟩ = some (.int .i64 fm) := kk.cell 2
  have a3 : W1.cell? ⟨kb, 3, none⟩ = some (.string no) := kk.cell 3
  have q0 := jj.cell 0
  have q1 := jj.cell 1
  have q2 := jj.cell 2
  have q3 := jj.cell 3
  have f0 := jj.frozen 0
  have f1 := jj.frozen 1
  have f2 := jj.frozen 2
  have f3 := jj.frozen 3
  simp at q0 q1 q2 q3
  clear b0 kk0 b1 kk jj
  go_enter Try.func12, Try.ntmps12
  go_wp2_with fail
  try rw [hW0]
  try rw [hkb]
  try rw [hW1]
  try rw [hjb]
  go_wp2
  have k5 := (((HJ.out.set_ 0 (.string db)).set_ 1 (.string ro)).set_ 2 (.int .i64 fm)).set_ 3 (.string no)
  have r0 := k5.cell 0
  have r1 := k5.cell 1
  have r2 := k5.cell 2
  have r3 := k5.cell 3
  simp at r0 r1 r2 r3
  refine bodyPost_ret (v := kyV (db, ro, fm, no)) (by simp [results, Try.results12, go_sem, r0, r1, r2, r3]) rfl ?_
  exact ⟨rfl, (((HB.out.setCell (p := ⟨jb, 0, none⟩) HJB.out _).setCell (p := ⟨jb, 1, none⟩) HJB.out _).setCell (p := ⟨jb, 2, none⟩) HJB.out _).setCell (p := ⟨jb, 3, none⟩) HJB.out _⟩
theorem neq_rk (a b : Ky) (w : World) : (binOp .neq 38 (kyV a) (kyV b)).run Try.prog w = .ok (.bool (!eqK a b)) w := by
  obtain ⟨a1, a2, a3, a4⟩ := a
  obtain ⟨b1, b2, b3, b4⟩ := b
  unfold eqK
  cases h1 : (a1.toList == b1.toList) <;> cases h2 : (a2.toList == b2.toList) <;> cases h3 : (a3 == b3) <;> cases h4 : (a4.toList == b4.toList) <;> go_simp
/-- a board, and another one beside it -/
def L2 (B : Nat) (w : World) (a N : Nat) (S : List Fl) (a2 M : Nat) (T : List Fl) : Prop := ∃ C C2, CB w a N C S ∧ (∀ b, b = a ∨ C.own b → B ≤ b) ∧ CB w a2 M C2 T ∧ (∀ b, b = a2 ∨ C2.own b → B ≤ b) ∧ ∀ b, C.own b → ¬ (b = a2 ∨ C2.own b)
section
variable {B a N a2 M : Nat} {w w' : World} {S T : List Fl}
theorem L2.second (h : L2 B w a N S a2 M T) : LB B w a2 M T := by
  obtain ⟨C, C2, _, _, h3, h4, _⟩ := h
  exact ⟨C2, h3, h4⟩
theorem L2.first (h : L2 B w a N S a2 M T) : LB B w a N S := by
  obtain ⟨C, C2, h1, h2, _⟩ := h
  exact ⟨C, h1, h2⟩
theorem L2.step {C C2 : Bs} {N' : Nat} {S' : List Fl} (h1 : CB w a N C S) (h2 : ∀ b, b = a ∨ C.own b → B ≤ b) (h3 : CB w a2 M C2 T) (h4 : ∀ b, b = a2 ∨ C2.own b → B ≤ b) (h5 : ∀ b, C.own b → ¬ (b = a2 ∨ C2.own b)) (hs : StP w a N' C S' w') : L2 B w' a N' S' a2 M T ∧ Below B w w' ∧ Kf w w' := by
  have hls := h1.ls h2 hs
  obtain ⟨C', k1, k2, k3⟩ := hs
  have hB : B ≤ w.heap.size := Nat.le_of_lt (Nat.lt_of_le_of_lt (h2 a (.inl rfl)) h1.bk.lt)
  have hlt : ∀ b, (b = a2 ∨ C2.own b) → b < w.heap.size := fun b hb => by
    rcases hb with rfl | hb
    · exact h3.bk.lt
    · exact h3.lt hb
  refine ⟨⟨C', C2, k1, fun b hb => ?_, h3.keep fun b hb => k2.block b (hlt b hb) fun ho => h5 b ho hb, h4, fun b hb hb2 => ?_⟩, hls.bel, hls.kf⟩
  · rcases hb with hb | hb
    · exact h2 b (.inl hb)
    · rcases k3 b hb with hb | hb
      · exact h2 b (.inr hb)
      · omega
  · rcases k3 b hb with hb | hb
    · exact h5 b hb hb2
    · have := hlt b hb2
      omega
theorem l2_copy (h : LB B w a N S) (hN : N ≤ 1000000) (hT : tot S ≤ 1000000) :
    Calls Try.prog 18 #[ptr a] w fun e w' => ∃ a2, e = .returned (ptr a2) ∧ L2 B w' a N S a2 (tot S) S ∧ Below B w w' ∧ Kf w w' := by
  obtain ⟨C, h1, h2⟩ := h
  have hB : B ≤ w.heap.size := Nat.le_of_lt (Nat.lt_of_le_of_lt (h2 a (.inl rfl)) h1.bk.lt)
  refine (copy_any h1 hN hT).mono ?_
  rintro e w' ⟨a2, C2, rfl, h3, h4, h5⟩
  exact ⟨a2, rfl, ⟨C, C2, h1.below h5, h2, h3, fun b hb => Nat.le_trans hB (h4 b hb), fun b hb hb2 => by have := h1.lt hb; have := h4 b hb2; omega⟩, h5.mono hB, Kf.below h5⟩
theorem l2_ask (h : L2 B w a N S a2 M T) (hN : N ≤ 1000000) (k : Ky) (hk : FitK k) (c : Int) (hc : I9 c) :
    Calls Try.prog 10 #[ptr a, kyV k, .int .i64 c] w fun e w' => ∃ x y, e = .returned (.tuple #[.bool x, .int .i64 y]) ∧ L2 B w' a (N + 1) (askS S k c).1 a2 M T ∧ Below B w w' ∧ Kf w w' := by
  obtain ⟨C, C2, h1, h2, h3, h4, h5⟩ := h
  refine (ask_any h1 hN k hk c hc).mono ?_
  rintro e w' ⟨rfl, h6⟩
  exact ⟨_, _, rfl, L2.step h1 h2 h3 h4 h5 h6⟩
theorem l2_land (h : L2 B w a N S a2 M T) (hN : N ≤ 1000000) (k : Ky) (hk : FitK k) :
    Calls Try.prog 13 #[ptr a, kyV k] w fun e w' => ∃ x v y, e = .returned (.tuple #[.int .i64 x, v, .bool y]) ∧ (∃ S', L2 B w' a N S' a2 M T) ∧ Below B w w' ∧ Kf w w' := by
  obtain ⟨C, C2, h1, h2, h3, h4, h5⟩ := h
  refine (land_any h1 hN k hk).mono ?_
  rintro e w' ⟨v, rfl, _, h6⟩
  have := L2.step h1 h2 h3 h4 h5 h6
  exact ⟨_, _, _, rfl, ⟨_, this.1⟩, this.2⟩
theorem l2_leave (h : L2 B w a N S a2 M T) (hN : N ≤ 1000000) (c : Int) (hc : I9 c) :
    Calls Try.prog 16 #[ptr a, .int .i64 c] w fun e w' => ∃ v y, e = .returned (.tuple #[v, .bool y]) ∧ LB B w' a2 M T ∧ Below B w w' ∧ Kf w w' := by
  obtain ⟨C, C2, h1, h2, h3, h4, h5⟩ := h
  refine (leave_any h1 hN c hc).mono ?_
  rintro e w' ⟨v, rfl, _, h6⟩
  have := L2.step h1 h2 h3 h4 h5 h6
  exact ⟨_, _, rfl, this.1.second, this.2⟩
end
theorem RB.zero (w : World) : RB w.heap.size (w.alloc (.cells #[.slice none 0 0] 28)) w.heap.size [] :=
  ⟨[], .slice none 0 0, ⟨Bk.new _ _ _, World.ownsRow_nil _ _ _ _, fun x hx => (by cases hx), List.Pairwise.nil, Nat.le_refl _⟩, rfl⟩
theorem RB.mono {B B' r : Nat} {w : World} {S : List Fl} (h : RB B w r S) (hB : B' ≤ B) : RB B' w r S := by
  obtain ⟨X, v, h1, h2⟩ := h
  exact ⟨X, v, ⟨h1.bk, ownMono h1.own hB, fun x hx => ⟨OI.mono (h1.it x hx).1 hB, (h1.it x hx).2⟩, h1.ap, Nat.le_trans hB h1.bg⟩, h2⟩
theorem land_small {S : List Fl} (hs : Sm S) (k : Ky) : (landS S k).2.2.1.length ≤ 1000000 := by
  unfold landS
  split
  · exact Nat.zero_le _
  · rename_i l hf
    have := hs.each _ (findF_mem hf)
    simp only [List.length_tail] at *
    omega
theorem leave_small {S : List Fl} (hs : Sm S) (c : Int) : (leaveS S c).2.1.length ≤ 1000000 := by
  unfold leaveS
  split
  · exact Nat.zero_le _
  · rename_i t hf
    have := hs.each _ (ofF_mem hf).1
    split
    · simp only [List.length_tail]; omega
    · exact Nat.zero_le _
end Go.Proofs.Ytldpamlmnganmaa.FL
