/- Package line, its code: First, Copy. Conditions: as each. -/
import Derived.Test.YtochjbmighijgaaPlf
namespace Go.Proofs.Ytochjbmighijgaa.LN
open Go.ChangeShapes Go.WideShapes Go.ChangeAt Go.RowKit
open Go.Proofs.Ytochjbmighijgaa.SL Go.Proofs.Ytochjbmighijgaa.RW
set_option maxRecDepth 100000
set_option linter.unusedVariables false
set_option linter.unusedSimpArgs false

section
variable {B : Nat} {w w' : World} {a most : Nat} {v : Value} {l : List Wt}
theorem LC.turn {u : Value} {l' : List Wt} (h : LC B w a most v l) (hu : WS 96 B w u l') (hl : l'.length ≤ most) : LC B (w.setCell ⟨a, 2, none⟩ u) a most u l' := by
  refine ⟨h.bk.set_ 2 u, hu.keep fun g hg => Below.heap_setCell w ⟨a, 2, none⟩ u g fun e => ?_, hl, h.ma, h.ab⟩
  obtain ⟨cur, hc⟩ := hu.ty g hg
  have hk := h.bk
  unfold Bk at hk
  rw [show g = a from e, hk] at hc
  injection hc with hc
  injection hc with _ hc
  exact absurd hc (by decide)
theorem LC.drew (h : LC B w a most v l) : LC B w.drew a most v l := ⟨h.bk, h.ws, h.le, h.ma, h.ab⟩
def FirstP (w : World) (v : Value) (B a most : Nat) (l' : List Wt) (r : Int) (y : Bool) (e : Ending) (w' : World) : Prop :=
  e = .returned (.tuple #[nV r, .bool y]) ∧ (∃ v', LC B w' a most v' l' ∧ Own w v v') ∧ Chg (fun b => b = a) w w'
set_option maxHeartbeats 4000000 in
theorem first_nil (h : LC B w a most v []) : Calls Try.prog 27 #[ptr a] w (FirstP w v B a most [] 0 false) := by
  obtain ⟨c0, c1, c2⟩ := h.cells
  have HG := Lib.hid (given_yes w a c0)
  have HL := Lib.hid h
  obtain ⟨va, vc, rfl⟩ := h.ws.form
  clear h
  go_enter Try.func27, Try.ntmps27
  go_wp2_with fail
  refine HG.out.mono ?_
  rintro e w1 ⟨rfl, rfl⟩
  go_wp2
  go_ret2
  exact ⟨rfl, ⟨_, HL.out, Own.refl _ _⟩, Chg.refl _ _⟩
set_option maxHeartbeats 4000000 in
theorem first_cons {p : Wt} {t : List Wt} (h : LC B w a most v (p :: t)) (hB : B ≤ w.heap.size) : Calls Try.prog 27 #[ptr a] w (FirstP w v B a most t p.1 true) := by
  obtain ⟨c0, c1, c2⟩ := h.cells
  have HG := Lib.hid (given_yes w a c0)
  have HL := Lib.hid h
  obtain ⟨g, off, cap, rfl, hc, hx⟩ := h.ws.inv (by simp)
  obtain ⟨x0, x1⟩ := hx 0 p rfl
  obtain ⟨n, hn⟩ : ∃ n, (p :: t).length = n := ⟨_, rfl⟩
  rw [hn] at HL c2 hc
  rw [Nat.zero_mul, Nat.add_zero] at x0 x1
  have HN := Lib.hid hn
  have hn1 : 1 ≤ n := by rw [← hn]; simp
  have HC : Hid (n ≤ cap) := Lib.hid hc
  obtain ⟨pi, pt⟩ := p
  simp only at x0 x1
  have l0 : (0 : Int) < (n : Int) := by omega
  have l1 : ¬ (n : Int) = 0 := by omega
  have l2 : (1 : Int) ≤ (n : Int) := by omega
  have l3 : (n : Int) ≤ (cap : Int) := by omega
  obtain ⟨W1, hW1⟩ : ∃ W, w.alloc (.cells #[nV pi, nV pt] 96) = W := ⟨_, rfl⟩
  obtain ⟨pb, hpb⟩ : ∃ b, w.heap.size = b := ⟨_, rfl⟩
  have hb1 : Below w.heap.size w W1 := by rw [← hW1]; exact (Below.refl _ _).alloc (Nat.le_refl _) _
  have kp : Bk W1 pb 96 #[nV pi, nV pt] := by rw [← hW1, ← hpb]; exact Bk.new _ _ _
  have hl1 := HL.out.below hb1
  have HL1 := Lib.hid hl1
  have HB1 := Lib.hid hb1
  obtain ⟨d0, d1, d2⟩ := hl1.cells
  have f2 := hl1.bk.frozen 2
  have p0 := kp.cell 0
  have p1 := kp.cell 1
  have hpa : pb ≠ a := by have := HL.out.bk.lt; omega
  clear h hx hn hb1 kp hl1
  by_cases hcap : cap = 1
  · subst hcap
    have hn2 : n = 1 := by have := HC.out; omega
    subst hn2
    have ht : t = [] := by have := HN.out; simpa using this
    have HU : Hid (WS 96 B W1 (.slice (some ⟨g, off, none⟩) 0 0) t) := Lib.hid (by
      have hw := HL1.out.ws
      rw [ht]
      rcases hw with ⟨e, _⟩ | ⟨g', off', cap', cur, e, hb, hh, hc', hm, hs, hx⟩
      · cases e
      · injection e with e1 e2 e3
        injection e1 with e1
        injection e1 with e1 e4
        subst e1 e3 e4
        exact .inr ⟨g, off, 0, cur, rfl, hb, hh, Nat.zero_le _, Nat.zero_le _, by omega, fun j u hj => by simp [pC, fz] at hj⟩)
    have HTL : Hid (t.length ≤ most) := Lib.hid (by rw [ht]; exact Nat.zero_le _)
    clear ht
    go_enter Try.func27, Try.ntmps27
    go_wp2_with fail
    refine HG.out.mono ?_
    rintro e w1 ⟨rfl, rfl⟩
    go_wp2_with fail
    try rw [hpb]
    go_region
    obtain ⟨W2, hW2⟩ : ∃ W, (W1.setCell ⟨a, 2, none⟩ (.slice (some ⟨g, off, none⟩) 0 0)).drew = W := ⟨_, rfl⟩
    try rw [hW2]
    have HR : Hid (LC B W2 a most (.slice (some ⟨g, off, none⟩) 0 0) t) := Lib.hid (by
      rw [← hW2]
      exact (HL1.out.turn HU.out HTL.out).drew)
    have HCH : Hid (Chg (fun b => b = a) w W2) := Lib.hid (by rw [← hW2]; exact (((Chg.of_below (S := fun b => b = a) HB1.out).setCell (p := ⟨a, 2, none⟩) rfl _).drew))
    have q0 : W2.cell? ⟨pb, 0, none⟩ = some (nV pi) := by
      rw [← hW2]
      exact ((show Bk W1 pb 96 #[nV pi, nV pt] by rw [← hW1, ← hpb]; exact Bk.new _ _ _).far (p := ⟨a, 2, none⟩) hpa _).cell 0
    clear hW2 hW1 hpb d0 d1 d2
    go_wp2
    go_ret2
    exact ⟨rfl, ⟨_, HR.out, fun q9 hq9 => .inl hq9⟩, HCH.out⟩
  · go_enter Try.func27, Try.ntmps27
    go_wp2_with fail
    refine HG.out.mono ?_
    rintro e w1 ⟨rfl, rfl⟩
    go_wp2_with fail
    try rw [hpb]
    go_region
    obtain ⟨W2, hW2⟩ : ∃ W, (W1.setCell ⟨a, 2, none⟩ (.slice (some ⟨g, off + 2, none⟩) (n - 1) (cap - 1))).drew = W := ⟨_, rfl⟩
    try rw [hW2]
    have HR : Hid (LC B W2 a most (.slice (some ⟨g, off + 2, none⟩) (n - 1) (cap - 1)) t) := Lib.hid (by
      rw [← hW2]
      have hcut := HL1.out.ws.cut (by rw [HN.out]) 1 n cap hn1 (by rw [HN.out]; exact Nat.le_refl _) HC.out (Nat.le_refl _)
      rw [List.take_of_length_le (by rw [HN.out]; exact Nat.le_refl _)] at hcut
      have hle := HL1.out.le
      rw [List.length_cons] at hle
      exact (HL1.out.turn (l' := t) hcut (by omega)).drew)
    have HCH : Hid (Chg (fun b => b = a) w W2) := Lib.hid (by rw [← hW2]; exact (((Chg.of_below (S := fun b => b = a) HB1.out).setCell (p := ⟨a, 2, none⟩) rfl _).drew))
    have q0 : W2.cell? ⟨pb, 0, none⟩ = some (nV pi) := by
      rw [← hW2]
      exact ((show Bk W1 pb 96 #[nV pi, nV pt] by rw [← hW1, ← hpb]; exact Bk.new _ _ _).far (p := ⟨a, 2, none⟩) hpa _).cell 0
    clear hW2 hW1 hpb d0 d1 d2
    go_wp2
    go_ret2
    exact ⟨rfl, ⟨_, HR.out, fun q9 hq9 => .inl hq9⟩, HCH.out⟩
theorem first_any (h : LC B w a most v l) (hB : B ≤ w.heap.size) : Calls Try.prog 27 #[ptr a] w (FirstP w v B a most (firstS l).1 (firstS l).2.1 (firstS l).2.2) := by
  cases l with
  | nil => exact first_nil h
  | cons p t => exact first_cons h hB
theorem first_no (h : Nb w v) : Calls Try.prog 27 #[v] w fun e w' => e = .returned (.tuple #[nV 0, .bool false]) ∧ w = w' := by
  have HG := Lib.hid (given_no h)
  clear h
  go_enter Try.func27, Try.ntmps27
  go_wp2_with fail
  refine HG.out.mono ?_
  rintro e w1 ⟨rfl, rfl⟩
  go_wp2
  go_ret2
  exact ⟨rfl, rfl⟩
theorem join_no (h : Nb w v) (x y : Int) : Calls Try.prog 25 #[v, nV x, nV y] w fun e w' => e = .returned (nV 12) ∧ w = w' := by
  have HG := Lib.hid (given_no h)
  clear h
  go_enter Try.func25, Try.ntmps25
  go_wp2_with fail
  refine HG.out.mono ?_
  rintro e w1 ⟨rfl, rfl⟩
  go_wp2
  go_ret
  exact ⟨rfl, rfl⟩
theorem copy_no (h : Nb w v) : Calls Try.prog 41 #[v] w fun e w' => e = .returned (.pointer none) ∧ w = w' := by
  have HG := Lib.hid (given_no h)
  clear h
  go_enter Try.func41, Try.ntmps41
  go_wp2_with fail
  refine HG.out.mono ?_
  rintro e w1 ⟨rfl, rfl⟩
  go_wp2
  go_ret
  exact ⟨rfl, rfl⟩
def OfV (v u : Value) (n : Nat) : Prop := u = .slice none 0 0 ∨ ∃ A cap, v = .slice (some A) n cap ∧ u = .slice (some A) n n
def CopyP (w : World) (B a most : Nat) (v : Value) (l : List Wt) (e : Ending) (w' : World) : Prop := ∃ c u, e = .returned (ptr c) ∧ Cp w' a c most v u B l ∧ Below w.heap.size w w' ∧ w.heap.size ≤ c
theorem copy_end {u : Value} {W : World} (h : LC B w a most v l) (hW : Below w.heap.size w W) (hu : WS 96 B w u l) (hof : OfV v u l.length)
    (hk : Bk w' W.heap.size 94 #[ptr W.heap.size, nV (most : Int), u]) (hb : Below W.heap.size W w') : CopyP w B a most v l (.returned (ptr W.heap.size)) w' := by
  have hb2 : Below w.heap.size w w' := hW.trans (hb.mono hW.size)
  have hs := hW.size
  exact ⟨_, u, rfl, ⟨⟨hk, hu.below hb2, h.le, h.ma, by have := h.ab; have := h.bk.lt; omega⟩, by have := h.bk.lt; omega, hof⟩, hb2, by omega⟩
set_option maxHeartbeats 4000000 in
theorem copy_any (h : LC B w a most v l) (hB : B ≤ w.heap.size) : Calls Try.prog 41 #[ptr a] w (CopyP w B a most v l) := by
  obtain ⟨c0, c1, c2⟩ := h.cells
  have HG := Lib.hid (given_yes w a c0)
  have HL := Lib.hid h
  have HBB := Lib.hid hB
  obtain ⟨n, hn⟩ : ∃ n, l.length = n := ⟨_, rfl⟩
  rcases h.ws with ⟨rfl, rfl⟩ | ⟨g, off, cap, cur, rfl, hb, hh, hc, hm, hs, hx⟩
  · have HU : Hid (WS 96 B w (.slice none 0 0) []) := Lib.hid (WS.nil _ _ _)
    have HOF : Hid (OfV (.slice none 0 0) (.slice none 0 0) 0) := Lib.hid (.inl rfl)
    clear h hn
    go_enter Try.func41, Try.ntmps41
    go_wp2_with fail
    refine HG.out.mono ?_
    rintro e w1 ⟨rfl, rfl⟩
    go_wp2_with fail
    clear c0 c1 c2
    refine wp_region_held_drew (S := fun W => Below w.heap.size w W) (by kernel_rfl) ?_ (fun hS => ?_)
    · exact below_drewN _ _ 1
    refine tkY 0 ?_ rfl hS ?_ ?_
    rotate_left
    · intro wz hz
      obtain ⟨d0, d1, d2⟩ := (HL.out.below hz).cells
      go_simp
      all_goals first | with_reducible rfl | omega
    try simp only [Act.put, pu]
    refine tkY 1 ?_ rfl hS ?_ ?_
    rotate_left
    · intro wz hz
      obtain ⟨d0, d1, d2⟩ := (HL.out.below hz).cells
      go_simp
      all_goals first | with_reducible rfl | omega
    try simp only [Act.put, pu]
    refine tkY 2 ?_ rfl hS ?_ ?_
    rotate_left
    · intro wz hz
      obtain ⟨d0, d1, d2⟩ := (HL.out.below hz).cells
      go_simp
      all_goals first | with_reducible rfl | omega
    try simp only [Act.put, pu]
    refine tkY 3 ?_ rfl hS ?_ ?_
    rotate_left
    · intro wz hz
      obtain ⟨d0, d1, d2⟩ := (HL.out.below hz).cells
      go_simp
      all_goals first | with_reducible rfl | omega
    try simp only [Act.put, pu]
    refine tkY 4 ?_ rfl hS ?_ ?_
    rotate_left
    · intro wz hz
      obtain ⟨d0, d1, d2⟩ := (HL.out.below hz).cells
      go_simp
      all_goals first | with_reducible rfl | omega
    try simp only [Act.put, pu]
    refine tkY 5 ?_ rfl hS ?_ ?_
    rotate_left
    · intro wz hz
      obtain ⟨d0, d1, d2⟩ := (HL.out.below hz).cells
      go_simp
      all_goals first | with_reducible rfl | omega
    try simp only [Act.put, pu]
    refine tkY 6 ?_ rfl hS ?_ ?_
    rotate_left
    · intro wz hz
      obtain ⟨d0, d1, d2⟩ := (HL.out.below hz).cells
      go_simp
      all_goals first | with_reducible rfl | omega
    try simp only [Act.put, pu]
    refine tkY 7 ?_ rfl hS ?_ ?_
    rotate_left
    · intro wz hz
      obtain ⟨d0, d1, d2⟩ := (HL.out.below hz).cells
      go_simp
      all_goals first | with_reducible rfl | omega
    try simp only [Act.put, pu]
    refine tkY 8 ?_ rfl hS ?_ ?_
    rotate_left
    · intro wz hz
      obtain ⟨d0, d1, d2⟩ := (HL.out.below hz).cells
      go_simp
      all_goals first | with_reducible rfl | omega
    try simp only [Act.put, pu]
    refine tkY 9 ?_ rfl hS ?_ ?_
    rotate_left
    · intro wz hz
      obtain ⟨d0, d1, d2⟩ := (HL.out.below hz).cells
      go_simp
      all_goals first | with_reducible rfl | omega
    try simp only [Act.put, pu]
    refine tkY 10 ?_ rfl hS ?_ ?_
    rotate_left
    · intro wz hz
      obtain ⟨d0, d1, d2⟩ := (HL.out.below hz).cells
      go_simp
      all_goals first | with_reducible rfl | omega
    try simp only [Act.put, pu]
    refine tkY 11 ?_ rfl hS ?_ ?_
    rotate_left
    · intro wz hz
      obtain ⟨d0, d1, d2⟩ := (HL.out.below hz).cells
      go_simp
      all_goals first | with_reducible rfl | omega
    try simp only [Act.put, pu]
    refine tkY 12 ?_ rfl hS ?_ ?_
    rotate_left
    · intro wz hz
      obtain ⟨d0, d1, d2⟩ := (HL.out.below hz).cells
      go_simp
      all_goals first | with_reducible rfl | omega
    try simp only [Act.put, pu]
    refine tkY 13 ?_ rfl hS ?_ ?_
    rotate_left
    · intro wz hz
      obtain ⟨d0, d1, d2⟩ := (HL.out.below hz).cells
      go_simp
      all_goals first | with_reducible rfl | omega
    try simp only [Act.put, pu]
    refine tkY 14 ?_ rfl hS ?_ ?_
    rotate_left
    · intro wz hz
      obtain ⟨d0, d1, d2⟩ := (HL.out.below hz).cells
      go_simp
      all_goals first | with_reducible rfl | omega
    try simp only [Act.put, pu]
    refine tkY 15 ?_ rfl hS ?_ ?_
    rotate_left
    · intro wz hz
      obtain ⟨d0, d1, d2⟩ := (HL.out.below hz).cells
      go_simp
      all_goals first | with_reducible rfl | omega
    try simp only [Act.put, pu]
    refine tkY 16 ?_ rfl hS ?_ ?_
    rotate_left
    · intro wz hz
      obtain ⟨d0, d1, d2⟩ := (HL.out.below hz).cells
      go_simp
      all_goals first | with_reducible rfl | omega
    try simp only [Act.put, pu]
    refine tkY 17 ?_ rfl hS ?_ ?_
    rotate_left
    · intro wz hz
      obtain ⟨d0, d1, d2⟩ := (HL.out.below hz).cells
      go_simp
      all_goals first | with_reducible rfl | omega
    try simp only [Act.put, pu]
    refine tkY 18 ?_ rfl hS ?_ ?_
    rotate_left
    · intro wz hz
      obtain ⟨d0, d1, d2⟩ := (HL.out.below hz).cells
      go_simp
      all_goals first | with_reducible rfl | omega
    try simp only [Act.put, pu]
    refine wpAnyH_ready (rs := [19]) (by kernel_rfl) (by simp) (AllReadyH.cons rfl (fun K' hK' => ?_) AllReadyH.nil)
    go_simp
    go_at_call 58
    refine (made_any _ _ _ ⟨_, _, _, rfl⟩).mono ?_
    rintro e w2 ⟨rfl, hk, hb⟩
    have HE := Lib.hid (copy_end HL.out hS HU.out HOF.out hk hb)
    have HB2 := Lib.hid (hS.trans (hb.mono hS.size))
    clear hk hb
    refine hK'.out _ _ ?_ (fun hSn => ?_)
    · exact HB2.out
    clear hK' K' hS
    have hS := hSn
    clear hSn
    try simp only [Act.put, pu]
    refine tkY 20 ?_ rfl hS ?_ ?_
    rotate_left
    · intro wz hz
      go_simp
      all_goals first | with_reducible rfl | omega
    try simp only [Act.put, pu]
    refine wpAnyH_done (by kernel_rfl) ?_ _
    clear hS
    go_wp2
    go_ret
    exact HE.out
  · have HU := Lib.hid (h.ws.cut rfl 0 l.length l.length (Nat.zero_le _) (Nat.le_refl _) (Nat.le_refl _) hc)
    rw [List.take_length, List.drop_zero, Nat.zero_mul, Nat.add_zero, Nat.sub_zero] at HU
    have HOF : Hid (OfV (.slice (some ⟨g, off, none⟩) l.length cap) (.slice (some ⟨g, off, none⟩) l.length l.length) l.length) := Lib.hid (.inr ⟨_, _, rfl, rfl⟩)
    have HN := Lib.hid hn
    rw [hn] at HL HU HOF c2 hc ⊢
    have l1 : (n : Int) ≤ (cap : Int) := by omega
    have l2 : (0 : Int) ≤ (n : Int) := by omega
    clear h hb hh hm hs hx hn
    go_enter Try.func41, Try.ntmps41
    go_wp2_with fail
    refine HG.out.mono ?_
    rintro e w1 ⟨rfl, rfl⟩
    go_wp2_with fail
    clear c0 c1 c2
    refine wp_region_held_drew (S := fun W => Below w.heap.size w W) (by kernel_rfl) ?_ (fun hS => ?_)
    · exact below_drewN _ _ 1
    refine tkY 0 ?_ rfl hS ?_ ?_
    rotate_left
    · intro wz hz
      obtain ⟨d0, d1, d2⟩ := (HL.out.below hz).cells
      go_simp
      all_goals first | with_reducible rfl | omega
    try simp only [Act.put, pu]
    refine tkY 1 ?_ rfl hS ?_ ?_
    rotate_left
    · intro wz hz
      obtain ⟨d0, d1, d2⟩ := (HL.out.below hz).cells
      go_simp
      all_goals first | with_reducible rfl | omega
    try simp only [Act.put, pu]
    refine tkY 2 ?_ rfl hS ?_ ?_
    rotate_left
    · intro wz hz
      obtain ⟨d0, d1, d2⟩ := (HL.out.below hz).cells
      go_simp
      all_goals first | with_reducible rfl | omega
    try simp only [Act.put, pu]
    refine tkY 3 ?_ rfl hS ?_ ?_
    rotate_left
    · intro wz hz
      obtain ⟨d0, d1, d2⟩ := (HL.out.below hz).cells
      go_simp
      all_goals first | with_reducible rfl | omega
    try simp only [Act.put, pu]
    refine tkY 4 ?_ rfl hS ?_ ?_
    rotate_left
    · intro wz hz
      obtain ⟨d0, d1, d2⟩ := (HL.out.below hz).cells
      go_simp
      all_goals first | with_reducible rfl | omega
    try simp only [Act.put, pu]
    refine tkY 5 ?_ rfl hS ?_ ?_
    rotate_left
    · intro wz hz
      obtain ⟨d0, d1, d2⟩ := (HL.out.below hz).cells
      go_simp
      all_goals first | with_reducible rfl | omega
    try simp only [Act.put, pu]
    refine tkY 6 ?_ rfl hS ?_ ?_
    rotate_left
    · intro wz hz
      obtain ⟨d0, d1, d2⟩ := (HL.out.below hz).cells
      go_simp
      all_goals first | with_reducible rfl | omega
    try simp only [Act.put, pu]
    refine tkY 7 ?_ rfl hS ?_ ?_
    rotate_left
    · intro wz hz
      obtain ⟨d0, d1, d2⟩ := (HL.out.below hz).cells
      go_simp
      all_goals first | with_reducible rfl | omega
    try simp only [Act.put, pu]
    refine tkY 8 ?_ rfl hS ?_ ?_
    rotate_left
    · intro wz hz
      obtain ⟨d0, d1, d2⟩ := (HL.out.below hz).cells
      go_simp
      all_goals first | with_reducible rfl | omega
    try simp only [Act.put, pu]
    refine tkY 9 ?_ rfl hS ?_ ?_
    rotate_left
    · intro wz hz
      obtain ⟨d0, d1, d2⟩ := (HL.out.below hz).cells
      go_simp
      all_goals first | with_reducible rfl | omega
    try simp only [Act.put, pu]
    refine tkY 10 ?_ rfl hS ?_ ?_
    rotate_left
    · intro wz hz
      obtain ⟨d0, d1, d2⟩ := (HL.out.below hz).cells
      go_simp
      all_goals first | with_reducible rfl | omega
    try simp only [Act.put, pu]
    refine tkY 11 ?_ rfl hS ?_ ?_
    rotate_left
    · intro wz hz
      obtain ⟨d0, d1, d2⟩ := (HL.out.below hz).cells
      go_simp
      all_goals first | with_reducible rfl | omega
    try simp only [Act.put, pu]
    refine tkY 12 ?_ rfl hS ?_ ?_
    rotate_left
    · intro wz hz
      obtain ⟨d0, d1, d2⟩ := (HL.out.below hz).cells
      go_simp
      all_goals first | with_reducible rfl | omega
    try simp only [Act.put, pu]
    refine tkY 13 ?_ rfl hS ?_ ?_
    rotate_left
    · intro wz hz
      obtain ⟨d0, d1, d2⟩ := (HL.out.below hz).cells
      go_simp
      all_goals first | with_reducible rfl | omega
    try simp only [Act.put, pu]
    refine tkY 14 ?_ rfl hS ?_ ?_
    rotate_left
    · intro wz hz
      obtain ⟨d0, d1, d2⟩ := (HL.out.below hz).cells
      go_simp
      all_goals first | with_reducible rfl | omega
    try simp only [Act.put, pu]
    refine tkY 15 ?_ rfl hS ?_ ?_
    rotate_left
    · intro wz hz
      obtain ⟨d0, d1, d2⟩ := (HL.out.below hz).cells
      go_simp
      all_goals first | with_reducible rfl | omega
    try simp only [Act.put, pu]
    refine tkY 16 ?_ rfl hS ?_ ?_
    rotate_left
    · intro wz hz
      obtain ⟨d0, d1, d2⟩ := (HL.out.below hz).cells
      go_simp
      all_goals first | with_reducible rfl | omega
    try simp only [Act.put, pu]
    refine tkY 17 ?_ rfl hS ?_ ?_
    rotate_left
    · intro wz hz
      obtain ⟨d0, d1, d2⟩ := (HL.out.below hz).cells
      go_simp
      all_goals first | with_reducible rfl | omega
    try simp only [Act.put, pu]
    refine tkY 18 ?_ rfl hS ?_ ?_
    rotate_left
    · intro wz hz
      obtain ⟨d0, d1, d2⟩ := (HL.out.below hz).cells
      go_simp
      all_goals first | with_reducible rfl | omega
    try simp only [Act.put, pu]
    refine wpAnyH_ready (rs := [19]) (by kernel_rfl) (by simp) (AllReadyH.cons rfl (fun K' hK' => ?_) AllReadyH.nil)
    go_simp
    go_at_call 58
    refine (made_any _ _ _ ⟨_, _, _, rfl⟩).mono ?_
    rintro e w2 ⟨rfl, hk, hb⟩
    have HE := Lib.hid (copy_end HL.out hS HU.out (by rw [HN.out]; exact HOF.out) hk hb)
    have HB2 := Lib.hid (hS.trans (hb.mono hS.size))
    clear hk hb
    refine hK'.out _ _ ?_ (fun hSn => ?_)
    · exact HB2.out
    clear hK' K' hS
    have hS := hSn
    clear hSn
    try simp only [Act.put, pu]
    refine tkY 20 ?_ rfl hS ?_ ?_
    rotate_left
    · intro wz hz
      go_simp
      all_goals first | with_reducible rfl | omega
    try simp only [Act.put, pu]
    refine wpAnyH_done (by kernel_rfl) ?_ _
    clear hS
    go_wp2
    go_ret
    exact HE.out
end
end Go.Proofs.Ytochjbmighijgaa.LN
