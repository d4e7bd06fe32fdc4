/- The law's own helper 'known' of layer 2 returns true: fixed calls of package frame answer as they must; below the memory that was there nothing turns. -/
import Derived.Test.YthajnfmbgmmncaaFrg
import Derived.Test.YthajnfmbgmmncaaFrs
import Derived.Test.YthajnfmbgmmncaaFrr
namespace Go.Proofs.Ythajnfmbgmmncaa
open Go.ChangeShapes Go.WideShapes Go.ChangeAt Go.RowKit
set_option linter.unusedVariables false

theorem rfeed_any (g : Nat) (s : ByteArray) (w : World) (l : List UInt8) (f : Bool) (x : Int) (h : RRd w g l f x) (hl : l.length + s.size ≤ 1099511627776) :
    Calls Try.prog 12 #[.pointer (some ⟨g, 0, none⟩), .string s] w (RFeedPost g (fed l f x s.data.toList) w) := by
  by_cases hx : x = 0
  · subst hx
    have e : fed l f 0 s.data.toList = feedL (l ++ s.data.toList) f := by unfold fed; rw [if_pos rfl]
    rw [e]
    exact rfeed_ok g s w l f h hl
  · exact rfeed_bad g s w l f x h hx

section
variable {w w' : World} {B g : Nat} {v : Value} {ms : List Msg} {t : TypeId} {cs : Array Value} {l : List UInt8} {f : Bool} {x : Int}
theorem Msgs.grown (h : Msgs w B v ms) (hb : Blk w g t cs) (ht : t ≠ 39) (hg : w.grownBy w' (some g)) : Msgs w' B v ms := by
  refine World.ownsRow.kept h hg (.inr ?_)
  rcases h.2 with ⟨rfl, _⟩ | ⟨g', cap, cur, rfl, _, hh, _⟩
  · simp [Value.ownBlock]
  · intro he
    have : g' = g := by simpa [Value.ownBlock] using he
    subst this
    unfold Blk at hb
    rw [hh] at hb
    injection hb with hb
    injection hb with _ ht'
    exact ht ht'.symm
theorem Msgs.below (h : Msgs w B v ms) (hb : Below w.heap.size w w') : Msgs w' B v ms :=
  World.ownsRow.kept h (row := none) ⟨hb.os, hb.tape, hb.output, hb.size, fun k hk _ => hb.block k hk⟩ (by cases hv : v.ownBlock <;> simp)
theorem Rd.below (h : Rd w g l f x) (hb : Below w.heap.size w w') : Rd w' g l f x := by
  obtain ⟨v, h1, h2⟩ := h
  exact ⟨v, h1.below hb h1.lt, h2.stay (Stay.below hb (Nat.le_refl _))⟩
theorem Rd.other {g2 : Nat} (h : Rd w g l f x) (hb : Blk w g2 t cs) (ht : t ≠ 5) (hne : g ≠ g2) (hg : w.grownBy w' (some g2)) : Rd w' g l f x := by
  obtain ⟨v, h1, h2⟩ := h
  exact ⟨v, h1.grown hg (by simpa using hne), h2.stay (Stay.grown hg (fun k e => by injection e with e; subst e; exact ⟨_, _, _, hb, ht⟩))⟩
theorem Rd.blk (h : Rd w g l f x) : ∃ cs, Blk w g 47 cs := by
  obtain ⟨v, h1, h2⟩ := h
  exact ⟨_, h1⟩
end
theorem mr_lit (w : World) (k : UInt8) (b : ByteArray) : MR (w.alloc (.cells #[.int .u8 (k.toNat : Int), .string b] 39)) (.slice (some ⟨w.heap.size, 0, none⟩) 1 1) [(k, b.data.toList)] := by
  have h := Blk.new w 39 #[.int .u8 (k.toNat : Int), .string b]
  refine .inr ⟨w.heap.size, 0, 1, rfl, by simp, fun i m hi => ?_⟩
  cases i with
  | zero =>
    simp at hi; subst hi
    exact ⟨h.cell 0, by rw [ba_of]; exact h.cell 1⟩
  | succ i => simp at hi

/-- what Feed does, said part by part -/
def FeedOut (g : Nat) (ms : List Msg) (l : List UInt8) (f : Bool) (x : Int) (w : World) (e : Ending) (w' : World) : Prop :=
  ∃ v, e = .returned (.tuple #[v, .int .i64 x]) ∧ Msgs w' w.heap.size v ms ∧ Rd w' g l f x ∧ w.grownBy w' (some g)
theorem feed_out (g : Nat) (s : ByteArray) (w : World) (l : List UInt8) (f : Bool) (x : Int) (ms : List Msg) (l2 : List UInt8) (f2 : Bool) (x2 : Int) (h : Rd w g l f x) (hl : l.length + s.size ≤ 1099511627776) (e : fed l f x s.data.toList = (ms, l2, f2, x2)) :
    Calls Try.prog 11 #[.pointer (some ⟨g, 0, none⟩), .string s] w (FeedOut g ms l2 f2 x2 w) := by
  have := feed_any g s w l f x h hl
  rw [e] at this
  exact this

theorem e1 : fed [] true 0 (⟨#[0, 0, 0, 5, 120, 81, 0, 0]⟩ : ByteArray).data.toList = ([(0, [120])], [81, 0, 0], false, 0) := by
  have h1 : aheadL [0, 0, 0, 5, 120, 81, 0, 0] true = ((0, [120]), 5, 0) := by decide +kernel
  have h2 : aheadL [81, 0, 0] false = ((0, []), 0, 0) := by decide +kernel
  have e2 : feedL [81, 0, 0] false = ([], [81, 0, 0], false, 0) := by rw [feedL_stop (by rw [h2]), h2]
  show feedL [0, 0, 0, 5, 120, 81, 0, 0] true = _
  rw [feedL_step (by rw [h1]; decide), h1]
  show ((0, [120]) :: (feedL [81, 0, 0] false).1, (feedL [81, 0, 0] false).2) = _
  rw [e2]
theorem e2 : fed [81, 0, 0] false 0 (⟨#[0, 6, 104, 0, 90]⟩ : ByteArray).data.toList = ([(81, [104, 0])], [90], false, 0) := by
  have h1 : aheadL [81, 0, 0, 0, 6, 104, 0, 90] false = ((81, [104, 0]), 7, 0) := by decide +kernel
  have h2 : aheadL [90] false = ((0, []), 0, 0) := by decide +kernel
  have e2 : feedL [90] false = ([], [90], false, 0) := by rw [feedL_stop (by rw [h2]), h2]
  show feedL [81, 0, 0, 0, 6, 104, 0, 90] false = _
  rw [feedL_step (by rw [h1]; decide), h1]
  show ((81, [104, 0]) :: (feedL [90] false).1, (feedL [90] false).2) = _
  rw [e2]
theorem e3 : fed [90] false 0 (⟨#[0, 0, 0, 3]⟩ : ByteArray).data.toList = ([], [90, 0, 0, 0, 3], false, 4) := by
  have h2 : aheadL [90, 0, 0, 0, 3] false = ((0, []), 0, 4) := by decide +kernel
  show feedL [90, 0, 0, 0, 3] false = _
  rw [feedL_stop (by rw [h2]), h2]
theorem e4 : fed [90, 0, 0, 0, 3] false 4 (⟨#[120]⟩ : ByteArray).data.toList = ([], [90, 0, 0, 0, 3], false, 4) := rfl

theorem below_gb {B : Nat} {w w1 w2 : World} {g : Nat} (h : Below B w w1) (hg : w1.grownBy w2 (some g)) (hB : B ≤ w1.heap.size) (hgB : B ≤ g) : Below B w w2 :=
  h.grown hg hB (fun k e => by injection e with e; omega)

theorem same_bel (v1 v2 : Value) (ms : List Msg) (w : World) (h1 : MR w v1 ms) (h2 : MR w v2 ms) (hl : ms.length ≤ 1099511627776) :
    Calls Try.prog 13 #[v1, v2] w fun e w' => e = .returned (.bool true) ∧ Below w.heap.size w w' :=
  (same_eq v1 v2 ms w h1 h2 hl).mono fun e w' ⟨h, n, hn⟩ => ⟨h, by rw [hn]; exact below_drewN (Below.refl _ _) n⟩

set_option maxHeartbeats 1000000 in
set_option maxRecDepth 100000 in
theorem known_any (w : World) : Calls Try.prog 8 #[] w fun e w' => e = .returned (.bool true) ∧ Below w.heap.size w w' := by
  have dP := fun w => put_any 81 ⟨#[104, 0]⟩ w (by decide)
  rw [show ba (putL (81, (⟨#[104, 0]⟩ : ByteArray).data.toList)) = ⟨#[81, 0, 0, 0, 6, 104, 0]⟩ by decide +kernel] at dP
  have dR := fun w => right_any 0 ⟨#[]⟩ w (by decide)
  rw [show rightL (0, (⟨#[]⟩ : ByteArray).data.toList) = true by decide +kernel] at dR
  have dN := fun w => right_any 1 ⟨#[]⟩ w (by decide)
  rw [show rightL (1, (⟨#[]⟩ : ByteArray).data.toList) = false by decide +kernel] at dN
  unfold u8 at dP dR dN
  rw [show (((81 : UInt8).toNat : Nat) : Int) = 81 from rfl] at dP
  rw [show (((0 : UInt8).toNat : Nat) : Int) = 0 from rfl] at dR
  rw [show (((1 : UInt8).toNat : Nat) : Int) = 1 from rfl] at dN
  go_enter Try.func8, Try.ntmps8
  go_wp2_with fail
  refine (new_any _ _).mono ?_; rintro e w1 ⟨g, rfl, hg, hR, hB⟩
  go_wp2_with fail
  refine (feed_out g _ _ _ _ _ _ _ _ _ hR (by decide) e1).mono ?_; rintro e w2 ⟨v1, rfl, hM1, hR2, hg2⟩
  obtain ⟨cs1, hb1⟩ := hR.blk
  replace hB := below_gb hB hg2 hB.size hg
  clear hR
  go_wp2_with fail
  refine (feed_out g _ _ _ _ _ _ _ _ _ hR2 (by decide) e2).mono ?_; rintro e w3 ⟨v2, rfl, hM2, hR3, hg3⟩
  obtain ⟨cs2, hb2⟩ := hR2.blk
  replace hM1 := hM1.grown hb2 (by decide) hg3
  replace hB := below_gb hB hg3 hB.size hg
  clear hR2 hb2 cs2
  go_wp2_with fail
  refine (feed_out g _ _ _ _ _ _ _ _ _ hR3 (by decide) e3).mono ?_; rintro e w4 ⟨v3, rfl, hM3, hR4, hg4⟩
  obtain ⟨cs2, hb2⟩ := hR3.blk
  replace hM1 := hM1.grown hb2 (by decide) hg4
  replace hM2 := hM2.grown hb2 (by decide) hg4
  replace hB := below_gb hB hg4 hB.size hg
  clear hR3 hb2 cs2
  go_wp2_with fail
  refine (feed_out g _ _ _ _ _ _ _ _ _ hR4 (by decide) e4).mono ?_; rintro e w5 ⟨v4, rfl, hM4, hR5, hg5⟩
  obtain ⟨cs2, hb2⟩ := hR4.blk
  replace hM1 := hM1.grown hb2 (by decide) hg5
  replace hM2 := hM2.grown hb2 (by decide) hg5
  replace hM3 := hM3.grown hb2 (by decide) hg5
  replace hB := below_gb hB hg5 hB.size hg
  clear hR4 hb2 cs2 hM4
  have L1 : ∀ w : World, MR (w.alloc (.cells #[.int .u8 0, .string ⟨#[120]⟩] 39)) (.slice (some ⟨w.heap.size, 0, none⟩) 1 1) [(0, [120])] := fun w => mr_lit w 0 ⟨#[120]⟩
  have L2 : ∀ w : World, MR (w.alloc (.cells #[.int .u8 81, .string ⟨#[104, 0]⟩] 39)) (.slice (some ⟨w.heap.size, 0, none⟩) 1 1) [(81, [104, 0])] := fun w => mr_lit w 81 ⟨#[104, 0]⟩
  obtain ⟨a3, c3, rfl⟩ := msgs_form hM3
  go_wp2_with fail
  refine (same_bel _ _ [(0, [120])] _ (MR.own (hM1.below ((Below.refl _ _).alloc (Nat.le_refl _) _))) (L1 _) (by decide)).mono ?_; rintro e w6 ⟨rfl, hb6⟩
  replace hB := hB.trans ((bel hb6).mono hB.size)
  have hR6 := hR5.below (bel hb6)
  have hM6 := hM2.below (bel hb6)
  clear hb6 hM1 hM2 hM3 hR5 hg5
  go_wp2_with fail
  refine (same_bel _ _ [(81, [104, 0])] _ (MR.own (hM6.below ((Below.refl _ _).alloc (Nat.le_refl _) _))) (L2 _) (by decide)).mono ?_; rintro e w7 ⟨rfl, hb7⟩
  replace hB := hB.trans ((bel hb7).mono hB.size)
  have hR7 := hR6.below (bel hb7)
  clear hb7 hM6 hR6
  go_wp2_with fail
  refine (bad_yes _ _ _ _ _ hR7).mono ?_; rintro e w8 ⟨rfl, rfl⟩
  go_wp2_with fail
  refine (rest_yes _ _ _ _ _ hR7).mono ?_; rintro e w9 ⟨rfl, rfl⟩
  rw [show ba [90, 0, 0, 0, 3] = ⟨#[90, 0, 0, 0, 3]⟩ from rfl]
  go_wp2_with (first
    | (go_at_call 18; refine (dP _).mono ?_; rintro e wa ⟨rfl, hba⟩; replace hB := hB.trans (hba.mono hB.size); clear hba)
    | (go_at_call 16; (first | (with_reducible refine (dR _).mono ?_) | (with_reducible refine (dN _).mono ?_)); rintro e wb ⟨rfl, hbb⟩; replace hB := hB.trans (hbb.mono hB.size); clear hbb))
  go_ret
  exact ⟨rfl, hB⟩
end Go.Proofs.Ythajnfmbgmmncaa
