/- PoolNil's walk. Conditions: none. -/
import Derived.Test.YtochjbmighijgaaPoz
import Derived.Test.YtochjbmighijgaaPqb
namespace Go.Proofs.Ytochjbmighijgaa.PO
open Go.ChangeShapes Go.WideShapes Go.ChangeAt Go.RowKit Go.Maps Go.ChangeMaps
open Go.Proofs.Ytochjbmighijgaa.SL Go.Proofs.Ytochjbmighijgaa.RW
open Go.Proofs.Ytochjbmighijgaa.LN (tkY tkN pu OI IS RdP)
set_option maxRecDepth 100000
set_option linter.unusedVariables false
set_option linter.unusedSimpArgs false

set_option maxHeartbeats 16000000 in
theorem nil_any (k : ByteArray) (id : Int) (w : World) (hc : (Lit.int .i64 id).wf = true) : Calls Try.prog 5 #[.string k, nV id] w (RdP (.bool true) w) := by
  clear hc
  obtain ⟨W, hW⟩ : ∃ W, w.alloc (.cells #[.pointer none, nV 0, nV 0, nV 0, nV 0, nV 0, .nilFunc, .map none, .map none, .map none] 53) = W := ⟨_, rfl⟩
  obtain ⟨z, hz⟩ : ∃ b, w.heap.size = b := ⟨_, rfl⟩
  have hb : Below w.heap.size w W := by rw [← hW]; exact (Below.refl _ _).alloc (Nat.le_refl _) _
  have hk : Bk W z 53 #[.pointer none, nV 0, nV 0, nV 0, nV 0, nV 0, .nilFunc, .map none, .map none, .map none] := by rw [← hW, ← hz]; exact Bk.new _ _ _
  have HB := Lib.hid hb
  have HZ : Hid (Nb W (ptr z)) := Lib.hid (.inr ⟨z, rfl, hk.cell 0⟩)
  have HN := Lib.hid (show ∀ W : World, Nb W (.pointer none) from fun W => .inl rfl)
  clear hb hk
  obtain ⟨nx, hnx⟩ : ∃ x : Option Addr, Hid (none = x) := ⟨_, Lib.hid rfl⟩
  go_enter Try.func5, Try.ntmps5
  obtain ⟨x1, hx1⟩ : ∃ x : Int, Hid (0 = x) := ⟨_, Lib.hid rfl⟩
  obtain ⟨y1, hy1⟩ : ∃ x : Int, Hid (0 = x) := ⟨_, Lib.hid rfl⟩
  obtain ⟨z1, hz1⟩ : ∃ x : Bool, Hid (false = x) := ⟨_, Lib.hid rfl⟩
  have HC : Hid (Calls Try.prog 8 #[.pointer none, .string k, nV id, nV 0] W (RdP (.tuple #[loV x1 y1 z1, .bool false, nV 12]) W)) := Lib.hid (by
    have := hx1.out; subst this
    have := hy1.out; subst this
    have := hz1.out; subst this
    exact ask_nb (HN.out _) k id 0)
  go_wp2_with fail
  try rw [hW]
  try rw [hz]
  refine HC.out.mono ?_
  rintro e w1 ⟨rfl, hb⟩
  clear hW hz
  have HZ := Lib.hid (HZ.out.below hb)
  have HB := Lib.hid (HB.out.trans (hb.mono HB.out.size))
  clear hb HC
  obtain ⟨W1, hW1⟩ : ∃ W, w1.alloc (.cells #[nV x1, nV y1, .bool z1] 30) = W := ⟨_, rfl⟩
  obtain ⟨b1, hb1⟩ : ∃ b, w1.heap.size = b := ⟨_, rfl⟩
  have HBN : Hid (Below w1.heap.size w1 W1) := Lib.hid (by rw [← hW1]; exact (Below.refl _ _).alloc (Nat.le_refl _) _)
  have HKN : Hid (Bk W1 b1 30 #[nV x1, nV y1, .bool z1]) := Lib.hid (by rw [← hW1, ← hb1]; exact Bk.new _ _ _)
  have HZ := Lib.hid (HZ.out.below HBN.out)
  have HB := Lib.hid (HB.out.trans (HBN.out.mono HB.out.size))
  clear HBN HKN
  go_wp2_with fail
  try rw [hW1]
  try rw [hb1]
  try clear hW1 hb1
  obtain ⟨x2, hx2⟩ : ∃ x : Int, Hid (0 = x) := ⟨_, Lib.hid rfl⟩
  obtain ⟨y2, hy2⟩ : ∃ x : Int, Hid (0 = x) := ⟨_, Lib.hid rfl⟩
  obtain ⟨z2, hz2⟩ : ∃ x : Bool, Hid (false = x) := ⟨_, Lib.hid rfl⟩
  have HC : Hid (Calls Try.prog 8 #[ptr z, .string k, nV id, nV 0] W1 (RdP (.tuple #[loV x2 y2 z2, .bool false, nV 12]) W1)) := Lib.hid (by
    have := hx2.out; subst this
    have := hy2.out; subst this
    have := hz2.out; subst this
    exact ask_nb HZ.out k id 0)
  go_wp2_with fail
  refine HC.out.mono ?_
  rintro e w2 ⟨rfl, hb⟩
  have HZ := Lib.hid (HZ.out.below hb)
  have HB := Lib.hid (HB.out.trans (hb.mono HB.out.size))
  clear hb HC
  obtain ⟨W2, hW2⟩ : ∃ W, w2.alloc (.cells #[nV x2, nV y2, .bool z2] 30) = W := ⟨_, rfl⟩
  obtain ⟨b2, hb2⟩ : ∃ b, w2.heap.size = b := ⟨_, rfl⟩
  have HBN : Hid (Below w2.heap.size w2 W2) := Lib.hid (by rw [← hW2]; exact (Below.refl _ _).alloc (Nat.le_refl _) _)
  have HKN : Hid (Bk W2 b2 30 #[nV x2, nV y2, .bool z2]) := Lib.hid (by rw [← hW2, ← hb2]; exact Bk.new _ _ _)
  have HZ := Lib.hid (HZ.out.below HBN.out)
  have HB := Lib.hid (HB.out.trans (HBN.out.mono HB.out.size))
  clear HBN HKN
  go_wp2_with fail
  try rw [hW2]
  try rw [hb2]
  try clear hW2 hb2
  obtain ⟨x3, hx3⟩ : ∃ x : Int, Hid (0 = x) := ⟨_, Lib.hid rfl⟩
  obtain ⟨y3, hy3⟩ : ∃ x : Int, Hid (0 = x) := ⟨_, Lib.hid rfl⟩
  obtain ⟨z3, hz3⟩ : ∃ x : Bool, Hid (false = x) := ⟨_, Lib.hid rfl⟩
  have HC : Hid (Calls Try.prog 9 #[.pointer none, nV id, nV 0] W2 (RdP (.tuple #[loV x3 y3 z3, .bool false]) W2)) := Lib.hid (by
    have := hx3.out; subst this
    have := hy3.out; subst this
    have := hz3.out; subst this
    exact give_nb (HN.out _) id 0)
  go_wp2_with fail
  refine HC.out.mono ?_
  rintro e w3 ⟨rfl, hb⟩
  have HZ := Lib.hid (HZ.out.below hb)
  have HB := Lib.hid (HB.out.trans (hb.mono HB.out.size))
  clear hb HC
  obtain ⟨W3, hW3⟩ : ∃ W, w3.alloc (.cells #[nV x3, nV y3, .bool z3] 30) = W := ⟨_, rfl⟩
  obtain ⟨b3, hb3⟩ : ∃ b, w3.heap.size = b := ⟨_, rfl⟩
  have HBN : Hid (Below w3.heap.size w3 W3) := Lib.hid (by rw [← hW3]; exact (Below.refl _ _).alloc (Nat.le_refl _) _)
  have HKN : Hid (Bk W3 b3 30 #[nV x3, nV y3, .bool z3]) := Lib.hid (by rw [← hW3, ← hb3]; exact Bk.new _ _ _)
  have HZ := Lib.hid (HZ.out.below HBN.out)
  have HB := Lib.hid (HB.out.trans (HBN.out.mono HB.out.size))
  clear HBN HKN
  go_wp2_with fail
  try rw [hW3]
  try rw [hb3]
  try clear hW3 hb3
  have HC : Hid (Calls Try.prog 16 #[ptr z, nV id] W3 (RdP (.tuple #[nV 0, .bool false]) W3)) := Lib.hid (by
    exact holds_nb HZ.out id)
  go_wp2_with fail
  refine HC.out.mono ?_
  rintro e w4 ⟨rfl, hb⟩
  have HZ := Lib.hid (HZ.out.below hb)
  have HB := Lib.hid (HB.out.trans (hb.mono HB.out.size))
  clear hb HC
  obtain ⟨x5, hx5⟩ : ∃ x : Int, Hid (0 = x) := ⟨_, Lib.hid rfl⟩
  obtain ⟨y5, hy5⟩ : ∃ x : Int, Hid (0 = x) := ⟨_, Lib.hid rfl⟩
  obtain ⟨z5, hz5⟩ : ∃ x : Bool, Hid (false = x) := ⟨_, Lib.hid rfl⟩
  have HC : Hid (Calls Try.prog 11 #[.pointer none, nV id, nV 0] w4 (RdP (.tuple #[nV 0, loV x5 y5 z5, .bool false]) w4)) := Lib.hid (by
    have := hx5.out; subst this
    have := hy5.out; subst this
    have := hz5.out; subst this
    exact lost_nb (HN.out _) id 0)
  go_wp2_with fail
  refine HC.out.mono ?_
  rintro e w5 ⟨rfl, hb⟩
  have HZ := Lib.hid (HZ.out.below hb)
  have HB := Lib.hid (HB.out.trans (hb.mono HB.out.size))
  clear hb HC
  obtain ⟨W5, hW5⟩ : ∃ W, w5.alloc (.cells #[nV x5, nV y5, .bool z5] 30) = W := ⟨_, rfl⟩
  obtain ⟨b5, hb5⟩ : ∃ b, w5.heap.size = b := ⟨_, rfl⟩
  have HBN : Hid (Below w5.heap.size w5 W5) := Lib.hid (by rw [← hW5]; exact (Below.refl _ _).alloc (Nat.le_refl _) _)
  have HKN : Hid (Bk W5 b5 30 #[nV x5, nV y5, .bool z5]) := Lib.hid (by rw [← hW5, ← hb5]; exact Bk.new _ _ _)
  have HZ := Lib.hid (HZ.out.below HBN.out)
  have HB := Lib.hid (HB.out.trans (HBN.out.mono HB.out.size))
  have HK5 := Lib.hid HKN.out
  clear HBN HKN
  go_wp2_with fail
  try rw [hW5]
  try rw [hb5]
  try clear hW5 hb5
  obtain ⟨x6, hx6⟩ : ∃ x : Int, Hid (0 = x) := ⟨_, Lib.hid rfl⟩
  obtain ⟨y6, hy6⟩ : ∃ x : Int, Hid (0 = x) := ⟨_, Lib.hid rfl⟩
  obtain ⟨z6, hz6⟩ : ∃ x : Bool, Hid (false = x) := ⟨_, Lib.hid rfl⟩
  have HC : Hid (Calls Try.prog 12 #[ptr z, nV id, nV 0] W5 (RdP (.tuple #[nV 0, loV x6 y6 z6, .bool false]) W5)) := Lib.hid (by
    have := hx6.out; subst this
    have := hy6.out; subst this
    have := hz6.out; subst this
    exact leave_nb HZ.out id 0)
  go_wp2_with fail
  refine HC.out.mono ?_
  rintro e w6 ⟨rfl, hb⟩
  have HZ := Lib.hid (HZ.out.below hb)
  have HK5 := Lib.hid (Kt.bk (Kt.below hb) HK5.out)
  have HB := Lib.hid (HB.out.trans (hb.mono HB.out.size))
  clear hb HC
  obtain ⟨W6, hW6⟩ : ∃ W, w6.alloc (.cells #[nV x6, nV y6, .bool z6] 30) = W := ⟨_, rfl⟩
  obtain ⟨b6, hb6⟩ : ∃ b, w6.heap.size = b := ⟨_, rfl⟩
  have HBN : Hid (Below w6.heap.size w6 W6) := Lib.hid (by rw [← hW6]; exact (Below.refl _ _).alloc (Nat.le_refl _) _)
  have HKN : Hid (Bk W6 b6 30 #[nV x6, nV y6, .bool z6]) := Lib.hid (by rw [← hW6, ← hb6]; exact Bk.new _ _ _)
  have HZ := Lib.hid (HZ.out.below HBN.out)
  have HK5 := Lib.hid (Kt.bk (Kt.below HBN.out) HK5.out)
  have HB := Lib.hid (HB.out.trans (HBN.out.mono HB.out.size))
  clear HBN HKN
  go_wp2_with fail
  try rw [hW6]
  try rw [hb6]
  try clear hW6 hb6
  have := hx5.out; subst this
  have := hy5.out; subst this
  have := hz5.out; subst this
  have HC : Hid (Calls Try.prog 15 #[.pointer none, .string k] W6 (RdP (.tuple #[nV 0, nV 0, nV 0]) W6)) := Lib.hid (count_nb (HN.out _) k)
  go_wp2_with fail
  refine HC.out.mono ?_
  rintro e v1 ⟨rfl, hb⟩
  have HZ := Lib.hid (HZ.out.below hb)
  have HK5 := Lib.hid (Kt.bk (Kt.below hb) HK5.out)
  have HB := Lib.hid (HB.out.trans (hb.mono HB.out.size))
  clear hb HC
  have k0 := HK5.out
  have s50 := k0.cell 0
  have t50 := k0.frozen 0
  have s51 := k0.cell 1
  have t51 := k0.frozen 1
  have s52 := k0.cell 2
  have t52 := k0.frozen 2
  simp at s50 s51 s52
  clear k0
  have he := fun w => eql_loan 0 0 false 0 0 false w
  have HC : Hid (Calls Try.prog 10 #[.pointer none, nV id] v1 (RdP (.bool false) v1)) := Lib.hid (pin_nb (HN.out _) id)
  go_wp2_with fail
  refine HC.out.mono ?_
  rintro e v2 ⟨rfl, hb⟩
  have HZ := Lib.hid (HZ.out.below hb)
  have HB := Lib.hid (HB.out.trans (hb.mono HB.out.size))
  clear hb HC
  have HC : Hid (Calls Try.prog 13 #[.pointer none, nV 9] v2 (RdP (.slice none 0 0) v2)) := Lib.hid (late_nb (HN.out _) 9)
  go_wp2_with fail
  refine HC.out.mono ?_
  rintro e v3 ⟨rfl, hb⟩
  have HZ := Lib.hid (HZ.out.below hb)
  have HB := Lib.hid (HB.out.trans (hb.mono HB.out.size))
  clear hb HC
  have HC : Hid (Calls Try.prog 14 #[ptr z, nV 9] v3 (RdP (.slice none 0 0) v3)) := Lib.hid (reap_nb HZ.out 9)
  go_wp2_with fail
  refine HC.out.mono ?_
  rintro e v4 ⟨rfl, hb⟩
  have HZ := Lib.hid (HZ.out.below hb)
  have HB := Lib.hid (HB.out.trans (hb.mono HB.out.size))
  clear hb HC
  have HC : Hid (Calls Try.prog 18 #[.pointer none] v4 (RdP (.pointer none) v4)) := Lib.hid (copy_nb (HN.out _))
  go_wp2_with fail
  refine HC.out.mono ?_
  rintro e v5 ⟨rfl, hb⟩
  have HZ := Lib.hid (HZ.out.below hb)
  have HB := Lib.hid (HB.out.trans (hb.mono HB.out.size))
  clear hb HC
  have HC : Hid (Calls Try.prog 18 #[ptr z] v5 (RdP (.pointer none) v5)) := Lib.hid (copy_nb HZ.out)
  go_wp2_with fail
  refine HC.out.mono ?_
  rintro e v6 ⟨rfl, hb⟩
  have HZ := Lib.hid (HZ.out.below hb)
  have HB := Lib.hid (HB.out.trans (hb.mono HB.out.size))
  clear hb HC
  go_wp2_with fail
  refine (known_any _).mono ?_
  rintro e wz ⟨rfl, hb⟩
  have HB := Lib.hid (HB.out.trans (hb.mono HB.out.size))
  clear hb
  go_wp2
  go_ret
  exact ⟨rfl, HB.out⟩
theorem nil_law (k : ByteArray) (id : Int) (w : World) (hs : k.size ≤ 140737488351232) (hc : (Lit.int .i64 id).wf = true) :
    Calls Try.prog 5 #[.string k, nV id] w (RdP (.bool true) w) := nil_any k id w hc
end Go.Proofs.Ytochjbmighijgaa.PO
