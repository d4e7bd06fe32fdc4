/- Package pool in a law: the known calls of layer 17. Conditions: none. -/
import Derived.Test.YtochjbmighijgaaPqa
namespace Go.Proofs.Ytochjbmighijgaa.PO
open Go.ChangeShapes Go.WideShapes Go.ChangeAt Go.RowKit Go.Maps Go.ChangeMaps
open Go.Proofs.Ytochjbmighijgaa.SL Go.Proofs.Ytochjbmighijgaa.RW
open Go.Proofs.Ytochjbmighijgaa.LN (tkY tkN pu OI IS RdP)
set_option maxRecDepth 100000
set_option linter.unusedVariables false
set_option linter.unusedSimpArgs false

open Go.Proofs.Ytochjbmighijgaa.LN (isLate goneS stayS ints_any)
theorem is_one (w : World) (k : Int) : IS (w.alloc (.cells #[nV k] 3)) (.slice (some ⟨w.heap.size, 0, none⟩) 1 1) [k] :=
  .inr ⟨w.heap.size, 0, 1, #[nV k], (0, 0), rfl, Nat.le_refl _, heap_alloc_new w _, fun i x hi => by
    cases i with
    | zero => simp at hi; subst hi; rfl
    | succ i => simp at hi⟩
theorem wf8 (x : Int) (h : (Lit.int .u8 x).wf = true) : 0 ≤ x ∧ x ≤ 255 := by
  simp [Lit.wf, IntKind.min, IntKind.max, IntKind.signed, IntKind.bits] at h
  omega
theorem wf16 (x : Int) (h : (Lit.int .u16 x).wf = true) : 0 ≤ x ∧ x ≤ 65535 := by
  simp [Lit.wf, IntKind.min, IntKind.max, IntKind.signed, IntKind.bits] at h
  omega
theorem wf64 (x : Int) (h : (Lit.int .i64 x).wf = true) : -9223372036854775808 ≤ x ∧ x ≤ 9223372036854775807 := by
  simp [Lit.wf, IntKind.min, IntKind.max, IntKind.signed, IntKind.bits] at h
  omega
def eqL (x y : Int) (z : Bool) (x1 y1 : Int) (z1 : Bool) : Bool := (x == x1) && (y == y1) && (z == z1)
theorem eql_loan (x y : Int) (z : Bool) (x1 y1 : Int) (z1 : Bool) (w : World) : (binOp .eql 30 (loV x y z) (loV x1 y1 z1)).run Try.prog w = .ok (.bool (eqL x y z x1 y1 z1)) w := by
  unfold eqL
  cases h1 : (x == x1) <;> cases h2 : (y == y1) <;> cases h3 : (z == z1) <;> go_simp
theorem SgP.cast {B : Nat} {w : World} {a N : Nat} {C : Cf} {k : ByteArray} {g : Nat} {q q1 : Row} {L : Nat} {sm : Int → Option (Nat × Int × Bool)} {r : Value} {f : FuncId} {vs : Array Value} (h : Calls Try.prog f vs w (SgP B w a N C k g q L sm r)) (hq : q = q1) : Calls Try.prog f vs w (SgP B w a N C k g q1 L sm r) := hq ▸ h
set_option maxHeartbeats 16000000 in
theorem known_any (w : World) : Calls Try.prog 17 #[] w (RdP (.bool true) w) := by
  go_enter Try.func17, Try.ntmps17
  go_wp2_with fail
  refine (new_yes w 1 9 5 5 (by omega) (by omega) (by omega)).mono ?_
  rintro e w1 ⟨a, rfl, C, hl, c1, c2, c3, c4, hb⟩
  have HL := Lib.hid (Sn.start hl)
  have HB := Lib.hid hb
  have HC1 := Lib.hid c1
  have HC2 := Lib.hid c2
  have HC3 := Lib.hid c3
  have HC4 := Lib.hid c4
  clear hl hb c1 c2 c3 c4
  go_wp2_with fail
  refine (new_zero w1 9 5 5).mono ?_
  rintro e w2 ⟨rfl, hb⟩
  have HL := Lib.hid (HL.out.below hb)
  have HB := Lib.hid (HB.out.trans (hb.mono HB.out.size))
  clear hb
  obtain ⟨x1, hx1⟩ : ∃ x : Int, Hid (1 = x) := ⟨_, Lib.hid rfl⟩
  obtain ⟨y1, hy1⟩ : ∃ x : Int, Hid (1 = x) := ⟨_, Lib.hid rfl⟩
  obtain ⟨z1, hz1⟩ : ∃ x : Bool, Hid (true = x) := ⟨_, Lib.hid rfl⟩
  have HC : Hid (Calls Try.prog 8 #[ptr a, .string ⟨#[103]⟩, nV 1, nV 0] w2 (fun e w9 => ∃ g, SgP w.heap.size w2 a 3 C ⟨#[103]⟩ g ⟨⟨#[103]⟩, 1, [], []⟩ 1 (upd R0.sm 1 (some (g, 1, false))) (.tuple #[loV x1 y1 z1, .bool true, nV 0]) e w9)) := Lib.hid (by
    have := hx1.out; subst this
    have := hy1.out; subst this
    have := hz1.out; subst this
    exact sg_open HL.out (by omega) (by omega) ⟨#[103]⟩ (by decide) 1 0 (by omega) ⟨by omega, by omega⟩ (by omega) rfl)
  go_wp2_with fail
  refine HC.out.mono ?_
  rintro e w3 ⟨g, R1, rfl, hg, hsm, hf⟩
  have HL := Lib.hid hg
  have HS := Lib.hid hsm
  have HB := Lib.hid (HB.out.trans hf.bel)
  clear hg hsm hf HC
  obtain ⟨W3, hW3⟩ : ∃ W, w3.alloc (.cells #[nV x1, nV y1, .bool z1] 30) = W := ⟨_, rfl⟩
  obtain ⟨b1, hb1⟩ : ∃ b, w3.heap.size = b := ⟨_, rfl⟩
  have HBN : Hid (Below w3.heap.size w3 W3) := Lib.hid (by rw [← hW3]; exact (Below.refl _ _).alloc (Nat.le_refl _) _)
  have HKN : Hid (Bk W3 b1 30 #[nV x1, nV y1, .bool z1]) := Lib.hid (by rw [← hW3, ← hb1]; exact Bk.new _ _ _)
  have HL := Lib.hid (HL.out.below HBN.out)
  have HB := Lib.hid (HB.out.trans (HBN.out.mono HB.out.size))
  have HK1 := Lib.hid HKN.out
  clear HBN HKN
  go_wp2_with fail
  try rw [hW3]
  try rw [hb1]
  try clear hW3 hb1
  obtain ⟨x2, hx2⟩ : ∃ x : Int, Hid (0 = x) := ⟨_, Lib.hid rfl⟩
  obtain ⟨y2, hy2⟩ : ∃ x : Int, Hid (0 = x) := ⟨_, Lib.hid rfl⟩
  obtain ⟨z2, hz2⟩ : ∃ x : Bool, Hid (false = x) := ⟨_, Lib.hid rfl⟩
  have HC : Hid (Calls Try.prog 8 #[ptr a, .string ⟨#[103]⟩, nV 2, nV 0] W3 (SgP w.heap.size W3 a 6 C ⟨#[103]⟩ g ⟨⟨#[103]⟩, 1, [], [(2, 5)]⟩ 1 (upd R1.sm 2 (some (g, 0, false))) (.tuple #[loV x2 y2 z2, .bool false, nV 0]))) := Lib.hid (by
    have := hx2.out; subst this
    have := hy2.out; subst this
    have := hz2.out; subst this
    exact SgP.cast (sg_wait HL.out (by omega) (by omega) (by decide) 2 0 (by omega) ⟨by omega, by omega⟩ (by omega) (by rw [HS.out]; rfl) rfl (by rw [HC1.out]; exact Nat.le_refl _) (by rw [HC2.out]; decide)) (by rw [HC3.out]; rfl))
  go_wp2_with fail
  refine HC.out.mono ?_
  rintro e w4 ⟨R2, rfl, hg, hsm, hf⟩
  rw [HS.out] at hsm
  have HL := Lib.hid hg
  have HS := Lib.hid hsm
  have HK1 := Lib.hid (Kt.bk hf.kt HK1.out)
  have HB := Lib.hid (HB.out.trans hf.bel)
  clear hg hsm hf HC
  obtain ⟨W4, hW4⟩ : ∃ W, w4.alloc (.cells #[nV x2, nV y2, .bool z2] 30) = W := ⟨_, rfl⟩
  obtain ⟨b2, hb2⟩ : ∃ b, w4.heap.size = b := ⟨_, rfl⟩
  have HBN : Hid (Below w4.heap.size w4 W4) := Lib.hid (by rw [← hW4]; exact (Below.refl _ _).alloc (Nat.le_refl _) _)
  have HKN : Hid (Bk W4 b2 30 #[nV x2, nV y2, .bool z2]) := Lib.hid (by rw [← hW4, ← hb2]; exact Bk.new _ _ _)
  have HL := Lib.hid (HL.out.below HBN.out)
  have HK1 := Lib.hid (Kt.bk (Kt.below HBN.out) HK1.out)
  have HB := Lib.hid (HB.out.trans (HBN.out.mono HB.out.size))
  clear HBN HKN
  go_wp2_with fail
  try rw [hW4]
  try rw [hb2]
  try clear hW4 hb2
  obtain ⟨x3, hx3⟩ : ∃ x : Int, Hid (0 = x) := ⟨_, Lib.hid rfl⟩
  obtain ⟨y3, hy3⟩ : ∃ x : Int, Hid (0 = x) := ⟨_, Lib.hid rfl⟩
  obtain ⟨z3, hz3⟩ : ∃ x : Bool, Hid (false = x) := ⟨_, Lib.hid rfl⟩
  have HC : Hid (Calls Try.prog 8 #[ptr a, .string ⟨#[103]⟩, nV 2, nV 0] W4 (RdP (.tuple #[loV x3 y3 z3, .bool false, nV 10]) W4)) := Lib.hid (by
    have := hx3.out; subst this
    have := hy3.out; subst this
    have := hz3.out; subst this
    exact ask_state HL.out.pl ⟨#[103]⟩ 2 0 ⟨by omega, by omega⟩ (by omega) (by omega) (s := (g, 0, false)) (by rw [HS.out]; rfl))
  go_wp2_with fail
  refine HC.out.mono ?_
  rintro e w5 ⟨rfl, hb⟩
  have HL := Lib.hid (HL.out.below hb)
  have HK1 := Lib.hid (Kt.bk (Kt.below hb) HK1.out)
  have HB := Lib.hid (HB.out.trans (hb.mono HB.out.size))
  clear hb HC
  obtain ⟨W5, hW5⟩ : ∃ W, w5.alloc (.cells #[nV x3, nV y3, .bool z3] 30) = W := ⟨_, rfl⟩
  obtain ⟨b3, hb3⟩ : ∃ b, w5.heap.size = b := ⟨_, rfl⟩
  have HBN : Hid (Below w5.heap.size w5 W5) := Lib.hid (by rw [← hW5]; exact (Below.refl _ _).alloc (Nat.le_refl _) _)
  have HKN : Hid (Bk W5 b3 30 #[nV x3, nV y3, .bool z3]) := Lib.hid (by rw [← hW5, ← hb3]; exact Bk.new _ _ _)
  have HL := Lib.hid (HL.out.below HBN.out)
  have HK1 := Lib.hid (Kt.bk (Kt.below HBN.out) HK1.out)
  have HB := Lib.hid (HB.out.trans (HBN.out.mono HB.out.size))
  clear HBN HKN
  go_wp2_with fail
  try rw [hW5]
  try rw [hb3]
  try clear hW5 hb3
  have HC : Hid (Calls Try.prog 8 #[ptr a, .string ⟨#[103]⟩, nV 3, nV 1] W5 (SgP w.heap.size W5 a 9 C ⟨#[103]⟩ g ⟨⟨#[103]⟩, 1, [], [(2, 5), (3, 6)]⟩ 1 (upd R2.sm 3 (some (g, 0, false))) (.tuple #[loV 0 0 false, .bool false, nV 0]))) := Lib.hid (by
    exact SgP.cast (sg_wait HL.out (by omega) (by omega) (by decide) 3 1 (by omega) ⟨by omega, by omega⟩ (by omega) (by rw [HS.out]; rfl) rfl (by rw [HC1.out]; exact Nat.le_refl _) (by rw [HC2.out]; decide)) (by rw [HC3.out]; rfl))
  go_wp2_with fail
  refine HC.out.mono ?_
  rintro e w6 ⟨R3, rfl, hg, hsm, hf⟩
  rw [HS.out] at hsm
  have HL := Lib.hid hg
  have HS := Lib.hid hsm
  have HK1 := Lib.hid (Kt.bk hf.kt HK1.out)
  have HB := Lib.hid (HB.out.trans hf.bel)
  clear hg hsm hf HC
  obtain ⟨x4, hx4⟩ : ∃ x : Int, Hid (2 = x) := ⟨_, Lib.hid rfl⟩
  obtain ⟨y4, hy4⟩ : ∃ x : Int, Hid (1 = x) := ⟨_, Lib.hid rfl⟩
  obtain ⟨z4, hz4⟩ : ∃ x : Bool, Hid (false = x) := ⟨_, Lib.hid rfl⟩
  have HC : Hid (Calls Try.prog 9 #[ptr a, nV 1, nV 2] w6 (SgP w.heap.size w6 a 12 C ⟨#[103]⟩ g ⟨⟨#[103]⟩, 1, [], [(3, 6)]⟩ 1 (upd (upd R3.sm 1 none) 2 (some (g, 1, false))) (.tuple #[loV x4 y4 z4, .bool true]))) := Lib.hid (by
    have := hx4.out; subst this
    have := hy4.out; subst this
    have := hz4.out; subst this
    exact sg_next HL.out (by omega) (by omega) 1 2 ⟨by omega, by omega⟩ (n := 1) (by rw [HS.out]; rfl) (by omega) rfl)
  go_wp2_with fail
  refine HC.out.mono ?_
  rintro e w7 ⟨R4, rfl, hg, hsm, hf⟩
  rw [HS.out] at hsm
  have HL := Lib.hid hg
  have HS := Lib.hid hsm
  have HK1 := Lib.hid (Kt.bk hf.kt HK1.out)
  have HB := Lib.hid (HB.out.trans hf.bel)
  clear hg hsm hf HC
  obtain ⟨W7, hW7⟩ : ∃ W, w7.alloc (.cells #[nV x4, nV y4, .bool z4] 30) = W := ⟨_, rfl⟩
  obtain ⟨b4, hb4⟩ : ∃ b, w7.heap.size = b := ⟨_, rfl⟩
  have HBN : Hid (Below w7.heap.size w7 W7) := Lib.hid (by rw [← hW7]; exact (Below.refl _ _).alloc (Nat.le_refl _) _)
  have HKN : Hid (Bk W7 b4 30 #[nV x4, nV y4, .bool z4]) := Lib.hid (by rw [← hW7, ← hb4]; exact Bk.new _ _ _)
  have HL := Lib.hid (HL.out.below HBN.out)
  have HK1 := Lib.hid (Kt.bk (Kt.below HBN.out) HK1.out)
  have HB := Lib.hid (HB.out.trans (HBN.out.mono HB.out.size))
  have HK4 := Lib.hid HKN.out
  clear HBN HKN
  go_wp2_with fail
  try rw [hW7]
  try rw [hb4]
  try clear hW7 hb4
  have HC := Lib.hid (sg_late HL.out (by omega) (by omega) 6 (by decide))
  rw [show lateO 6 ⟨⟨#[103]⟩, 1, [], [(3, 6)]⟩ = [3] from rfl, show lateA 6 ⟨⟨#[103]⟩, 1, [], [(3, 6)]⟩ = ⟨⟨#[103]⟩, 1, [], []⟩ from rfl] at HC
  go_wp2_with fail
  refine HC.out.mono ?_
  rintro e w8 ⟨v5, hoi, R5, rfl, hg, hsm, hf⟩
  rw [HS.out] at hsm
  have HL := Lib.hid hg
  have HS := Lib.hid hsm
  have HK1 := Lib.hid (Kt.bk hf.kt HK1.out)
  have HK4 := Lib.hid (Kt.bk hf.kt HK4.out)
  have HB := Lib.hid (HB.out.trans hf.bel)
  have HI5 := Lib.hid hoi.is
  clear hg hsm hf hoi HC
  have HC : Hid (Calls Try.prog 10 #[ptr a, nV 2] w8 (SgP w.heap.size w8 a 18 C ⟨#[103]⟩ g ⟨⟨#[103]⟩, 1, [], []⟩ 1 (upd R5.sm 2 (some (g, 1, true))) (.bool true))) := Lib.hid (by
    exact sg_pin HL.out (by omega) 2 ⟨by omega, by omega⟩ (n := 1) (p := false) (by rw [HS.out]; rfl) (by omega))
  go_wp2_with fail
  refine HC.out.mono ?_
  rintro e w9 ⟨R6, rfl, hg, hsm, hf⟩
  rw [HS.out] at hsm
  have HL := Lib.hid hg
  have HS := Lib.hid hsm
  have HK1 := Lib.hid (Kt.bk hf.kt HK1.out)
  have HK4 := Lib.hid (Kt.bk hf.kt HK4.out)
  have HI5 := Lib.hid (HI5.out.ki (Kt.ki hf.kt))
  have HB := Lib.hid (HB.out.trans hf.bel)
  clear hg hsm hf HC
  obtain ⟨x7, hx7⟩ : ∃ x : Int, Hid (0 = x) := ⟨_, Lib.hid rfl⟩
  obtain ⟨y7, hy7⟩ : ∃ x : Int, Hid (0 = x) := ⟨_, Lib.hid rfl⟩
  obtain ⟨z7, hz7⟩ : ∃ x : Bool, Hid (false = x) := ⟨_, Lib.hid rfl⟩
  have HC : Hid (Calls Try.prog 9 #[ptr a, nV 2, nV 7] w9 (RdP (.tuple #[loV x7 y7 z7, .bool false]) w9)) := Lib.hid (by
    have := hx7.out; subst this
    have := hy7.out; subst this
    have := hz7.out; subst this
    exact give_no HL.out.pl 2 7 ⟨by omega, by omega⟩ (g := g) (n := 1) (p := true) (by rw [HS.out]; rfl) (.inr rfl))
  go_wp2_with fail
  refine HC.out.mono ?_
  rintro e w10 ⟨rfl, hb⟩
  have HL := Lib.hid (HL.out.below hb)
  have HK1 := Lib.hid (Kt.bk (Kt.below hb) HK1.out)
  have HK4 := Lib.hid (Kt.bk (Kt.below hb) HK4.out)
  have HI5 := Lib.hid (HI5.out.ki (Kt.ki (Kt.below hb)))
  have HB := Lib.hid (HB.out.trans (hb.mono HB.out.size))
  clear hb HC
  obtain ⟨W10, hW10⟩ : ∃ W, w10.alloc (.cells #[nV x7, nV y7, .bool z7] 30) = W := ⟨_, rfl⟩
  obtain ⟨b7, hb7⟩ : ∃ b, w10.heap.size = b := ⟨_, rfl⟩
  have HBN : Hid (Below w10.heap.size w10 W10) := Lib.hid (by rw [← hW10]; exact (Below.refl _ _).alloc (Nat.le_refl _) _)
  have HKN : Hid (Bk W10 b7 30 #[nV x7, nV y7, .bool z7]) := Lib.hid (by rw [← hW10, ← hb7]; exact Bk.new _ _ _)
  have HL := Lib.hid (HL.out.below HBN.out)
  have HK1 := Lib.hid (Kt.bk (Kt.below HBN.out) HK1.out)
  have HK4 := Lib.hid (Kt.bk (Kt.below HBN.out) HK4.out)
  have HI5 := Lib.hid (HI5.out.ki (Kt.ki (Kt.below HBN.out)))
  have HB := Lib.hid (HB.out.trans (HBN.out.mono HB.out.size))
  clear HBN HKN
  go_wp2_with fail
  try rw [hW10]
  try rw [hb7]
  try clear hW10 hb7
  obtain ⟨x8, hx8⟩ : ∃ x : Int, Hid (0 = x) := ⟨_, Lib.hid rfl⟩
  obtain ⟨y8, hy8⟩ : ∃ x : Int, Hid (0 = x) := ⟨_, Lib.hid rfl⟩
  obtain ⟨z8, hz8⟩ : ∃ x : Bool, Hid (false = x) := ⟨_, Lib.hid rfl⟩
  have HC : Hid (Calls Try.prog 12 #[ptr a, nV 2, nV 7] W10 (fun e w9 => ∃ R7, e = .returned (.tuple #[nV 1, loV x8 y8 z8, .bool false]) ∧ Sn w.heap.size w9 a 21 C R7 1 ∧ R7.sm = upd R6.sm 2 none ∧ Fr w.heap.size W10 w9)) := Lib.hid (by
    have := hx8.out; subst this
    have := hy8.out; subst this
    have := hz8.out; subst this
    exact sg_last HL.out (by omega) (by omega) 2 7 ⟨by omega, by omega⟩ (n := 1) (p := true) (by rw [HS.out]; rfl) (by omega) rfl rfl)
  go_wp2_with fail
  refine HC.out.mono ?_
  rintro e w11 ⟨R7, rfl, hg, hsm, hf⟩
  rw [HS.out] at hsm
  have HL := Lib.hid hg
  have HS := Lib.hid hsm
  have HK1 := Lib.hid (Kt.bk hf.kt HK1.out)
  have HK4 := Lib.hid (Kt.bk hf.kt HK4.out)
  have HI5 := Lib.hid (HI5.out.ki (Kt.ki hf.kt))
  have HB := Lib.hid (HB.out.trans hf.bel)
  clear hg hsm hf HC
  obtain ⟨W11, hW11⟩ : ∃ W, w11.alloc (.cells #[nV x8, nV y8, .bool z8] 30) = W := ⟨_, rfl⟩
  obtain ⟨b8, hb8⟩ : ∃ b, w11.heap.size = b := ⟨_, rfl⟩
  have HBN : Hid (Below w11.heap.size w11 W11) := Lib.hid (by rw [← hW11]; exact (Below.refl _ _).alloc (Nat.le_refl _) _)
  have HKN : Hid (Bk W11 b8 30 #[nV x8, nV y8, .bool z8]) := Lib.hid (by rw [← hW11, ← hb8]; exact Bk.new _ _ _)
  have HL := Lib.hid (HL.out.below HBN.out)
  have HK1 := Lib.hid (Kt.bk (Kt.below HBN.out) HK1.out)
  have HK4 := Lib.hid (Kt.bk (Kt.below HBN.out) HK4.out)
  have HI5 := Lib.hid (HI5.out.ki (Kt.ki (Kt.below HBN.out)))
  have HB := Lib.hid (HB.out.trans (HBN.out.mono HB.out.size))
  clear HBN HKN
  go_wp2_with fail
  try rw [hW11]
  try rw [hb8]
  try clear hW11 hb8
  have HC : Hid (Calls Try.prog 8 #[ptr a, .string ⟨#[103]⟩, nV 4, nV 8] W11 (fun e w9 => ∃ g, SgP w.heap.size W11 a 24 C ⟨#[103]⟩ g ⟨⟨#[103]⟩, 1, [], []⟩ 2 (upd R7.sm 4 (some (g, 2, false))) (.tuple #[loV 4 2 true, .bool true, nV 0]) e w9)) := Lib.hid (by
    exact sg_open HL.out (by omega) (by omega) ⟨#[103]⟩ (by decide) 4 8 (by omega) ⟨by omega, by omega⟩ (by omega) (by rw [HS.out]; rfl))
  go_wp2_with fail
  refine HC.out.mono ?_
  rintro e w12 ⟨g2, R8, rfl, hg, hsm, hf⟩
  rw [HS.out] at hsm
  have HL := Lib.hid hg
  have HS := Lib.hid hsm
  have HK1 := Lib.hid (Kt.bk hf.kt HK1.out)
  have HK4 := Lib.hid (Kt.bk hf.kt HK4.out)
  have HI5 := Lib.hid (HI5.out.ki (Kt.ki hf.kt))
  have HB := Lib.hid (HB.out.trans hf.bel)
  clear hg hsm hf HC
  have HC : Hid (Calls Try.prog 9 #[ptr a, nV 4, nV 8] w12 (SgP w.heap.size w12 a 27 C ⟨#[103]⟩ g2 ⟨⟨#[103]⟩, 1, [(8, 2)], []⟩ 2 (upd R8.sm 4 none) (.tuple #[loV 0 0 false, .bool false]))) := Lib.hid (by
    exact SgP.cast (sg_idle HL.out (by omega) (by omega) 4 8 ⟨by omega, by omega⟩ (n := 2) (by rw [HS.out]; rfl) (by omega) rfl) rfl)
  go_wp2_with fail
  refine HC.out.mono ?_
  rintro e w13 ⟨R9, rfl, hg, hsm, hf⟩
  rw [HS.out] at hsm
  have HL := Lib.hid hg
  have HS := Lib.hid hsm
  have HK1 := Lib.hid (Kt.bk hf.kt HK1.out)
  have HK4 := Lib.hid (Kt.bk hf.kt HK4.out)
  have HI5 := Lib.hid (HI5.out.ki (Kt.ki hf.kt))
  have HB := Lib.hid (HB.out.trans hf.bel)
  clear hg hsm hf HC
  have HC : Hid (Calls Try.prog 15 #[ptr a, .string ⟨#[103]⟩] w13 (RdP (.tuple #[nV 1, nV 1, nV 0]) w13)) := Lib.hid (by
    exact sg_count HL.out (by decide))
  go_wp2_with fail
  refine HC.out.mono ?_
  rintro e w14 ⟨rfl, hb⟩
  have HL := Lib.hid (HL.out.below hb)
  have HK1 := Lib.hid (Kt.bk (Kt.below hb) HK1.out)
  have HK4 := Lib.hid (Kt.bk (Kt.below hb) HK4.out)
  have HI5 := Lib.hid (HI5.out.ki (Kt.ki (Kt.below hb)))
  have HB := Lib.hid (HB.out.trans (hb.mono HB.out.size))
  clear hb HC
  have HC := Lib.hid (sg_reap HL.out (by omega) (by omega) 13 8 (by rw [HC4.out]; decide) (by rw [HC4.out]; decide) (by decide))
  rw [show ((reapO 8 ⟨⟨#[103]⟩, 1, [(8, 2)], []⟩).mergeSort fun x y => decide (x ≤ y)) = [2] by rw [show reapO 8 ⟨⟨#[103]⟩, 1, [(8, 2)], []⟩ = [2] from rfl]; simp] at HC
  go_wp2_with fail
  refine HC.out.mono ?_
  rintro e w15 ⟨v6, rfl, hoi, hf⟩
  have HK1 := Lib.hid (Kt.bk hf.kt HK1.out)
  have HK4 := Lib.hid (Kt.bk hf.kt HK4.out)
  have HI5 := Lib.hid (HI5.out.ki (Kt.ki hf.kt))
  have HB := Lib.hid (HB.out.trans hf.bel)
  have HI6 := Lib.hid hoi.is
  clear hf hoi HC HL HS
  have := hx1.out; subst this
  have := hy1.out; subst this
  have := hz1.out; subst this
  have k0 := HK1.out
  have s10 := k0.cell 0
  have t10 := k0.frozen 0
  have s11 := k0.cell 1
  have t11 := k0.frozen 1
  have s12 := k0.cell 2
  have t12 := k0.frozen 2
  simp at s10 s11 s12
  clear k0
  have := hx4.out; subst this
  have := hy4.out; subst this
  have := hz4.out; subst this
  have k0 := HK4.out
  have s40 := k0.cell 0
  have t40 := k0.frozen 0
  have s41 := k0.cell 1
  have t41 := k0.frozen 1
  have s42 := k0.cell 2
  have t42 := k0.frozen 2
  simp at s40 s41 s42
  clear k0
  have ba : Below w15.heap.size w15 (w15.alloc (.cells #[nV 3] 3)) := (Below.refl _ _).alloc (Nat.le_refl _) _
  have HC := Lib.hid (ints_any (w15.alloc (.cells #[nV 3] 3)) _ _ [3] [3] (HI5.out.below ba) (is_one w15 3) (by simp))
  rw [show decide (([3] : List Int) = [3]) = true by decide] at HC
  have HB := Lib.hid (HB.out.trans (ba.mono HB.out.size))
  have HI6 := Lib.hid (HI6.out.below ba)
  have HE1 := Lib.hid (fun w => eql_loan 1 1 true 1 1 true w)
  have HE4 := Lib.hid (fun w => eql_loan 2 1 false 2 1 false w)
  clear ba
  have he1 := HE1.out
  have he4 := HE4.out
  go_wp2_with fail
  refine HC.out.mono ?_
  rintro e wa ⟨rfl, hb⟩
  have HB := Lib.hid (HB.out.trans (hb.mono HB.out.size))
  have HI6 := Lib.hid (HI6.out.below hb)
  clear hb HC
  have ba : Below wa.heap.size wa (wa.alloc (.cells #[nV 2] 3)) := (Below.refl _ _).alloc (Nat.le_refl _) _
  have HC := Lib.hid (ints_any (wa.alloc (.cells #[nV 2] 3)) _ _ [2] [2] (HI6.out.below ba) (is_one wa 2) (by simp))
  rw [show decide (([2] : List Int) = [2]) = true by decide] at HC
  have HB := Lib.hid (HB.out.trans (ba.mono HB.out.size))
  clear ba
  go_wp2_with fail
  refine HC.out.mono ?_
  rintro e wb ⟨rfl, hb⟩
  have HB := Lib.hid (HB.out.trans (hb.mono HB.out.size))
  clear hb HC
  go_wp2
  go_ret
  exact ⟨rfl, HB.out⟩
end Go.Proofs.Ytochjbmighijgaa.PO
