/- Package pool, its code: Holds, Count, Pin. Conditions: how many calls there were. -/
import Derived.Test.YtochjbmighijgaaPok
namespace Go.Proofs.Ytochjbmighijgaa.PO
open Go.ChangeShapes Go.WideShapes Go.ChangeAt Go.RowKit Go.Maps Go.ChangeMaps
open Go.Proofs.Ytochjbmighijgaa.SL Go.Proofs.Ytochjbmighijgaa.RW
open Go.Proofs.Ytochjbmighijgaa.LN (tkY tkN pu OI IS RdP)
set_option maxRecDepth 100000
set_option linter.unusedVariables false
set_option linter.unusedSimpArgs false

def holdV (o : Option (Nat × Int × Bool)) : Value := match o with | none => .tuple #[nV 0, .bool false] | some s => .tuple #[nV s.2.1, .bool (decide (0 < s.2.1))]
section
variable {B : Nat} {w w' : World} {a N : Nat} {C : Cf} {R : Raw} {M : Nat → Mem}
set_option maxHeartbeats 4000000 in
theorem holds_any (h : PL B w a N C R) (c : Int) (hc : I9 c) :
    Calls Try.prog 16 #[ptr a, nV c] w (RdP (holdV (R.sm c)) w) := by
  have HS := Lib.hid (sits_any h c hc)
  have fin : ∀ {w1 w2 : World}, Below w.heap.size w w1 → Below w1.heap.size w1 w2 → Below w.heap.size w w2 := fun h1 h2 => h1.trans (h2.mono h1.size)
  cases hs : R.sm c with
  | none =>
    rw [hs] at HS
    simp only [seO, Option.isSome_none] at HS
    unfold holdV
    simp only
    obtain ⟨px, hpx⟩ : ∃ x : Option Addr, none = x := ⟨_, rfl⟩
    obtain ⟨pn, hpn⟩ : ∃ n : Int, 0 = n := ⟨_, rfl⟩
    obtain ⟨pb, hpb⟩ : ∃ b : Bool, false = b := ⟨_, rfl⟩
    rw [show (Value.agg #[.pointer none, nV 0, .bool false]) = .agg #[.pointer px, nV pn, .bool pb] by rw [hpx, hpn, hpb]] at HS
    rw [show (Value.tuple #[nV 0, .bool false]) = .tuple #[nV pn, .bool false] by rw [hpn]]
    clear h hc hs hpx hpn hpb
    go_enter Try.func16, Try.ntmps16
    go_wp2_with fail
    refine HS.out.mono ?_
    rintro e w1 ⟨rfl, hb1⟩
    have HB1 := Lib.hid hb1
    clear hb1
    obtain ⟨W2, hW2⟩ : ∃ W, w1.alloc (.cells #[.pointer px, nV pn, .bool pb] 59) = W := ⟨_, rfl⟩
    obtain ⟨sb, hsb⟩ : ∃ b, w1.heap.size = b := ⟨_, rfl⟩
    have HB0 : Hid (Below w1.heap.size w1 W2) := Lib.hid (by rw [← hW2]; exact (Below.refl _ _).alloc (Nat.le_refl _) _)
    have HK0 : Hid (Bk W2 sb 59 #[.pointer px, nV pn, .bool pb]) := Lib.hid (by rw [← hW2, ← hsb]; exact Bk.new _ _ _)
    have k0 := HK0.out
    have s0 := k0.cell 0
    have sf0 := k0.frozen 0
    have s1 := k0.cell 1
    have sf1 := k0.frozen 1
    have s2 := k0.cell 2
    have sf2 := k0.frozen 2
    simp at s0 s1 s2
    clear k0
    go_wp2_with fail
    try rw [hW2]
    try rw [hsb]
    try clear hW2 hsb
    go_quiet (fail)
    go_wp2
    go_ret2
    exact ⟨rfl, fin HB1.out (HB0.out.trans ((below_drewN _ _ _).mono HB0.out.size))⟩
  | some s =>
    obtain ⟨g, n, p⟩ := s
    rw [hs] at HS
    simp only [seO, Option.isSome_some] at HS
    unfold holdV
    simp only
    clear h hc hs
    go_enter Try.func16, Try.ntmps16
    go_wp2_with fail
    refine HS.out.mono ?_
    rintro e w1 ⟨rfl, hb1⟩
    have HB1 := Lib.hid hb1
    clear hb1
    obtain ⟨W2, hW2⟩ : ∃ W, w1.alloc (.cells #[ptr g, nV n, .bool p] 59) = W := ⟨_, rfl⟩
    obtain ⟨sb, hsb⟩ : ∃ b, w1.heap.size = b := ⟨_, rfl⟩
    have HB0 : Hid (Below w1.heap.size w1 W2) := Lib.hid (by rw [← hW2]; exact (Below.refl _ _).alloc (Nat.le_refl _) _)
    have HK0 : Hid (Bk W2 sb 59 #[ptr g, nV n, .bool p]) := Lib.hid (by rw [← hW2, ← hsb]; exact Bk.new _ _ _)
    have k0 := HK0.out
    have s0 := k0.cell 0
    have sf0 := k0.frozen 0
    have s1 := k0.cell 1
    have sf1 := k0.frozen 1
    have s2 := k0.cell 2
    have sf2 := k0.frozen 2
    simp at s0 s1 s2
    clear k0
    go_wp2_with fail
    try rw [hW2]
    try rw [hsb]
    try clear hW2 hsb
    go_quiet (fail)
    go_wp2
    go_ret2
    exact ⟨rfl, fin HB1.out (HB0.out.trans ((below_drewN _ _ _).mono HB0.out.size))⟩
theorem count_none (h : PL B w a N C R) (k : ByteArray) (hk : k.size ≤ 281474976710656) (hg : R.gm k = none) :
    Calls Try.prog 15 #[ptr a, .string k] w (RdP (.tuple #[nV 0, nV 0, nV 0]) w) := by
  obtain ⟨M, h⟩ := h
  obtain ⟨c0, c1, c2, c3, c4, c5, c6, c7, c8, c9⟩ := h.cells
  have HG := Lib.hid (given_yes w a c0)
  have hl := h.lookG k hk
  rw [hg] at hl
  simp only [pV, Option.isSome_none] at hl
  clear h hk hg
  go_enter Try.func15, Try.ntmps15
  go_wp2_with fail
  refine HG.out.mono ?_
  rintro e w1 ⟨rfl, rfl⟩
  go_wp2
  refine bodyPost_ret (v := .tuple #[nV 0, nV 0, nV 0]) (by simp [results, Try.results15, go_sem]) rfl ?_
  exact ⟨rfl, Below.refl _ _⟩
set_option maxHeartbeats 4000000 in
theorem count_some (h : PL B w a N C R) (k : ByteArray) (hk : k.size ≤ 281474976710656) {g : Nat} {q : Row} (hg : R.gm k = some g) (hq : R.rows g = some q) :
    Calls Try.prog 15 #[ptr a, .string k] w (RdP (.tuple #[nV (q.conns : Int), nV (q.idle.length : Int), nV (q.line.length : Int)]) w) := by
  obtain ⟨M, h⟩ := h
  obtain ⟨c0, c1, c2, c3, c4, c5, c6, c7, c8, c9⟩ := h.cells
  have HG := Lib.hid (given_yes w a c0)
  have hl := h.lookG k hk
  rw [hg] at hl
  simp only [pV, Option.isSome_some] at hl
  have hr := h.row g q hq
  obtain ⟨x0, x1, x2, x3⟩ := hr.cells
  have HGL := Lib.hid hr.bk.lt
  have HA := Lib.hid (fun W (hb : Below w.heap.size w W) => LN.all_any (hr.below hb).ln)
  obtain ⟨n, hn⟩ : ∃ n, q.line.length = n := ⟨_, rfl⟩
  have HN := Lib.hid (show (q.line.map (·.1)).length = n by rw [List.length_map]; exact hn)
  rw [hn]
  obtain ⟨i, hi⟩ : ∃ n, q.idle.length = n := ⟨_, rfl⟩
  obtain ⟨ia, ic, he⟩ := hr.iq.form
  rw [hi] at he ⊢
  rw [he] at x2
  clear h hk hg hq hr hn hi he
  go_enter Try.func15, Try.ntmps15
  go_wp2_with fail
  refine HG.out.mono ?_
  rintro e w1 ⟨rfl, rfl⟩
  go_wp2_with fail
  clear c0 c1 c2 c3 c4 c5 c6 c7 c8 c9 hl
  refine wp_region_held_drew (S := fun W => Below w.heap.size w W) (by kernel_rfl) ?_ (fun hS => ?_)
  · exact (Below.refl _ _).drew
  refine tkY 0 ?_ rfl hS ?_ ?_
  rotate_left
  · intro wz hz
    have z0 := (hz.cell (p := ⟨g, 1, none⟩) HGL.out).trans x1
    have z1 := (hz.cell (p := ⟨g, 2, none⟩) HGL.out).trans x2
    have z2 := (hz.cell (p := ⟨g, 3, none⟩) HGL.out).trans x3
    go_simp
    all_goals first | with_reducible rfl | omega
  try simp only [Act.put, pu]
  refine tkY 1 ?_ rfl hS ?_ ?_
  rotate_left
  · intro wz hz
    have z0 := (hz.cell (p := ⟨g, 1, none⟩) HGL.out).trans x1
    have z1 := (hz.cell (p := ⟨g, 2, none⟩) HGL.out).trans x2
    have z2 := (hz.cell (p := ⟨g, 3, none⟩) HGL.out).trans x3
    go_simp
    all_goals first | with_reducible rfl | omega
  try simp only [Act.put, pu]
  refine tkY 2 ?_ rfl hS ?_ ?_
  rotate_left
  · intro wz hz
    have z0 := (hz.cell (p := ⟨g, 1, none⟩) HGL.out).trans x1
    have z1 := (hz.cell (p := ⟨g, 2, none⟩) HGL.out).trans x2
    have z2 := (hz.cell (p := ⟨g, 3, none⟩) HGL.out).trans x3
    go_simp
    all_goals first | with_reducible rfl | omega
  try simp only [Act.put, pu]
  refine tkY 3 ?_ rfl hS ?_ ?_
  rotate_left
  · intro wz hz
    have z0 := (hz.cell (p := ⟨g, 1, none⟩) HGL.out).trans x1
    have z1 := (hz.cell (p := ⟨g, 2, none⟩) HGL.out).trans x2
    have z2 := (hz.cell (p := ⟨g, 3, none⟩) HGL.out).trans x3
    go_simp
    all_goals first | with_reducible rfl | omega
  try simp only [Act.put, pu]
  refine tkY 4 ?_ rfl hS ?_ ?_
  rotate_left
  · intro wz hz
    have z0 := (hz.cell (p := ⟨g, 1, none⟩) HGL.out).trans x1
    have z1 := (hz.cell (p := ⟨g, 2, none⟩) HGL.out).trans x2
    have z2 := (hz.cell (p := ⟨g, 3, none⟩) HGL.out).trans x3
    go_simp
    all_goals first | with_reducible rfl | omega
  try simp only [Act.put, pu]
  refine tkY 5 ?_ rfl hS ?_ ?_
  rotate_left
  · intro wz hz
    have z0 := (hz.cell (p := ⟨g, 1, none⟩) HGL.out).trans x1
    have z1 := (hz.cell (p := ⟨g, 2, none⟩) HGL.out).trans x2
    have z2 := (hz.cell (p := ⟨g, 3, none⟩) HGL.out).trans x3
    go_simp
    all_goals first | with_reducible rfl | omega
  try simp only [Act.put, pu]
  refine tkY 6 ?_ rfl hS ?_ ?_
  rotate_left
  · intro wz hz
    have z0 := (hz.cell (p := ⟨g, 1, none⟩) HGL.out).trans x1
    have z1 := (hz.cell (p := ⟨g, 2, none⟩) HGL.out).trans x2
    have z2 := (hz.cell (p := ⟨g, 3, none⟩) HGL.out).trans x3
    go_simp
    all_goals first | with_reducible rfl | omega
  try simp only [Act.put, pu]
  refine tkY 7 ?_ rfl hS ?_ ?_
  rotate_left
  · intro wz hz
    have z0 := (hz.cell (p := ⟨g, 1, none⟩) HGL.out).trans x1
    have z1 := (hz.cell (p := ⟨g, 2, none⟩) HGL.out).trans x2
    have z2 := (hz.cell (p := ⟨g, 3, none⟩) HGL.out).trans x3
    go_simp
    all_goals first | with_reducible rfl | omega
  try simp only [Act.put, pu]
  refine tkY 8 ?_ rfl hS ?_ ?_
  rotate_left
  · intro wz hz
    have z0 := (hz.cell (p := ⟨g, 1, none⟩) HGL.out).trans x1
    have z1 := (hz.cell (p := ⟨g, 2, none⟩) HGL.out).trans x2
    have z2 := (hz.cell (p := ⟨g, 3, none⟩) HGL.out).trans x3
    go_simp
    all_goals first | with_reducible rfl | omega
  try simp only [Act.put, pu]
  refine tkY 9 ?_ rfl hS ?_ ?_
  rotate_left
  · intro wz hz
    have z0 := (hz.cell (p := ⟨g, 1, none⟩) HGL.out).trans x1
    have z1 := (hz.cell (p := ⟨g, 2, none⟩) HGL.out).trans x2
    have z2 := (hz.cell (p := ⟨g, 3, none⟩) HGL.out).trans x3
    go_simp
    all_goals first | with_reducible rfl | omega
  try simp only [Act.put, pu]
  refine tkY 10 ?_ rfl hS ?_ ?_
  rotate_left
  · intro wz hz
    have z0 := (hz.cell (p := ⟨g, 1, none⟩) HGL.out).trans x1
    have z1 := (hz.cell (p := ⟨g, 2, none⟩) HGL.out).trans x2
    have z2 := (hz.cell (p := ⟨g, 3, none⟩) HGL.out).trans x3
    go_simp
    all_goals first | with_reducible rfl | omega
  try simp only [Act.put, pu]
  refine tkY 11 ?_ rfl hS ?_ ?_
  rotate_left
  · intro wz hz
    have z0 := (hz.cell (p := ⟨g, 1, none⟩) HGL.out).trans x1
    have z1 := (hz.cell (p := ⟨g, 2, none⟩) HGL.out).trans x2
    have z2 := (hz.cell (p := ⟨g, 3, none⟩) HGL.out).trans x3
    go_simp
    all_goals first | with_reducible rfl | omega
  try simp only [Act.put, pu]
  refine tkY 12 ?_ rfl hS ?_ ?_
  rotate_left
  · intro wz hz
    have z0 := (hz.cell (p := ⟨g, 1, none⟩) HGL.out).trans x1
    have z1 := (hz.cell (p := ⟨g, 2, none⟩) HGL.out).trans x2
    have z2 := (hz.cell (p := ⟨g, 3, none⟩) HGL.out).trans x3
    go_simp
    all_goals first | with_reducible rfl | omega
  try simp only [Act.put, pu]
  refine wpAnyH_ready (rs := [13]) (by kernel_rfl) (by simp) (AllReadyH.cons rfl (fun K' hK' => ?_) AllReadyH.nil)
  go_simp
  refine (HA.out _ hS).mono ?_
  rintro e w2 ⟨r, rfl, ho, hb2⟩
  obtain ⟨ra, rc, rfl⟩ := ho.form
  have HB2 := Lib.hid (hS.trans (hb2.mono hS.size))
  have hn := HN.out
  clear ho hb2
  refine hK'.out _ _ ?_ (fun hSn => ?_)
  · exact HB2.out
  clear hK' K' hS
  have hS := hSn
  clear hSn
  try simp only [Act.put, pu]
  refine tkY 14 ?_ rfl hS ?_ ?_
  rotate_left
  · intro wz hz
    go_simp
    all_goals first | with_reducible rfl | omega
  try simp only [Act.put, pu]
  refine tkY 15 ?_ rfl hS ?_ ?_
  rotate_left
  · intro wz hz
    go_simp
    all_goals first | with_reducible rfl | omega
  try simp only [Act.put, pu]
  refine tkY 16 ?_ rfl hS ?_ ?_
  rotate_left
  · intro wz hz
    go_simp
    all_goals first | with_reducible rfl | omega
  try simp only [Act.put, pu]
  refine tkY 17 ?_ rfl hS ?_ ?_
  rotate_left
  · intro wz hz
    go_simp
    all_goals first | with_reducible rfl | omega
  try simp only [Act.put, pu]
  refine wpAnyH_done (by kernel_rfl) ?_ _
  clear hS
  go_wp2
  refine bodyPost_ret (v := .tuple #[nV (q.conns : Int), nV (i : Int), nV (n : Int)]) (by simp [results, Try.results15, go_sem]) rfl ?_
  exact ⟨rfl, HB2.out⟩
theorem pin_no (h : PL B w a N C R) (c : Int) (hc : I9 c) (hs : R.sm c = none ∨ ∃ g p, R.sm c = some (g, 0, p)) :
    Calls Try.prog 10 #[ptr a, nV c] w (RdP (.bool false) w) := by
  have HS := Lib.hid (sits_any h c hc)
  have fin : ∀ {w1 w2 : World}, Below w.heap.size w w1 → Below w1.heap.size w1 w2 → Below w.heap.size w w2 := fun h1 h2 => h1.trans (h2.mono h1.size)
  rcases hs with hs | ⟨g, p, hs⟩
  · rw [hs] at HS
    simp only [seO, Option.isSome_none] at HS
    clear h hc hs
    go_enter Try.func10, Try.ntmps10
    go_wp2_with fail
    refine HS.out.mono ?_
    rintro e w1 ⟨rfl, hb1⟩
    have HB1 := Lib.hid hb1
    clear hb1
    go_wp2
    go_ret
    exact ⟨rfl, fin HB1.out ((Below.refl _ _).alloc (Nat.le_refl _) _)⟩
  · rw [hs] at HS
    simp only [seO, Option.isSome_some] at HS
    clear h hc hs
    go_enter Try.func10, Try.ntmps10
    go_wp2_with fail
    refine HS.out.mono ?_
    rintro e w1 ⟨rfl, hb1⟩
    have HB1 := Lib.hid hb1
    clear hb1
    go_wp2
    go_ret
    exact ⟨rfl, fin HB1.out ((Below.refl _ _).alloc (Nat.le_refl _) _)⟩
set_option maxHeartbeats 4000000 in
theorem pin_yes (h : PL B w a N C R) (hN : N ≤ 1000000) (c : Int) (hc : I9 c) {g : Nat} {n : Int} {p : Bool} (hs : R.sm c = some (g, n, p)) (hn : n ≠ 0) :
    Calls Try.prog 10 #[ptr a, nV c] w fun e w' => e = .returned (.bool true) ∧ PL B w' a (N + 1) C { R with sm := upd R.sm c (some (g, n, true)) } ∧ Fr B w w' := by
  have HS := Lib.hid (sits_any h c hc)
  rw [hs] at HS
  simp only [seO, Option.isSome_some] at HS
  have HP := Lib.hid h
  have HKC := Lib.hid (keyI c hc)
  have HN := Lib.hid hN
  have hn2 : ¬ n = 0 := hn
  clear h hc hs hN hn
  go_enter Try.func10, Try.ntmps10
  go_wp2_with fail
  refine HS.out.mono ?_
  rintro e w1 ⟨rfl, hb1⟩
  have HB1 := Lib.hid hb1
  clear hb1
  obtain ⟨W2, hW2⟩ : ∃ W, w1.alloc (.cells #[ptr g, nV n, .bool p] 59) = W := ⟨_, rfl⟩
  obtain ⟨sb, hsb⟩ : ∃ b, w1.heap.size = b := ⟨_, rfl⟩
  have HB0 : Hid (Below w1.heap.size w1 W2) := Lib.hid (by rw [← hW2]; exact (Below.refl _ _).alloc (Nat.le_refl _) _)
  have HK0 : Hid (Bk W2 sb 59 #[ptr g, nV n, .bool p]) := Lib.hid (by rw [← hW2, ← hsb]; exact Bk.new _ _ _)
  have k0 := HK0.out
  have s0 := k0.cell 0
  have sf0 := k0.frozen 0
  have s1 := k0.cell 1
  have sf1 := k0.frozen 1
  have s2 := k0.cell 2
  have sf2 := k0.frozen 2
  simp at s0 s1 s2
  obtain ⟨W3, hW3⟩ : ∃ W, W2.setCell ⟨sb, 2, none⟩ (.bool true) = W := ⟨_, rfl⟩
  have k3 : Bk W3 sb 59 #[ptr g, nV n, .bool true] := by rw [← hW3]; exact k0.set_ 2 _
  have y0 := k3.cell 0
  have y1 := k3.cell 1
  have y2 := k3.cell 2
  simp at y0 y1 y2
  obtain ⟨M, hp⟩ := HP.out.below (HB1.out.trans (HB0.out.mono HB1.out.size))
  have hp3 : PB B W3 a N C R M := by rw [← hW3]; exact hp.far k0 2 _
  have hu := hp3.below (w' := W3.drew) (Below.refl _ _).drew
  obtain ⟨_, _, _, _, _, _, _, _, c8, _⟩ := hp3.cells
  obtain ⟨w5, hrun, hm5, ht5⟩ := hu.ms.put iK Try.underlying50 (by have := HN.out; unfold maxLen; omega) HKC.out (seV (g, n, true))
  obtain ⟨hp5, hf5⟩ := hu.putS (Nat.le_succ N) c (some (g, n, true)) hm5 ht5
  have HF : Hid (PL B w5 a (N + 1) C { R with sm := upd R.sm c (some (g, n, true)) } ∧ Fr B w w5) := Lib.hid ⟨⟨M, hp5⟩, ((show Fr B w W3 from by rw [← hW3]; exact Fr.newCell (HP.out.fr (HB1.out.trans (HB0.out.mono HB1.out.size))) HP.out.le (b := sb) (by have := HB1.out.size; omega) 2 _).trans (Fr.below (Below.refl _ _).drew hp3.le)).trans hf5⟩
  clear k0 k3 hp hp3 hu hm5 ht5 hp5 hf5
  go_wp2_with fail
  try rw [hsb]
  try rw [hW2]
  go_wp2_with fail
  try rw [hW3]
  go_region
  go_wp2
  go_ret
  exact ⟨rfl, HF.out⟩
end
end Go.Proofs.Ytochjbmighijgaa.PO
