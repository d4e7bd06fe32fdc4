/- Package pool, its code: Ask. Conditions: how many calls there were; how long names are. -/
import Derived.Test.YtochjbmighijgaaPop
namespace Go.Proofs.Ytochjbmighijgaa.PO
open Go.ChangeShapes Go.WideShapes Go.ChangeAt Go.RowKit Go.Maps Go.ChangeMaps
open Go.Proofs.Ytochjbmighijgaa.SL Go.Proofs.Ytochjbmighijgaa.RW
open Go.Proofs.Ytochjbmighijgaa.LN (tkY tkN pu OI IS RdP)
set_option maxRecDepth 100000
set_option linter.unusedVariables false
set_option linter.unusedSimpArgs false

open Go.Proofs.Ytochjbmighijgaa.LN (joinS)
/-- what find makes of a pool -/
def FindS (R : Raw) (k : ByteArray) (g : Nat) (R1 : Raw) : Prop := (R.gm k = some g ∧ R1 = R) ∨ (R.gm k = none ∧ R.rows g = none ∧ R1 = findR R k g)
inductive AskS (C : Cf) (R : Raw) (k : ByteArray) (c now : Int) : Raw → Value → Prop
  | wake {g : Nat} {R1 : Raw} {q : Row} {s n : Int} {l : List Rs} (hf : FindS R k g R1) (hq : R1.rows g = some q) (hi : q.idle = l ++ [(s, n)]) : AskS C R k c now (lendR { R1 with rows := upd R1.rows g (some { q with idle := l }) } g c n) (.tuple #[loV c n false, .bool true, nV 0])
  | open_ {g : Nat} {R1 : Raw} {q : Row} (hf : FindS R k g R1) (hq : R1.rows g = some q) (hi : q.idle = []) (hc : q.conns < C.lim) : AskS C R k c now (openR R1 g q c) (.tuple #[loV c ((R.last + 1 : Nat) : Int) true, .bool true, nV 0])
  | wait {g : Nat} {R1 : Raw} {q : Row} (hf : FindS R k g R1) (hq : R1.rows g = some q) (hi : q.idle = []) (hc : C.lim ≤ q.conns) (hj : (joinS C.most q.line c (now + (C.wait : Int))).2 = 0) : AskS C R k c now { R1 with rows := upd R1.rows g (some { q with line := (joinS C.most q.line c (now + (C.wait : Int))).1 }), sm := upd R1.sm c (some (g, 0, false)) } (.tuple #[loV 0 0 false, .bool false, nV 0])
  | full {g : Nat} {R1 : Raw} {q : Row} {er : Int} (hf : FindS R k g R1) (hq : R1.rows g = some q) (hi : q.idle = []) (hc : C.lim ≤ q.conns) (hj : (joinS C.most q.line c (now + (C.wait : Int))).2 = er) (he : er ≠ 0) : AskS C R k c now { R1 with rows := upd R1.rows g (some { q with line := (joinS C.most q.line c (now + (C.wait : Int))).1 }) } (.tuple #[loV 0 0 false, .bool false, nV er])
def AskP (B : Nat) (w : World) (a N : Nat) (C : Cf) (R : Raw) (k : ByteArray) (c now : Int) (e : Ending) (w' : World) : Prop := ∃ R' r, e = .returned r ∧ PL B w' a (N + 3) C R' ∧ Fr B w w' ∧ AskS C R k c now R' r
section
variable {B : Nat} {w w' : World} {a N : Nat} {C : Cf} {R : Raw}
theorem find_any (h : PL B w a N C R) (hN : N ≤ 1000000) (k : ByteArray) (hk : k.size ≤ 281474976710656) :
    Calls Try.prog 21 #[ptr a, .string k] w fun e w' => ∃ g R1, e = .returned (ptr g) ∧ PL B w' a (N + 1) C R1 ∧ FindS R k g R1 ∧ Fr B w w' := by
  cases hg : R.gm k with
  | some g =>
    refine (find_some h k hk hg).mono ?_
    rintro e w' ⟨rfl, rfl⟩
    exact ⟨g, R, rfl, h.mono (Nat.le_succ N), .inl ⟨hg, rfl⟩, Fr.refl _ _⟩
  | none =>
    refine (find_none h hN k hk hg).mono ?_
    rintro e w' ⟨g, rfl, h1, h2, h3⟩
    exact ⟨g, _, rfl, h1, .inr ⟨hg, h2, rfl⟩, h3⟩
theorem FindS.last {k : ByteArray} {g : Nat} {R1 : Raw} (h : FindS R k g R1) : R1.last = R.last ∧ R1.sm = R.sm ∧ R1.nm = R.nm := by
  rcases h with ⟨_, rfl⟩ | ⟨_, _, rfl⟩
  · exact ⟨rfl, rfl, rfl⟩
  · exact ⟨rfl, rfl, rfl⟩
set_option maxHeartbeats 4000000 in
theorem ask_bad (h : PL B w a N C R) (k : ByteArray) (c now : Int) (hb : c < 0 ∨ now < 0 ∨ 549755813888 < now) :
    Calls Try.prog 8 #[ptr a, .string k, nV c, nV now] w (RdP (.tuple #[loV 0 0 false, .bool false, nV 1]) w) := by
  obtain ⟨W0, hW0⟩ : ∃ W, w.alloc (.cells #[nV 0, nV 0, .bool false] 30) = W := ⟨_, rfl⟩
  obtain ⟨kb, hkb⟩ : ∃ b, w.heap.size = b := ⟨_, rfl⟩
  have HB0 : Hid (Below w.heap.size w W0) := Lib.hid (by rw [← hW0]; exact (Below.refl _ _).alloc (Nat.le_refl _) _)
  have HK0 : Hid (Bk W0 kb 30 #[nV 0, nV 0, .bool false]) := Lib.hid (by rw [← hW0, ← hkb]; exact Bk.new _ _ _)
  obtain ⟨c0, _⟩ := (h.below HB0.out).cells
  have HG := Lib.hid (given_yes W0 a c0)
  have k0 := HK0.out
  have q0 := k0.cell 0
  have qf0 := k0.frozen 0
  have q1 := k0.cell 1
  have qf1 := k0.frozen 1
  have q2 := k0.cell 2
  have qf2 := k0.frozen 2
  simp at q0 q1 q2
  have HSZ : Hid (w.heap.size ≤ kb) := Lib.hid (Nat.le_of_eq hkb)
  clear h k0
  rcases hb with hb | hb
  · go_enter Try.func8, Try.ntmps8
    go_wp2_with fail
    try rw [hW0]
    try rw [hkb]
    refine HG.out.mono ?_
    rintro e w' ⟨rfl, rfl⟩
    go_wp2
    have k5 := ((HK0.out.set_ 0 (nV 0)).set_ 1 (nV 0)).set_ 2 (.bool false)
    have e0 := k5.cell 0
    have e1 := k5.cell 1
    have e2 := k5.cell 2
    simp at e0 e1 e2
    refine bodyPost_ret (v := .tuple #[loV 0 0 false, .bool false, nV 1]) (by simp [results, Try.results8, go_sem, e0, e1, e2]) rfl ?_
    exact ⟨rfl, ((HB0.out.setCell (p := ⟨kb, 0, none⟩) HSZ.out _).setCell (p := ⟨kb, 1, none⟩) HSZ.out _).setCell (p := ⟨kb, 2, none⟩) HSZ.out _⟩
  · by_cases hc : c < 0
    · go_enter Try.func8, Try.ntmps8
      go_wp2_with fail
      try rw [hW0]
      try rw [hkb]
      refine HG.out.mono ?_
      rintro e w' ⟨rfl, rfl⟩
      go_wp2
      have k5 := ((HK0.out.set_ 0 (nV 0)).set_ 1 (nV 0)).set_ 2 (.bool false)
      have e0 := k5.cell 0
      have e1 := k5.cell 1
      have e2 := k5.cell 2
      simp at e0 e1 e2
      refine bodyPost_ret (v := .tuple #[loV 0 0 false, .bool false, nV 1]) (by simp [results, Try.results8, go_sem, e0, e1, e2]) rfl ?_
      exact ⟨rfl, ((HB0.out.setCell (p := ⟨kb, 0, none⟩) HSZ.out _).setCell (p := ⟨kb, 1, none⟩) HSZ.out _).setCell (p := ⟨kb, 2, none⟩) HSZ.out _⟩
    · rcases hb with hb | hb
      · go_enter Try.func8, Try.ntmps8
        go_wp2_with fail
        try rw [hW0]
        try rw [hkb]
        refine HG.out.mono ?_
        rintro e w' ⟨rfl, rfl⟩
        go_wp2
        have k5 := ((HK0.out.set_ 0 (nV 0)).set_ 1 (nV 0)).set_ 2 (.bool false)
        have e0 := k5.cell 0
        have e1 := k5.cell 1
        have e2 := k5.cell 2
        simp at e0 e1 e2
        refine bodyPost_ret (v := .tuple #[loV 0 0 false, .bool false, nV 1]) (by simp [results, Try.results8, go_sem, e0, e1, e2]) rfl ?_
        exact ⟨rfl, ((HB0.out.setCell (p := ⟨kb, 0, none⟩) HSZ.out _).setCell (p := ⟨kb, 1, none⟩) HSZ.out _).setCell (p := ⟨kb, 2, none⟩) HSZ.out _⟩
      · have hn : ¬ now < 0 := by omega
        go_enter Try.func8, Try.ntmps8
        go_wp2_with fail
        try rw [hW0]
        try rw [hkb]
        refine HG.out.mono ?_
        rintro e w' ⟨rfl, rfl⟩
        go_wp2
        have k5 := ((HK0.out.set_ 0 (nV 0)).set_ 1 (nV 0)).set_ 2 (.bool false)
        have e0 := k5.cell 0
        have e1 := k5.cell 1
        have e2 := k5.cell 2
        simp at e0 e1 e2
        refine bodyPost_ret (v := .tuple #[loV 0 0 false, .bool false, nV 1]) (by simp [results, Try.results8, go_sem, e0, e1, e2]) rfl ?_
        exact ⟨rfl, ((HB0.out.setCell (p := ⟨kb, 0, none⟩) HSZ.out _).setCell (p := ⟨kb, 1, none⟩) HSZ.out _).setCell (p := ⟨kb, 2, none⟩) HSZ.out _⟩
set_option maxHeartbeats 4000000 in
theorem ask_state (h : PL B w a N C R) (k : ByteArray) (c now : Int) (hc : I9 c) (h0 : 0 ≤ c) (h1 : 0 ≤ now ∧ now ≤ 549755813888) {s : Nat × Int × Bool} (hs : R.sm c = some s) :
    Calls Try.prog 8 #[ptr a, .string k, nV c, nV now] w (RdP (.tuple #[loV 0 0 false, .bool false, nV 10]) w) := by
  obtain ⟨W0, hW0⟩ : ∃ W, w.alloc (.cells #[nV 0, nV 0, .bool false] 30) = W := ⟨_, rfl⟩
  obtain ⟨kb, hkb⟩ : ∃ b, w.heap.size = b := ⟨_, rfl⟩
  have HB0 : Hid (Below w.heap.size w W0) := Lib.hid (by rw [← hW0]; exact (Below.refl _ _).alloc (Nat.le_refl _) _)
  have HK0 : Hid (Bk W0 kb 30 #[nV 0, nV 0, .bool false]) := Lib.hid (by rw [← hW0, ← hkb]; exact Bk.new _ _ _)
  have hw0 := h.below HB0.out
  obtain ⟨c0, _, _, _, _, _, _, _, c8, _⟩ := hw0.cells
  have HG := Lib.hid (given_yes W0 a c0)
  obtain ⟨M, hp⟩ := hw0
  have hl := hp.lookS c hc
  rw [hs] at hl
  obtain ⟨sg, sn, sp⟩ := s
  simp only [seO, seV, Option.isSome_some] at hl
  obtain ⟨W1, hW1⟩ : ∃ W, W0.alloc (.cells #[ptr sg, nV sn, .bool sp] 59) = W := ⟨_, rfl⟩
  obtain ⟨sb, hsb⟩ : ∃ b, W0.heap.size = b := ⟨_, rfl⟩
  have HB1 : Hid (Below W0.heap.size W0 W1) := Lib.hid (by rw [← hW1]; exact (Below.refl _ _).alloc (Nat.le_refl _) _)
  have HK1 : Hid (Bk W1 sb 59 #[ptr sg, nV sn, .bool sp]) := Lib.hid (by rw [← hW1, ← hsb]; exact Bk.new _ _ _)
  have k0 : Bk W1 kb 30 #[nV 0, nV 0, .bool false] := HK0.out.heap (HB1.out.block kb HK0.out.lt)
  have q0 := k0.cell 0
  have qf0 := k0.frozen 0
  have q1 := k0.cell 1
  have qf1 := k0.frozen 1
  have q2 := k0.cell 2
  have qf2 := k0.frozen 2
  simp at q0 q1 q2
  have HK0 := Lib.hid k0
  have HB0 := Lib.hid (HB0.out.trans (HB1.out.mono HB0.out.size))
  have HSZ : Hid (w.heap.size ≤ kb) := Lib.hid (Nat.le_of_eq hkb)
  have l1 : ¬ c < 0 := by omega
  have l2 : ¬ now < 0 := by omega
  have l3 : ¬ 549755813888 < now := by omega
  clear h k0 hp hs hc h0 h1
  go_enter Try.func8, Try.ntmps8
  go_wp2_with fail
  try rw [hW0]
  try rw [hkb]
  refine HG.out.mono ?_
  rintro e w' ⟨rfl, rfl⟩
  go_wp2_with fail
  try rw [hsb]
  try rw [hW1]
  have k5 := ((HK0.out.set_ 0 (nV 0)).set_ 1 (nV 0)).set_ 2 (.bool false)
  have e0 := k5.cell 0
  have e1 := k5.cell 1
  have e2 := k5.cell 2
  simp at e0 e1 e2
  refine bodyPost_ret (v := .tuple #[loV 0 0 false, .bool false, nV 10]) (by simp [results, Try.results8, go_sem, e0, e1, e2]) rfl ?_
  exact ⟨rfl, ((HB0.out.setCell (p := ⟨kb, 0, none⟩) HSZ.out _).setCell (p := ⟨kb, 1, none⟩) HSZ.out _).setCell (p := ⟨kb, 2, none⟩) HSZ.out _⟩
end
end Go.Proofs.Ytochjbmighijgaa.PO
