/- Package flight: Waits, Leave, Open. Conditions: how many asks there were. -/
import Derived.Test.YtldpamlmnganmaaFll
namespace Go.Proofs.Ytldpamlmnganmaa.FL
open Go.ChangeShapes Go.WideShapes Go.ChangeAt Go.RowKit Go.Maps Go.ChangeMaps
open Go.Proofs.Ytldpamlmnganmaa.SL
set_option maxRecDepth 100000
set_option linter.unusedVariables false
set_option linter.unusedSimpArgs false

set_option maxHeartbeats 4000000 in
theorem waits_any {w : World} {a N : Nat} {C : Bs} {S : List Fl} (h : CB w a N C S) (c : Int) (hc : I9 c) :
    Calls Try.prog 21 #[ptr a, .int .i64 c] w (RdP (.tuple #[kyV (waitS S c).1, .bool (waitS S c).2]) w) := by
  obtain ⟨W0, hW0⟩ : ∃ W, w.alloc (.cells #[.string ⟨#[]⟩, .string ⟨#[]⟩, .int .i64 0, .string ⟨#[]⟩] 30) = W := ⟨_, rfl⟩
  obtain ⟨kb, hkb⟩ : ∃ b, w.heap.size = b := ⟨_, rfl⟩
  have b0 : Below w.heap.size w W0 := by rw [← hW0]; exact (Below.refl _ _).alloc (Nat.le_refl _) _
  have kk : Bk W0 kb 30 #[.string ⟨#[]⟩, .string ⟨#[]⟩, .int .i64 0, .string ⟨#[]⟩] := by rw [← hW0, ← hkb]; exact Bk.new _ _ _
  have HB0 := Lib.hid b0
  have HSI := Lib.hid (sits_any (h.below b0) c hc)
  have HKB : Hid (w.heap.size ≤ kb) := Lib.hid (Nat.le_of_eq hkb)
  have HKK := Lib.hid kk
  cases hZ : C.Z c with
  | none =>
    have e : waitS S c = (zKy, false) := by unfold waitS; rw [h.of_none hZ]; rfl
    rw [e]
    rw [hZ] at HSI
    obtain ⟨px, hpx⟩ : ∃ x : Option Addr, none = x := ⟨_, rfl⟩
    obtain ⟨pn, hpn⟩ : ∃ x : Int, 0 = x := ⟨_, rfl⟩
    have HSI : Hid (Calls Try.prog 33 #[ptr a, .int .i64 c] W0 (RdP (.tuple #[.agg #[.pointer px, .int .i64 pn], .bool false]) W0)) := Lib.hid (by rw [← hpx, ← hpn]; exact HSI.out)
    clear h hc hZ kk b0 e hpx hpn
    go_enter Try.func21, Try.ntmps21
    go_wp2_with fail
    try rw [hW0]
    try rw [hkb]
    refine HSI.out.mono ?_
    rintro e w2 ⟨rfl, hb2⟩
    have HBX := Lib.hid (HB0.out.trans (hb2.mono HB0.out.size))
    obtain ⟨W3, hW3⟩ : ∃ W, w2.alloc (.cells #[.pointer px, .int .i64 pn] 68) = W := ⟨_, rfl⟩
    have k2 := (HKK.out.heap (hb2.block _ HKK.out.lt)).alloc (.cells #[.pointer px, .int .i64 pn] 68)
    rw [hW3] at k2
    have hb3 : Below w.heap.size w W3 := by rw [← hW3]; exact HBX.out.alloc HBX.out.size _
    have HB3 := Lib.hid hb3
    have K2 := Lib.hid k2
    have q0 := k2.cell 0
    have q1 := k2.cell 1
    have q2 := k2.cell 2
    have q3 := k2.cell 3
    have f0 := k2.frozen 0
    have f1 := k2.frozen 1
    have f2 := k2.frozen 2
    have f3 := k2.frozen 3
    simp at q0 q1 q2 q3
    clear hb2 hb3 k2 HBX
    go_wp2_with fail
    try rw [hW3]
    go_wp2
    have k5 := (((K2.out.set_ 0 (.string ⟨#[]⟩)).set_ 1 (.string ⟨#[]⟩)).set_ 2 (.int .i64 0)).set_ 3 (.string ⟨#[]⟩)
    have r0 := k5.cell 0
    have r1 := k5.cell 1
    have r2 := k5.cell 2
    have r3 := k5.cell 3
    simp at r0 r1 r2 r3
    refine bodyPost_ret (v := .tuple #[kyV zKy, .bool false]) (by simp [results, Try.results21, go_sem, r0, r1, r2, r3, zKy]) rfl ?_
    exact ⟨rfl, (((HB3.out.setCell (p := ⟨kb, 0, none⟩) HKB.out _).setCell (p := ⟨kb, 1, none⟩) HKB.out _).setCell (p := ⟨kb, 2, none⟩) HKB.out _).setCell (p := ⟨kb, 3, none⟩) HKB.out _⟩
  | some p =>
    obtain ⟨k, r, hF, hg, hm, ho⟩ := h.of_some hZ
    have e : waitS S c = (k, true) := by unfold waitS; rw [ho]; rfl
    rw [e]
    rw [hZ] at HSI
    obtain ⟨pg, pn⟩ := p
    simp only at hg
    subst hg
    have HSI : Hid (Calls Try.prog 33 #[ptr a, .int .i64 c] W0 (RdP (.tuple #[.agg #[ptr r.g, .int .i64 pn], .bool true]) W0)) := HSI
    have HR := Lib.hid ((h.below b0).row k r hF)
    clear h hc hZ kk b0 e hm ho hF
    go_enter Try.func21, Try.ntmps21
    go_wp2_with fail
    try rw [hW0]
    try rw [hkb]
    refine HSI.out.mono ?_
    rintro e w2 ⟨rfl, hb2⟩
    have HBX := Lib.hid (HB0.out.trans (hb2.mono HB0.out.size))
    obtain ⟨W3, hW3⟩ : ∃ W, w2.alloc (.cells #[ptr r.g, .int .i64 pn] 68) = W := ⟨_, rfl⟩
    obtain ⟨sb, hsb⟩ : ∃ b, w2.heap.size = b := ⟨_, rfl⟩
    have k2 := (HKK.out.heap (hb2.block _ HKK.out.lt)).alloc (.cells #[ptr r.g, .int .i64 pn] 68)
    rw [hW3] at k2
    have kg := (HR.out.bk.heap (hb2.block _ HR.out.lt.1)).alloc (.cells #[ptr r.g, .int .i64 pn] 68)
    rw [hW3] at kg
    have ks : Bk W3 sb 68 #[ptr r.g, .int .i64 pn] := by rw [← hW3, ← hsb]; exact Bk.new _ _ _
    have hb3 : Below w.heap.size w W3 := by rw [← hW3]; exact HBX.out.alloc HBX.out.size _
    have HB3 := Lib.hid hb3
    have K2 := Lib.hid k2
    obtain ⟨db, ro, fm, no⟩ := k
    have q0 := k2.cell 0
    have q1 := k2.cell 1
    have q2 := k2.cell 2
    have q3 := k2.cell 3
    have f0 := k2.frozen 0
    have f1 := k2.frozen 1
    have f2 := k2.frozen 2
    have f3 := k2.frozen 3
    have s0 : W3.cell? ⟨sb, 0, none⟩ = some (ptr r.g) := ks.cell 0
    have s1 : W3.cell? ⟨sb, 1, none⟩ = some (.int .i64 pn) := ks.cell 1
    have g0 : W3.cell? ⟨r.g, 0, none⟩ = some (.string db) := kg.cell 0
    have g1 : W3.cell? ⟨r.g, 1, none⟩ = some (.string ro) := kg.cell 1
    have g2 : W3.cell? ⟨r.g, 2, none⟩ = some (.int .i64 fm) := kg.cell 2
    have g3 : W3.cell? ⟨r.g, 3, none⟩ = some (.string no) := kg.cell 3
    simp at q0 q1 q2 q3
    clear hb2 hb3 k2 HBX kg ks
    go_wp2_with fail
    try rw [hW3]
    try rw [hsb]
    go_wp2
    have k5 := (((K2.out.set_ 0 (.string db)).set_ 1 (.string ro)).set_ 2 (.int .i64 fm)).set_ 3 (.string no)
    have r0 := k5.cell 0
    have r1 := k5.cell 1
    have r2 := k5.cell 2
    have r3 := k5.cell 3
    simp at r0 r1 r2 r3
    refine bodyPost_ret (v := .tuple #[kyV (db, ro, fm, no), .bool true]) (by simp [results, Try.results21, go_sem, r0, r1, r2, r3]) rfl ?_
    exact ⟨rfl, (((HB3.out.setCell (p := ⟨kb, 0, none⟩) HKB.out _).setCell (p := ⟨kb, 1, none⟩) HKB.out _).setCell (p := ⟨kb, 2, none⟩) HKB.out _).setCell (p := ⟨kb, 3, none⟩) HKB.out _⟩
theorem open_len {w : World} {a N : Nat} {C : Bs} {S : List Fl} (h : CB w a N C S) (ty : TypeId) : (Builtin.len_ #[60] ty #[.map (some C.fb)]).run Try.prog w = .ok (.int .i64 (S.length : Int)) w := by
  have := mapV_len h.mf kK Try.underlying60 (S.map fun t => kyL t.1) ?_ (fun kl hkl => ?_) (fun kl hkl => ?_) ty
  · rw [List.length_map] at this
    exact this
  · rw [show (fun t : Fl => kyL t.1) = kyL ∘ fun t : Fl => t.1 from rfl, ← List.map_map]
    refine List.pairwise_map.2 (List.Pairwise.imp_of_mem (fun {x y} hx hy hne e => ?_) h.wf.keys)
    obtain ⟨t, ht, rfl⟩ := List.mem_map.1 hx
    obtain ⟨u, hu, rfl⟩ := List.mem_map.1 hy
    exact hne (kyL_inj (h.wf.fit t ht) (h.wf.fit u hu) e)
  · constructor
    · intro hm
      obtain ⟨t, ht, rfl⟩ := List.mem_map.1 hm
      unfold fV
      rw [fK_at _ _ (h.wf.fit t ht), Option.isSome_map]
      have := findF_of h.wf.keys (k := t.1) (l := t.2) ht
      rw [← h.fs t.1] at this
      cases hF : C.F t.1 with
      | none => rw [hF] at this; cases this
      | some r => rfl
    · intro hs
      obtain ⟨k, hk, rfl, hg⟩ := fK_some hs
      rw [Option.isSome_map] at hg
      obtain ⟨r, hr⟩ := Option.isSome_iff_exists.1 hg
      exact List.mem_map.2 ⟨(k, cl r), findF_mem (h.find_some hr), rfl⟩
  · obtain ⟨t, ht, rfl⟩ := List.mem_map.1 hkl
    exact kyL_key _
theorem nopen_any {w : World} {a N : Nat} {C : Bs} {S : List Fl} (h : CB w a N C S) :
    Calls Try.prog 23 #[ptr a] w fun e w' => e = .returned (.int .i64 (S.length : Int)) ∧ w = w' := by
  obtain ⟨c0, c1, c2⟩ := h.cells
  have hl := open_len h 3
  clear h
  go_enter Try.func23, Try.ntmps23
  go_wp2_with fail
  refine (given_yes _ _ c0).mono ?_
  rintro e w' ⟨rfl, rfl⟩
  go_wp2
  go_ret
  exact ⟨rfl, rfl⟩
end Go.Proofs.Ytldpamlmnganmaa.FL
