/- Package cache's keys: right, Text, Parse, Size. Conditions: how long their parts are.
   Laws of no program for elements of any number of cells: copy, clear, the cut, more of a row, the append of a make, on rows that a call owns.
   A queue of keys with deadlines, as plain lists: what is set, dropped, due. No program; no condition.
   Entries of package expiry in rows that a call owns. No condition. -/
import Derived.Test.YtjngangojgjceaaGreatG1
import Derived.Test.YtjngangojgjceaaGreatG6
import Derived.Lib.AppendZerosOnto
import Derived.Lib.SliceRun
import Derived.Laws.CopyOwn
import Derived.Deep.AppendLies
import Derived.Deep.DeepAppendRoom
import Derived.Lib.Overlaps
import Derived.Test.YtjngangojgjceaaGreatG5
set_option linter.unusedSimpArgs false
set_option linter.unusedVariables false
namespace Go.Proofs.YtjngangojgjceaaGreat.CA
open Go.ChangeShapes Go.WideShapes Go.ChangeAt Go.RowKit Go.Maps Go.ChangeMaps
open Go.Proofs.YtjngangojgjceaaGreat.SL
set_option maxRecDepth 100000
set_option linter.unusedVariables false
set_option linter.unusedSimpArgs false

/-- a key's cells -/
abbrev kC (k : Ky) : Array Value := #[.string k.1, .string k.2.1, .int .i64 k.2.2.1, .string k.2.2.2]
abbrev kyV (k : Ky) : Value := .agg (kC k)
def FitK (k : Ky) : Prop := k.1.size ≤ 1099511627776 ∧ k.2.1.size ≤ 1099511627776 ∧ k.2.2.2.size ≤ 1099511627776 ∧ (-9223372036854775808 ≤ k.2.2.1 ∧ k.2.2.1 ≤ 9223372036854775807)
theorem sidx_cln {s : ByteArray} (h : cln s = true) (w : World) :
    Calls Tryz.prog 101 #[.string s, .int .u8 0] w fun e w' => e = .returned (.int .i64 (-1)) ∧ w = w' := by
  refine (sidx_any s 0 w).mono ?_
  rintro e w' ⟨rfl, rfl⟩
  refine ⟨?_, rfl⟩
  rw [show (0 : Int).toNat.toUInt8 = 0 from rfl, cln_iff.1 h]
theorem sidx_not {s : ByteArray} (h : cln s = false) (w : World) :
    Calls Tryz.prog 101 #[.string s, .int .u8 0] w fun e w' => (∃ n : Nat, e = .returned (.int .i64 (n : Int))) ∧ w = w' := by
  refine (sidx_any s 0 w).mono ?_
  rintro e w' ⟨rfl, rfl⟩
  refine ⟨?_, rfl⟩
  rw [show (0 : Int).toNat.toUInt8 = 0 from rfl]
  have hg := Lib.indexByte_ge s.data.toList 0
  have hn : Lib.indexByte s.data.toList 0 ≠ -1 := fun e => by unfold cln at h; rw [decide_eq_true e] at h; cases h
  exact ⟨(Lib.indexByte s.data.toList 0).toNat, by rw [Int.toNat_of_nonneg (by omega)]⟩
theorem putText_le (s t : ByteArray) : (putText s t).size ≤ s.size + t.size + 1 := by
  unfold putText
  have := head0_size t
  have := zix_le t
  simp only [ByteArray.size_append]
  have z : (⟨#[0]⟩ : ByteArray).size = 1 := rfl
  omega
def prt (db ro no : ByteArray) (i : Nat) : ByteArray := if i = 0 then db else if i = 1 then ro else no
set_option maxHeartbeats 2000000 in
theorem right_any (k : Ky) (w : World) :
    Calls Tryz.prog 65 #[kyV k] w fun e w' => e = .returned (.bool (rightK k)) ∧ Below w.heap.size w w' := by
  obtain ⟨db, ro, fm, no⟩ := k
  obtain ⟨R, hR⟩ : ∃ R, rightK (db, ro, fm, no) = R := ⟨_, rfl⟩
  have HR := Lib.hid hR
  rw [hR]
  clear hR
  obtain ⟨g0, hg0⟩ : ∃ g, w.heap.size = g := ⟨_, rfl⟩
  obtain ⟨W, hW⟩ : ∃ W, (w.alloc (.cells #[.string db, .string ro, .int .i64 fm, .string no] 32)).alloc (.cells #[.string db, .string ro, .string no] 9) = W := ⟨_, rfl⟩
  have hbW : Below w.heap.size w W := by rw [← hW]; exact ((Below.refl _ _).alloc (Nat.le_refl _) _).alloc (by simp) _
  have ka : Bk W g0 32 #[.string db, .string ro, .int .i64 fm, .string no] := by rw [← hW, ← hg0]; exact (Bk.new _ _ _).alloc _
  have kb : Bk W (g0 + 1) 9 #[.string db, .string ro, .string no] := by
    have := Bk.new (w.alloc (.cells #[.string db, .string ro, .int .i64 fm, .string no] 32)) 9 #[.string db, .string ro, .string no]
    rw [hW] at this
    simpa [← hg0] using this
  have a2 : W.cell? ⟨g0, 2, none⟩ = some (.int .i64 fm) := ka.cell 2
  have b0 : W.cell? ⟨g0 + 1, 0, none⟩ = some (.string db) := kb.cell 0
  have b1 : W.cell? ⟨g0 + 1, 1, none⟩ = some (.string ro) := kb.cell 1
  have b2 : W.cell? ⟨g0 + 1, 2, none⟩ = some (.string no) := kb.cell 2
  rw [hg0] at hbW
  have HBW := Lib.hid hbW
  clear hbW ka kb
  go_enter Tryz.func65, Tryz.ntmps65
  go_wp2
  try rw [hW, hg0]
  go_loopg [13] 3 (fun g u13 wx => ∃ i : Nat, u13 = .int .i64 (i : Int) ∧ i + g = 3 ∧ wx = W ∧ ∀ j, j < i → cln (prt db ro no j) = true)
  case atStart => exact ⟨0, rfl, by omega, by first | exact hW | rfl, fun j hj => by omega⟩
  case round =>
    obtain ⟨i, rfl, hi, rfl, hc⟩ := hrel
    cases gk with
    | zero =>
      have hi3 : i = 3 := by omega
      subst hi3
      have l1 : ¬ ((3 : Int) < 3) := by omega
      have c0 := hc 0 (by omega)
      have c1 := hc 1 (by omega)
      have c2 := hc 2 (by omega)
      have HC : Hid (R = (decide (fm = 0) || decide (fm = 1))) := Lib.hid (by
        rw [← HR.out]
        unfold rightK
        rw [show cln db = true from c0, show cln ro = true from c1, show cln no = true from c2]; simp)
      clear hc c0 c1 c2 hi
      by_cases f0 : fm = 0
      · subst f0
        go_wp2
        go_ret
        exact ⟨by rw [HC.out]; rfl, HBW.out⟩
      · have f1 : (fm == 0) = false := beq_eq_false_iff_ne.2 f0
        have HF0 := Lib.hid f0
        go_wp2
        go_ret
        exact ⟨by rw [HC.out, decide_eq_false HF0.out]; rfl, HBW.out⟩
    | succ g =>
      have hi3 : i < 3 := by omega
      obtain ⟨p, hp⟩ : ∃ p, prt db ro no i = p := ⟨_, rfl⟩
      have hx : wr.cell? ⟨g0 + 1, i, none⟩ = some (.string p) := by
        rw [← hp]
        unfold prt
        match i, hi3 with
        | 0, _ => exact b0
        | 1, _ => exact b1
        | 2, _ => exact b2
      have l0 : (0 : Int) ≤ (i : Int) := by omega
      have l1 : (i : Int) < 3 := by omega
      obtain ⟨i1, hi1⟩ : ∃ i1, i + 1 = i1 := ⟨_, rfl⟩
      have wk : IntKind.i64.wrap ((i : Int) + 1) = (i1 : Int) := by rw [show (i : Int) + 1 = (i1 : Int) by omega]; exact IntWalk.i64_in _ (by omega)
      have HI1 : Hid (i1 + g = 3 ∧ i1 = i + 1) := Lib.hid (by omega)
      have HC := Lib.hid hc
      have HP := Lib.hid hp
      cases hq : cln p with
      | true =>
        have HQ := Lib.hid hq
        clear hi hi1 hc hp hi3 hq
        go_wp2_with fail
        refine (sidx_cln HQ.out _).mono ?_
        rintro e w' ⟨rfl, rfl⟩
        go_wp2
        go_roundg g
        case measure => exact Nat.lt_succ_self _
        case rel => exact ⟨i1, rfl, HI1.out.1, rfl, fun j hj => by
          by_cases h : j < i
          · exact HC.out j h
          · have : j = i := by have := HI1.out.2; omega
            subst this
            rw [HP.out]; exact HQ.out⟩
      | false =>
        have HQ := Lib.hid hq
        have HF : Hid (R = false) := Lib.hid (by
          rw [← HR.out]
          unfold rightK
          unfold prt at hp
          have : cln db = false ∨ cln ro = false ∨ cln no = false := by
            match i, hi3, hp with
            | 0, _, h => exact .inl (by rw [show db = p from h]; exact hq)
            | 1, _, h => exact .inr (.inl (by rw [show ro = p from h]; exact hq))
            | 2, _, h => exact .inr (.inr (by rw [show no = p from h]; exact hq))
          rcases this with h | h | h <;> simp only [h] <;> simp)
        clear hi hi1 hc hp hi3 hq
        go_wp2_with fail
        refine (sidx_not HQ.out _).mono ?_
        rintro e w' ⟨⟨n, rfl⟩, rfl⟩
        have ln : (0 : Int) ≤ (n : Int) := by omega
        go_wp2
        go_ret
        exact ⟨by rw [HF.out]; rfl, by first | exact HBW.out | (rw [hg0]; exact HBW.out)⟩
set_option maxHeartbeats 2000000 in
theorem text_any (k : Ky) (hk : FitK k) (w : World) :
    Calls Tryz.prog 31 #[kyV k] w fun e w' => e = .returned (.string (txt k)) ∧ Below w.heap.size w w' := by
  obtain ⟨db, ro, fm, no⟩ := k
  obtain ⟨h1, h2, h3, h4⟩ := hk
  simp only at h1 h2 h3 h4
  obtain ⟨R, hR⟩ : ∃ R, txt (db, ro, fm, no) = R := ⟨_, rfl⟩
  rw [hR]
  have HR := Lib.hid hR
  obtain ⟨g0, hg0⟩ : ∃ g, w.heap.size = g := ⟨_, rfl⟩
  obtain ⟨W, hW⟩ : ∃ W, w.alloc (.cells #[.string db, .string ro, .int .i64 fm, .string no] 32) = W := ⟨_, rfl⟩
  have hbW : Below w.heap.size w W := by rw [← hW]; exact (Below.refl _ _).alloc (Nat.le_refl _) _
  have ka : Bk W g0 32 (kC (db, ro, fm, no)) := by rw [← hW, ← hg0]; exact Bk.new _ _ _
  have a0 : W.cell? ⟨g0, 0, none⟩ = some (.string db) := ka.cell 0
  have a1 : W.cell? ⟨g0, 1, none⟩ = some (.string ro) := ka.cell 1
  have a2 : W.cell? ⟨g0, 2, none⟩ = some (.int .i64 fm) := ka.cell 2
  have a3 : W.cell? ⟨g0, 3, none⟩ = some (.string no) := ka.cell 3
  have HBW := Lib.hid hbW
  have HKA := Lib.hid ka
  clear hbW ka hR
  have HH1 := Lib.hid h1
  have HH2 := Lib.hid h2
  have HH3 := Lib.hid h3
  clear h1 h2 h3 h4
  go_enter Tryz.func31, Tryz.ntmps31
  go_wp2_with fail
  try rw [hW, hg0]
  refine (right_any (db, ro, fm, no) W).mono ?_
  cases hr : rightK (db, ro, fm, no) with
  | false =>
    rintro e w1 ⟨rfl, hb1⟩
    have HT : Hid (R = ⟨#[]⟩) := Lib.hid (by rw [← HR.out]; exact txt_not hr)
    have HB1 := Lib.hid hb1
    clear hr hb1
    go_wp2
    go_ret
    exact ⟨by rw [HT.out]; rfl, HBW.out.trans (HB1.out.mono HBW.out.size)⟩
  | true =>
    rintro e w1 ⟨rfl, hb1⟩
    have HT : Hid (R = putText (put16 (putText (putText ⟨#[]⟩ db) ro) fm) no) := Lib.hid (by rw [← HR.out]; exact txt_right hr)
    have k1 := HKA.out.below hb1
    have HK := Lib.hid k1
    have HB := Lib.hid (HBW.out.trans (hb1.mono HBW.out.size))
    have c0 : w1.cell? ⟨g0, 0, none⟩ = some (.string db) := k1.cell 0
    have c1 : w1.cell? ⟨g0, 1, none⟩ = some (.string ro) := k1.cell 1
    have c2 : w1.cell? ⟨g0, 2, none⟩ = some (.int .i64 fm) := k1.cell 2
    have c3 : w1.cell? ⟨g0, 3, none⟩ = some (.string no) := k1.cell 3
    clear hr hb1 a0 a1 a2 a3 k1 HKA HBW
    obtain ⟨P1, hP1⟩ : ∃ P, putText ⟨#[]⟩ db = P := ⟨_, rfl⟩
    obtain ⟨P2, hP2⟩ : ∃ P, putText P1 ro = P := ⟨_, rfl⟩
    obtain ⟨P3, hP3⟩ : ∃ P, put16 P2 fm = P := ⟨_, rfl⟩
    have hs1 : P1.size ≤ 1099511627777 := by rw [← hP1]; refine Nat.le_trans (putText_le _ _) ?_; have := HH1.out; show 0 + _ + 1 ≤ _; omega
    have hs2 : P2.size ≤ 2199023255554 := by rw [← hP2]; refine Nat.le_trans (putText_le _ _) ?_; have := HH2.out; omega
    have hs3 : P3.size ≤ 2199023255556 := by rw [← hP3]; unfold put16; rw [ByteArray.size_append]; have z : (⟨#[byt (fm / 256), byt fm]⟩ : ByteArray).size = 2 := rfl; omega
    rw [hP1, hP2, hP3] at HT
    have HS1 := Lib.hid hs1
    have HS2 := Lib.hid hs2
    have HS3 := Lib.hid hs3
    have HP1 := Lib.hid hP1
    have HP2 := Lib.hid hP2
    have HP3 := Lib.hid hP3
    clear hs1 hs2 hs3 hP1 hP2 hP3
    go_wp2_with fail
    refine wp_region_held_drew (S := (fun w' => w'.cell? ⟨g0, 0, none⟩ = some (.string db) ∧ w'.cell? ⟨g0, 1, none⟩ = some (.string ro) ∧ w'.cell? ⟨g0, 2, none⟩ = some (.int .i64 fm) ∧ w'.cell? ⟨g0, 3, none⟩ = some (.string no))) (by kernel_rfl) ?_ (fun hS => ?_)
    · exact ⟨c0, c1, c2, c3⟩
    refine tkY 0 ?_ rfl hS ?_ ?_
    rotate_left
    · intro wz hz
      obtain ⟨z0, z1, z2, z3⟩ := hz
      go_simp
      all_goals first | with_reducible rfl | omega
    try simp only [Act.put, pu]
    refine tkY 1 ?_ rfl hS ?_ ?_
    rotate_left
    · intro wz hz
      obtain ⟨z0, z1, z2, z3⟩ := hz
      go_simp
      all_goals first | with_reducible rfl | omega
    try simp only [Act.put, pu]
    refine tkY 3 ?_ rfl hS ?_ ?_
    rotate_left
    · intro wz hz
      obtain ⟨z0, z1, z2, z3⟩ := hz
      go_simp
      all_goals first | with_reducible rfl | omega
    try simp only [Act.put, pu]
    refine tkY 4 ?_ rfl hS ?_ ?_
    rotate_left
    · intro wz hz
      obtain ⟨z0, z1, z2, z3⟩ := hz
      go_simp
      all_goals first | with_reducible rfl | omega
    try simp only [Act.put, pu]
    refine wpAnyH_ready (rs := [2]) (by kernel_rfl) (by simp) (AllReadyH.cons rfl (fun K' hK' => ?_) AllReadyH.nil)
    go_simp
    refine (putText_any ⟨#[]⟩ db _ (by decide) (by have := HH1.out; omega)).mono ?_
    rintro e w2 ⟨rfl, hb2⟩
    have hbd : Below w1.heap.size w1 w1.drew := (Below.refl _ _).drew
    have hb2 := hbd.trans (hb2.mono hbd.size)
    have k2 := HK.out.below hb2
    have HK := Lib.hid k2
    have HB := Lib.hid (HB.out.trans (hb2.mono HB.out.size))
    clear hb2
    refine hK'.out _ _ ?_ (fun hSn => ?_)
    · exact ⟨k2.cell 0, k2.cell 1, k2.cell 2, k2.cell 3⟩
    clear hK' K' hS
    have hS := hSn
    clear hSn
    try simp only [Act.put, pu]
    clear k2
    rw [HP1.out]
    refine wpAnyH_ready (rs := [5]) (by kernel_rfl) (by simp) (AllReadyH.cons rfl (fun K' hK' => ?_) AllReadyH.nil)
    go_simp
    refine (putText_any P1 ro _ (by have := HS1.out; omega) (by have := HH2.out; omega)).mono ?_
    rintro e w3 ⟨rfl, hb2⟩
    have k2 := HK.out.below hb2
    have HK := Lib.hid k2
    have HB := Lib.hid (HB.out.trans (hb2.mono HB.out.size))
    clear hb2
    refine hK'.out _ _ ?_ (fun hSn => ?_)
    · exact ⟨k2.cell 0, k2.cell 1, k2.cell 2, k2.cell 3⟩
    clear hK' K' hS
    have hS := hSn
    clear hSn
    try simp only [Act.put, pu]
    clear k2
    rw [HP2.out]
    refine tkY 6 ?_ rfl hS ?_ ?_
    rotate_left
    · intro wz hz
      obtain ⟨z0, z1, z2, z3⟩ := hz
      go_simp
      all_goals first | with_reducible rfl | omega
    try simp only [Act.put, pu]
    refine wpAnyH_done (by kernel_rfl) ?_ _
    clear hS
    have k2 := HK.out
    have c0 : w3.cell? ⟨g0, 0, none⟩ = some (.string db) := k2.cell 0
    have c1 : w3.cell? ⟨g0, 1, none⟩ = some (.string ro) := k2.cell 1
    have c2 : w3.cell? ⟨g0, 2, none⟩ = some (.int .i64 fm) := k2.cell 2
    have c3 : w3.cell? ⟨g0, 3, none⟩ = some (.string no) := k2.cell 3
    clear k2
    go_wp2_with fail
    refine wp_region_held_drew (S := (fun w' => w'.cell? ⟨g0, 0, none⟩ = some (.string db) ∧ w'.cell? ⟨g0, 1, none⟩ = some (.string ro) ∧ w'.cell? ⟨g0, 2, none⟩ = some (.int .i64 fm) ∧ w'.cell? ⟨g0, 3, none⟩ = some (.string no))) (by kernel_rfl) ?_ (fun hS => ?_)
    · exact ⟨c0, c1, c2, c3⟩
    refine tkY 0 ?_ rfl hS ?_ ?_
    rotate_left
    · intro wz hz
      obtain ⟨z0, z1, z2, z3⟩ := hz
      go_simp
      all_goals first | with_reducible rfl | omega
    try simp only [Act.put, pu]
    refine tkY 1 ?_ rfl hS ?_ ?_
    rotate_left
    · intro wz hz
      obtain ⟨z0, z1, z2, z3⟩ := hz
      go_simp
      all_goals first | with_reducible rfl | omega
    try simp only [Act.put, pu]
    refine tkY 2 ?_ rfl hS ?_ ?_
    rotate_left
    · intro wz hz
      obtain ⟨z0, z1, z2, z3⟩ := hz
      go_simp
      all_goals first | with_reducible rfl | omega
    try simp only [Act.put, pu]
    refine tkY 4 ?_ rfl hS ?_ ?_
    rotate_left
    · intro wz hz
      obtain ⟨z0, z1, z2, z3⟩ := hz
      go_simp
      all_goals first | with_reducible rfl | omega
    try simp only [Act.put, pu]
    refine tkY 5 ?_ rfl hS ?_ ?_
    rotate_left
    · intro wz hz
      obtain ⟨z0, z1, z2, z3⟩ := hz
      go_simp
      all_goals first | with_reducible rfl | omega
    try simp only [Act.put, pu]
    refine wpAnyH_ready (rs := [3]) (by kernel_rfl) (by simp) (AllReadyH.cons rfl (fun K' hK' => ?_) AllReadyH.nil)
    go_simp
    refine (put16_any P2 fm (by have := HS2.out; omega) _).mono ?_
    rintro e w4 ⟨rfl, hb2⟩
    have hbd : Below w3.heap.size w3 w3.drew := (Below.refl _ _).drew
    have hb2 := hbd.trans (hb2.mono hbd.size)
    have k2 := HK.out.below hb2
    have HK := Lib.hid k2
    have HB := Lib.hid (HB.out.trans (hb2.mono HB.out.size))
    clear hb2
    refine hK'.out _ _ ?_ (fun hSn => ?_)
    · exact ⟨k2.cell 0, k2.cell 1, k2.cell 2, k2.cell 3⟩
    clear hK' K' hS
    have hS := hSn
    clear hSn
    try simp only [Act.put, pu]
    clear k2
    rw [HP3.out]
    refine wpAnyH_ready (rs := [6]) (by kernel_rfl) (by simp) (AllReadyH.cons rfl (fun K' hK' => ?_) AllReadyH.nil)
    go_simp
    refine (putText_any P3 no _ (by have := HS3.out; omega) (by have := HH3.out; omega)).mono ?_
    rintro e w5 ⟨rfl, hb2⟩
    have k2 := HK.out.below hb2
    have HK := Lib.hid k2
    have HB := Lib.hid (HB.out.trans (hb2.mono HB.out.size))
    clear hb2
    refine hK'.out _ _ ?_ (fun hSn => ?_)
    · exact ⟨k2.cell 0, k2.cell 1, k2.cell 2, k2.cell 3⟩
    clear hK' K' hS
    have hS := hSn
    clear hSn
    try simp only [Act.put, pu]
    clear k2
    refine tkY 7 ?_ rfl hS ?_ ?_
    rotate_left
    · intro wz hz
      obtain ⟨z0, z1, z2, z3⟩ := hz
      go_simp
      all_goals first | with_reducible rfl | omega
    try simp only [Act.put, pu]
    refine wpAnyH_done (by kernel_rfl) ?_ _
    clear hS
    go_wp2
    go_ret
    exact ⟨by rw [HT.out]; rfl, HB.out⟩
end Go.Proofs.YtjngangojgjceaaGreat.CA
namespace Go.Proofs.YtjngangojgjceaaGreat.RW
open Go.ChangeShapes Go.WideShapes Go.ChangeAt Go.RowKit
set_option maxRecDepth 100000
set_option linter.unusedVariables false
set_option linter.unusedSimpArgs false

/-- rows, one behind the other -/
def fz (l : List (List Value)) : List Value := l.flatten
def Uni (z : Nat) (l : List (List Value)) : Prop := ∀ r ∈ l, r.length = z
theorem fz_append (a b : List (List Value)) : fz (a ++ b) = fz a ++ fz b := List.flatten_append
theorem Uni.cons {z : Nat} {r : List Value} {l : List (List Value)} (h : Uni z (r :: l)) : r.length = z ∧ Uni z l := ⟨h r (List.mem_cons_self ..), fun x hx => h x (List.mem_cons_of_mem _ hx)⟩
theorem Uni.take {z : Nat} {l : List (List Value)} (h : Uni z l) (i : Nat) : Uni z (l.take i) := fun r hr => h r (List.mem_of_mem_take hr)
theorem Uni.drop {z : Nat} {l : List (List Value)} (h : Uni z l) (i : Nat) : Uni z (l.drop i) := fun r hr => h r (List.mem_of_mem_drop hr)
theorem Uni.app {z : Nat} {a b : List (List Value)} (h : Uni z a) (k : Uni z b) : Uni z (a ++ b) := fun r hr => (List.mem_append.1 hr).elim (h r) (k r)
theorem Uni.rep {z k : Nat} {r : List Value} (h : r.length = z) : Uni z (List.replicate k r) := fun x hx => by rw [List.eq_of_mem_replicate hx]; exact h
theorem fz_len {z : Nat} : ∀ {l : List (List Value)}, Uni z l → (fz l).length = l.length * z
  | [], _ => by simp [fz]
  | r :: l, h => by
    have ih := fz_len (l := l) h.cons.2
    have h1 := h.cons.1
    rw [show fz (r :: l) = r ++ fz l from rfl, List.length_append, ih, List.length_cons, h1, Nat.add_mul]; omega
theorem fz_take {z : Nat} : ∀ {l : List (List Value)}, Uni z l → ∀ i, fz (l.take i) = (fz l).take (i * z)
  | l, _, 0 => by simp [fz]
  | [], _, i + 1 => by simp [fz]
  | r :: l, h, i + 1 => by
    have h1 := h.cons.1
    rw [List.take_succ_cons, show fz (r :: l.take i) = r ++ fz (l.take i) from rfl, show fz (r :: l) = r ++ fz l from rfl, fz_take h.cons.2 i, List.take_append, List.take_of_length_le (l := r) (by rw [h1, Nat.add_mul]; omega)]
    congr 2
    rw [h1, Nat.add_mul]; omega
theorem fz_drop {z : Nat} : ∀ {l : List (List Value)}, Uni z l → ∀ i, fz (l.drop i) = (fz l).drop (i * z)
  | l, _, 0 => by simp
  | [], _, i + 1 => by simp [fz]
  | r :: l, h, i + 1 => by
    have h1 := h.cons.1
    rw [List.drop_succ_cons, show fz (r :: l) = r ++ fz l from rfl, fz_drop h.cons.2 i, List.drop_append, List.drop_of_length_le (l := r) (by rw [h1, Nat.add_mul]; omega), List.nil_append]
    congr 1
    rw [h1, Nat.add_mul]; omega
theorem fz_at {z : Nat} {l : List (List Value)} (h : Uni z l) {i : Nat} {r : List Value} (hi : l[i]? = some r) (j : Nat) (hj : j < z) : (fz l)[i * z + j]? = r[j]? := by
  have h0 := (List.getElem?_eq_some_iff.1 hi).1
  have e1 := fz_drop h i
  rw [List.drop_eq_getElem_cons h0] at e1
  have e2 : l[i] = r := by rw [List.getElem?_eq_getElem h0] at hi; injection hi
  rw [e2] at e1
  have hr : r.length = z := h r (List.mem_of_getElem? hi)
  have e3 := congrArg (fun q => q[j]?) e1
  simp only [List.getElem?_drop] at e3
  rw [← e3, show fz (r :: l.drop (i + 1)) = r ++ fz (l.drop (i + 1)) from rfl, List.getElem?_append_left (by omega)]
theorem fz_all {q : Value → Prop} {l : List (List Value)} (h : ∀ r ∈ l, ∀ v ∈ r, q v) : ∀ v ∈ fz l, q v := fun v hv => by
  obtain ⟨r, hr, hv⟩ := List.mem_flatten.1 hv
  exact h r hr v hv
theorem fz_rep (cs : List Value) (k : Nat) : ∀ j, j < k * cs.length → (fz (List.replicate k cs))[j]? = cs[j % cs.length]? := by
  intro j hj
  have hz : 0 < cs.length := by
    rcases Nat.eq_zero_or_pos cs.length with h | h
    · rw [h, Nat.mul_zero] at hj; omega
    · exact h
  have h1 : j / cs.length < k := Nat.div_lt_of_lt_mul (by rw [Nat.mul_comm]; exact hj)
  have := fz_at (z := cs.length) (l := List.replicate k cs) (Uni.rep rfl) (i := j / cs.length) (r := cs) (by rw [List.getElem?_replicate, if_pos h1]) (j % cs.length) (Nat.mod_lt _ hz)
  rwa [show j / cs.length * cs.length + j % cs.length = j from Nat.div_add_mod' ..] at this
theorem zero_fz (cs : Array Value) (k : Nat) : (Builtin.zeroCells cs k).toList = fz (List.replicate k cs.toList) := by
  apply List.ext_getElem?
  intro j
  by_cases hj : j < k * cs.size
  · have hz : 0 < cs.size := by
      rcases Nat.eq_zero_or_pos cs.size with h | h
      · rw [h, Nat.mul_zero] at hj; omega
      · exact h
    have h2 := Nat.mod_lt j hz
    rw [fz_rep cs.toList k j (by simpa using hj)]
    simp [Builtin.zeroCells, hj, h2]
  · have e2 : (fz (List.replicate k cs.toList))[j]? = none := by
      rw [List.getElem?_eq_none_iff, fz_len (z := cs.size) (Uni.rep (by simp)), List.length_replicate]; omega
    rw [e2]
    simp [Builtin.zeroCells]; omega
theorem take_splice {α : Type} (L : List α) (o N : Nat) (cs : List α) (h1 : o + cs.length ≤ N) (h2 : N ≤ L.length) : (L.take o ++ cs ++ L.drop (o + cs.length)).take N = splice (L.take N) o cs := by
  unfold splice
  apply List.ext_getElem?
  intro j
  rw [List.getElem?_take]
  have hlo : (L.take o).length = o := by rw [List.length_take]; omega
  have hlo2 : ((L.take N).take o).length = o := by rw [List.length_take, List.length_take]; omega
  by_cases hj : j < N
  · rw [if_pos hj, List.append_assoc, List.getElem?_append (l₁ := L.take o), List.getElem?_append (l₁ := (L.take N).take o), hlo, hlo2]
    by_cases h3 : j < o
    · rw [if_pos h3, if_pos h3, List.getElem?_take, if_pos h3, List.getElem?_take, if_pos h3, List.getElem?_take, if_pos hj]
    · rw [if_neg h3, if_neg h3, List.getElem?_append, List.getElem?_append]
      by_cases h4 : j - o < cs.length
      · rw [if_pos h4, if_pos h4]
      · rw [if_neg h4, if_neg h4, List.getElem?_drop, List.getElem?_drop, List.getElem?_take, if_pos (by omega)]
  · rw [if_neg hj]
    symm
    rw [List.getElem?_eq_none_iff, List.length_append, List.length_append, hlo2, List.length_drop, List.length_take]; omega
section
variable {P : Program} {w : World} {B g n cap z : Nat} {e : TypeId} {xs : List Value}
/-- cells stored into a row that the call owns -/
theorem run_store_own (h : w.ownsRow B e z (.slice (some ⟨g, 0, none⟩) n cap) n xs) (o : Nat) (cs : List Value) (hfit : o + cs.length ≤ n * z) (h1 : ∀ v ∈ cs, v.oneCell' = true) :
    ∃ w', (storeCells ⟨g, o, none⟩ cs).run P w = .ok () w' ∧ w'.ownsRow B e z (.slice (some ⟨g, 0, none⟩) n cap) n (splice xs o cs) ∧ w.grownBy w' (some g) := by
  rcases h.2 with ⟨h', _⟩ | ⟨g', cap', cur, h', hb, hg, hnc, hcm, hcs, htake⟩
  · simp at h'
  · simp only [Value.slice.injEq, Option.some.injEq, Addr.mk.injEq, and_true, true_and] at h'
    obtain ⟨rfl, rfl⟩ := h'
    have hN : n * z ≤ cur.toList.length := by rw [Array.length_toList, hcs]; exact Nat.mul_le_mul_right _ hnc
    have hst := run_storeCells_at P g o e cs 0 cur w hg (by rw [Array.length_toList] at hN; omega) h1
    simp only [Nat.add_zero] at hst
    have hl : (splice xs o cs).length = n * z := by rw [length_splice _ _ _ (by rw [h.1]; exact hfit), h.1]
    refine ⟨_, hst, ⟨hl, .inr ⟨g, cap, _, rfl, hb, setRow_heap w g cur _ e _ hg, hnc, hcm, ?_, ?_⟩⟩, ⟨rfl, rfl, rfl, by simp, fun k _ hk => setRow_other w g k _ (fun e => hk (by simp [e]))⟩⟩
    · simp only [List.size_toArray, List.length_append, List.length_take, List.length_drop, Array.length_toList]
      rw [Array.length_toList] at hN
      omega
    · rw [show (cur.toList.take o ++ cs ++ cur.toList.drop (o + cs.length)).toArray.toList = cur.toList.take o ++ cs ++ cur.toList.drop (o + cs.length) from rfl, take_splice _ _ _ _ hfit hN, htake]
/-- a shorter slice of the same row -/
theorem own_cut (h : w.ownsRow B e z (.slice (some ⟨g, 0, none⟩) n cap) n xs) (k : Nat) (hk : k ≤ n) : w.ownsRow B e z (.slice (some ⟨g, 0, none⟩) k cap) k (xs.take (k * z)) := by
  rcases h.2 with ⟨h', _⟩ | ⟨g', cap', cur, h', hb, hg, hnc, hcm, hcs, htake⟩
  · simp at h'
  · simp only [Value.slice.injEq, Option.some.injEq, Addr.mk.injEq, and_true, true_and] at h'
    obtain ⟨rfl, rfl⟩ := h'
    have hkz : k * z ≤ n * z := Nat.mul_le_mul_right _ hk
    refine ⟨by rw [List.length_take, h.1]; omega, .inr ⟨g, cap, cur, rfl, hb, hg, by omega, hcm, hcs, ?_⟩⟩
    rw [← htake, List.take_take]
    congr 1; omega
theorem run_clear (t ty : TypeId) (i : TypeInfo) (zc : Array Value) (ht : P.underlying t = some (.slice e)) (hi : P.info? e = some i) (hz : i.zero = some (.agg zc)) (hzs : zc.size = z) (h1 : ∀ v ∈ zc.toList, v.oneCell' = true)
    (h : w.ownsRow B e z (.slice (some ⟨g, 0, none⟩) n cap) n xs) (k c : Nat) (hk : k < n) :
    ∃ w', (Builtin.clear_ #[t] ty #[.slice (some ⟨g, k * z, none⟩) (n - k) c]).run P w = .ok (.tuple #[]) w' ∧ w'.ownsRow B e z (.slice (some ⟨g, 0, none⟩) n cap) n (splice xs (k * z) (fz (List.replicate (n - k) zc.toList))) ∧ w.grownBy w' (some g) := by
  have hone : ∀ v ∈ fz (List.replicate (n - k) zc.toList), v.oneCell' = true := fz_all fun r hr => by
    rw [List.eq_of_mem_replicate hr]; exact h1
  obtain ⟨w', hs, ho, hg⟩ := run_store_own (P := P) h (k * z) (fz (List.replicate (n - k) zc.toList)) (by rw [fz_len (z := z) (Uni.rep (by simpa using hzs)), List.length_replicate, ← Nat.add_mul]; exact Nat.mul_le_mul_right _ (by omega)) hone
  refine ⟨w', ?_, ho, hg⟩
  obtain ⟨m, hm⟩ : ∃ m, n - k = m + 1 := ⟨n - k - 1, by omega⟩
  rw [hm] at hs ⊢
  have hzc2 : (Builtin.zeroCells (Value.agg zc).cells (m + 1)).toList = fz (List.replicate (m + 1) zc.toList) := zero_fz zc (m + 1)
  simp [Builtin.clear_, run_underlying ht, zeroValue, typeInfo, hi, hz, hzc2, hs]
theorem wpList_clear {ops : Array Oper} {rest : List Oper} {o : Oper} {x : Act} {Q : Exit → Act → World → Prop} (hgd : o.guard = none) (s : Operand) (t : TypeId)
    (ho : o.op = .call { callee := .builtin .clear, args := #[s], argTypes := #[t] }) (i : TypeInfo) (zc : Array Value) (ht : P.underlying t = some (.slice e)) (hi : P.info? e = some i) (hz : i.zero = some (.agg zc)) (hzs : zc.size = z) (h1 : ∀ v ∈ zc.toList, v.oneCell' = true)
    (k c : Nat) (hs : x.eval s = .slice (some ⟨g, k * z, none⟩) (n - k) c) (h : w.ownsRow B e z (.slice (some ⟨g, 0, none⟩) n cap) n xs) (hk : k < n)
    (hq : ∀ w', w'.ownsRow B e z (.slice (some ⟨g, 0, none⟩) n cap) n (splice xs (k * z) (fz (List.replicate (n - k) zc.toList))) → w.grownBy w' (some g) → wpList P ops Q rest (x.put o.dst (.tuple #[])) w') : wpList P ops Q (o :: rest) x w := by
  refine wpList_plain hgd fun K hK => ?_
  obtain ⟨w', hr, h3, h4⟩ := run_clear (P := P) t o.type i zc ht hi hz hzs h1 h k c hk
  unfold Oper.wp
  simp [execOp, ho, resolve, invoke, builtin, hs, hr, Result.andThen]
  exact hK _ _ (hq w' h3 h4)
/-- more of the same row -/
theorem own_more (h : w.ownsRow B e z (.slice (some ⟨g, 0, none⟩) n cap) n xs) (k : Nat) (hn : n ≤ k) (hk : k ≤ cap) : ∃ ys, ys.length = (k - n) * z ∧ w.ownsRow B e z (.slice (some ⟨g, 0, none⟩) k cap) k (xs ++ ys) := by
  rcases h.2 with ⟨h', _⟩ | ⟨g', cap', cur, h', hb, hg, hnc, hcm, hcs, htake⟩
  · simp at h'
  · simp only [Value.slice.injEq, Option.some.injEq, Addr.mk.injEq, and_true, true_and] at h'
    obtain ⟨rfl, rfl⟩ := h'
    have hkz : k * z ≤ cap * z := Nat.mul_le_mul_right _ hk
    have hnz : n * z ≤ k * z := Nat.mul_le_mul_right _ hn
    have hl : cur.toList.length = cap * z := by simpa using hcs
    refine ⟨(cur.toList.take (k * z)).drop (n * z), by rw [List.length_drop, List.length_take, hl, Nat.sub_mul]; omega, ?_, .inr ⟨g, cap, cur, rfl, hb, hg, by omega, hcm, hcs, ?_⟩⟩
    · rw [List.length_append, List.length_drop, List.length_take, hl, h.1]; omega
    · rw [← htake, ← show (cur.toList.take (k * z)).take (n * z) = cur.toList.take (n * z) by rw [List.take_take]; congr 1; omega, List.take_append_drop]
theorem run_copy2 (dT sT ty : TypeId) (i : TypeInfo) (ht : P.underlying dT = some (.slice e)) (hi : P.info? e = some i) (hsz : i.size = z)
    (h : w.ownsRow B e z (.slice (some ⟨g, 0, none⟩) n cap) n xs) (o dLen dCap : Nat) (sp : Option Addr) (sLen sCap : Nat) (cs : List Value) (hl : cs.length = Nat.min sLen dLen * z)
    (hsrc : 0 < Nat.min sLen dLen → ∃ ad, sp = some ad ∧ ∀ j v, cs[j]? = some v → w.cell? (ad.add j) = some v) (hfit : o + cs.length ≤ n * z) (h1 : ∀ v ∈ cs, v.oneCell' = true) :
    ∃ w', (Builtin.copy_ #[dT, sT] ty #[.slice (some ⟨g, o, none⟩) dLen dCap, .slice sp sLen sCap]).run P w = .ok (goInt (Nat.min sLen dLen)) w' ∧ w'.ownsRow B e z (.slice (some ⟨g, 0, none⟩) n cap) n (splice xs o cs) ∧ w.grownBy w' (some g) := by
  obtain ⟨w', hs, ho, hg⟩ := run_store_own (P := P) h o cs hfit h1
  refine ⟨w', ?_, ho, hg⟩
  have hf : (Builtin.firstCells z (Nat.min sLen dLen) (.slice sp sLen sCap)).run P w = .ok cs.toArray w := by
    by_cases h0 : 0 < Nat.min sLen dLen
    · obtain ⟨ad, rfl, hc⟩ := hsrc h0
      exact run_firstCells_some w z _ ad sLen sCap cs hl hc
    · have e0 : Nat.min sLen dLen = 0 := by omega
      rw [e0, Nat.zero_mul] at hl
      have : cs = [] := List.eq_nil_of_length_eq_zero hl
      subst this
      rw [e0]
      cases sp with
      | none => exact run_firstCells_none w z 0 sLen sCap
      | some ad => exact run_firstCells_some w z 0 ad sLen sCap [] (by simp) (fun j v hj => by simp at hj)
  subst hsz
  simp [Builtin.copy_, run_underlying ht, Builtin.lenOf, sizeOf, typeInfo, hi, hf, hs]
theorem wpList_copy2 {ops : Array Oper} {rest : List Oper} {o : Oper} {a : Act} {Q : Exit → Act → World → Prop} (hgd : o.guard = none) (d s : Operand) (dT sT : TypeId)
    (ho : o.op = .call { callee := .builtin .copy, args := #[d, s], argTypes := #[dT, sT] }) (i : TypeInfo) (ht : P.underlying dT = some (.slice e)) (hi : P.info? e = some i) (hsz : i.size = z)
    (off dLen dCap : Nat) (sp : Option Addr) (sLen sCap : Nat) (hd : a.eval d = .slice (some ⟨g, off, none⟩) dLen dCap) (hs : a.eval s = .slice sp sLen sCap)
    (h : w.ownsRow B e z (.slice (some ⟨g, 0, none⟩) n cap) n xs) (cs : List Value) (hl : cs.length = Nat.min sLen dLen * z)
    (hsrc : 0 < Nat.min sLen dLen → ∃ ad, sp = some ad ∧ ∀ j v, cs[j]? = some v → w.cell? (ad.add j) = some v) (hfit : off + cs.length ≤ n * z) (h1 : ∀ v ∈ cs, v.oneCell' = true)
    (hk : ∀ w', w'.ownsRow B e z (.slice (some ⟨g, 0, none⟩) n cap) n (splice xs off cs) → w.grownBy w' (some g) → wpList P ops Q rest (a.put o.dst (goInt (Nat.min sLen dLen))) w') : wpList P ops Q (o :: rest) a w := by
  refine wpList_plain hgd fun K hK => ?_
  obtain ⟨w', hr, h2, h3⟩ := run_copy2 (P := P) dT sT o.type i ht hi hsz h off dLen dCap sp sLen sCap cs hl hsrc hfit h1
  unfold Oper.wp
  simp [execOp, ho, resolve, invoke, builtin, hd, hs, hr, Result.andThen]
  exact hK _ _ (hk w' h2 h3)
theorem step_copy2 {ops : Array Oper} {o : Oper} {a : Act} {K : Act → World → Prop} {Q : Exit → Act → World → Prop} {E : Prop} (hgd : o.guard = none) (d s : Operand) (dT sT : TypeId)
    (ho : o.op = .call { callee := .builtin .copy, args := #[d, s], argTypes := #[dT, sT] }) (i : TypeInfo) (ht : P.underlying dT = some (.slice e)) (hi : P.info? e = some i) (hsz : i.size = z)
    (off dLen dCap : Nat) (sp : Option Addr) (sLen sCap : Nat) (hd : a.eval d = .slice (some ⟨g, off, none⟩) dLen dCap) (hs : a.eval s = .slice sp sLen sCap)
    (h : w.ownsRow B e z (.slice (some ⟨g, 0, none⟩) n cap) n xs) (cs : List Value) (hl : cs.length = Nat.min sLen dLen * z)
    (hsrc : 0 < Nat.min sLen dLen → ∃ ad, sp = some ad ∧ ∀ j v, cs[j]? = some v → w.cell? (ad.add j) = some v) (hfit : off + cs.length ≤ n * z) (h1 : ∀ v ∈ cs, v.oneCell' = true)
    (hk : ∀ w', w'.ownsRow B e z (.slice (some ⟨g, 0, none⟩) n cap) n (splice xs off cs) → w.grownBy w' (some g) → K (a.put o.dst (goInt (Nat.min sLen dLen))) w') :
    if Region.wanted o (yielded ops a.tmps) = true then Oper.wp P o a w K Q else E := by
  have hw : Region.wanted o (yielded ops a.tmps) = true := by simp [Region.wanted, hgd]
  rw [if_pos hw]
  obtain ⟨w', hr, h2, h3⟩ := run_copy2 (P := P) dT sT o.type i ht hi hsz h off dLen dCap sp sLen sCap cs hl hsrc hfit h1
  unfold Oper.wp
  simp [execOp, ho, resolve, invoke, builtin, hd, hs, hr, Result.andThen]
  exact hk w' h2 h3
/-- append(s[:i], make(S, k)...) where there is no room: a new row -/
theorem run_app_zeros (t tn ty : TypeId) (i : TypeInfo) (zc : Array Value) (bytes : Nat) (kq kn : IntKind) (ht : P.underlying t = some (.slice e)) (htn : P.underlying tn = some (.int kn)) (hi : P.info? e = some i) (hz : i.zero = some (.agg zc)) (hzs : zc.size = z) (hz0 : 0 < z) (hsz : i.size = z) (hby : i.bytes = bytes)
    (base : Option Addr) (m sCap : Nat) (olds : List Value) (hol : olds.length = m * z) (hold : 0 < m → ∃ ad, base = some ad ∧ ∀ j v, olds[j]? = some v → w.cell? (ad.add j) = some v)
    (k : Nat) (h0 : 0 < k) (hg : sCap < m + k) (hb : B ≤ w.heap.size) (h48 : (m + k) * bytes ≤ 140737488355328) (h63 : m + k ≤ maxLen) :
    ∃ c w', (Builtin.append_ #[t, tn] ty #[.slice base m sCap, .int kq k]).run P w = .ok (.slice (some ⟨w.heap.size, 0, none⟩) (m + k) c) w' ∧
      w'.ownsRow B e z (.slice (some ⟨w.heap.size, 0, none⟩) (m + k) c) (m + k) (olds ++ fz (List.replicate k zc.toList)) ∧ w.grownBy w' none := by
  have hf : (Builtin.firstCells i.size m (.slice base m sCap)).run P w.drew = .ok olds.toArray w.drew := by
    rw [hsz]
    by_cases hm : 0 < m
    · obtain ⟨ad, rfl, hc⟩ := hold hm
      exact run_firstCells_some w.drew z m ad m sCap olds hol hc
    · have : m = 0 := by omega
      subst this
      have : olds = [] := List.eq_nil_of_length_eq_zero (by simpa using hol)
      subst this
      cases base with
      | none => exact run_firstCells_none w.drew z 0 0 sCap
      | some ad => exact run_firstCells_some w.drew z 0 ad 0 sCap [] (by simp) (fun j v hj => by simp at hj)
  have hmk : k * bytes ≤ (m + k) * bytes := Nat.mul_le_mul_right _ (by omega)
  have hr := Lib.run_append_grow_zeros w t tn ty e i (.agg zc) kq kn ht htn hi hz base m sCap olds hf k h0 (by omega) hg (by unfold maxLen at h63; omega) (by rw [hby]; omega) (by rw [hby]; exact growslice_fits hg h48)
  refine ⟨_, _, hr, ?_, ?_⟩
  · have e1 : (Value.agg zc).cells = zc := rfl
    rw [e1]
    have hcl : m + k ≤ grownCap w (m + k) sCap e := grownCap_ge w _ _ _
    have hs2 : ∀ q, (Builtin.zeroCells zc q).size = q * z := fun q => by rw [size_zeroCells, hzs]
    have hfl : (fz (List.replicate k zc.toList)).length = k * z := by rw [fz_len (z := z) (Uni.rep (by simpa using hzs)), List.length_replicate]
    refine ⟨by rw [List.length_append, hol, hfl, Nat.add_mul], .inr ⟨w.heap.size, _, (olds.toArray ++ Builtin.zeroCells zc k ++ Builtin.zeroCells zc (grownCap w (m + k) sCap e - (m + k))), rfl, hb, ?_, hcl, grownCap_le_maxLen w _ _ _ h63, ?_, ?_⟩⟩
    · exact heap_alloc_new w.drew _
    · rw [Array.size_append, Array.size_append, hs2, hs2, List.size_toArray, hol, ← Nat.add_mul, ← Nat.add_mul]; congr 1; omega
    · rw [Array.toList_append, Array.toList_append, zero_fz, List.take_append_of_le_length (by rw [List.length_append, hfl, hol, Nat.add_mul]; omega), List.take_of_length_le (by rw [List.length_append, hfl, hol, Nat.add_mul]; omega)]
  · have G := World.grownBy_alloc w.drew (.cells (olds.toArray ++ Builtin.zeroCells (Value.agg zc).cells k ++ Builtin.zeroCells (Value.agg zc).cells (grownCap w (m + k) sCap e - (m + k))) e) none
    exact ⟨G.os, G.tape, G.output, G.size, fun j hj hn => G.block j hj hn⟩
end
end Go.Proofs.YtjngangojgjceaaGreat.RW
namespace Go.Proofs.YtjngangojgjceaaGreat.EX
open Go.ChangeShapes Go.WideShapes Go.ChangeAt Go.RowKit
set_option maxRecDepth 100000
set_option linter.unusedVariables false
set_option linter.unusedSimpArgs false

/-- an entry: its key, its deadline, which set it was -/
abbrev Et : Type := ByteArray × Int × Int
/-- an item: a key, its deadline -/
abbrev It : Type := ByteArray × Int
def it (e : Et) : It := (e.1, e.2.1)
def dropL (k : ByteArray) (L : List Et) : List Et := L.filter fun e => decide (e.1 ≠ k)
def dropI (k : ByteArray) (l : List It) : List It := l.filter fun e => decide (e.1 ≠ k)
def leL (t : Int) (L : List Et) : List Et := L.filter fun e => !decide (t < e.2.1)
def gtL (t : Int) (L : List Et) : List Et := L.filter fun e => decide (t < e.2.1)
def leI (t : Int) (l : List It) : List It := l.filter fun e => !decide (t < e.2)
def gtI (t : Int) (l : List It) : List It := l.filter fun e => decide (t < e.2)
def setL (k : ByteArray) (t n : Int) (L : List Et) : List Et := leL t (dropL k L) ++ (k, t, n) :: gtL t (dropL k L)
def setI (k : ByteArray) (t : Int) (l : List It) : List It := leI t (dropI k l) ++ (k, t) :: gtI t (dropI k l)
def atI (k : ByteArray) (l : List It) : Option Int := (l.find? fun e => decide (e.1 = k)).map (·.2)
def keysI (l : List It) : List ByteArray := l.map (·.1)
theorem it_dropL (k : ByteArray) (L : List Et) : (dropL k L).map it = dropI k (L.map it) := by unfold dropL dropI; rw [List.filter_map]; rfl
theorem it_leL (t : Int) (L : List Et) : (leL t L).map it = leI t (L.map it) := by unfold leL leI; rw [List.filter_map]; rfl
theorem it_gtL (t : Int) (L : List Et) : (gtL t L).map it = gtI t (L.map it) := by unfold gtL gtI; rw [List.filter_map]; rfl
theorem it_setL (k : ByteArray) (t n : Int) (L : List Et) : (setL k t n L).map it = setI k t (L.map it) := by
  unfold setL setI
  rw [List.map_append, List.map_cons, it_leL, it_gtL, it_dropL]; rfl
def ltE (a b : Et) : Prop := a.2.1 < b.2.1 ∨ a.2.1 = b.2.1 ∧ a.2.2 < b.2.2
/-- entries in their order, each key once -/
structure Srt (n : Int) (L : List Et) : Prop where
  ord : L.Pairwise ltE
  uq : (L.map (·.1)).Nodup
  cnt : ∀ e ∈ L, e.2.2 ≤ n
theorem Srt.nil (n : Int) : Srt n [] := ⟨List.Pairwise.nil, List.nodup_nil, fun e he => by simp at he⟩
theorem Srt.sub {n : Int} {L M : List Et} (h : Srt n L) (hs : M.Sublist L) : Srt n M := ⟨h.ord.sublist hs, h.uq.sublist (hs.map _), fun e he => h.cnt e (hs.subset he)⟩
theorem Srt.mono {n m : Int} {L : List Et} (h : Srt n L) (hn : n ≤ m) : Srt m L := ⟨h.ord, h.uq, fun e he => by have := h.cnt e he; omega⟩
theorem Srt.drop {n : Int} {L : List Et} (h : Srt n L) (k : ByteArray) : Srt n (dropL k L) := h.sub List.filter_sublist
theorem Srt.gt {n : Int} {L : List Et} (h : Srt n L) (t : Int) : Srt n (gtL t L) := h.sub List.filter_sublist
/-- where a test that stays true begins to hold: the list is cut there -/
theorem cut_filter {α : Type} (q : α → Bool) : ∀ (L : List α) (c : Nat), c ≤ L.length → (∀ i x, i < c → L[i]? = some x → q x = false) → (∀ i x, c ≤ i → L[i]? = some x → q x = true) →
    L.take c = L.filter (fun x => !q x) ∧ L.drop c = L.filter q
  | [], c, _, _, _ => by simp
  | x :: L, 0, _, _, h2 => by
    have hq : ∀ y ∈ x :: L, q y = true := fun y hy => by
      obtain ⟨i, hi⟩ := List.mem_iff_getElem?.1 hy
      exact h2 i y (Nat.zero_le _) hi
    refine ⟨?_, ?_⟩
    · rw [List.take_zero]; symm; rw [List.filter_eq_nil_iff]; intro y hy; rw [hq y hy]; simp
    · rw [List.drop_zero]; symm; rw [List.filter_eq_self]; exact hq
  | x :: L, c + 1, hc, h1, h2 => by
    have hx := h1 0 x (Nat.succ_pos _) rfl
    obtain ⟨a, b⟩ := cut_filter q L c (by simpa using hc) (fun i y hi hy => h1 (i + 1) y (by omega) (by simpa using hy)) (fun i y hi hy => h2 (i + 1) y (by omega) (by simpa using hy))
    rw [List.take_succ_cons, List.drop_succ_cons, a, b]
    simp [List.filter_cons, hx]
theorem Srt.split {n : Int} {L : List Et} (h : Srt n L) (t : Int) : L = leL t L ++ gtL t L := by
  have key : ∀ L : List Et, L.Pairwise ltE → L = leL t L ++ gtL t L := by
    intro L
    induction L with
    | nil => intro _; rfl
    | cons x L ih =>
      intro hp
      obtain ⟨h1, h2⟩ := List.pairwise_cons.1 hp
      unfold leL gtL at ih ⊢
      by_cases hx : t < x.2.1
      · have hall : ∀ y ∈ L, decide (t < y.2.1) = true := fun y hy => decide_eq_true (by rcases h1 y hy with e | e <;> omega)
        have e1 : L.filter (fun e => !decide (t < e.2.1)) = [] := by rw [List.filter_eq_nil_iff]; intro y hy; rw [hall y hy]; simp
        have e2 : L.filter (fun e => decide (t < e.2.1)) = L := by rw [List.filter_eq_self]; exact hall
        rw [List.filter_cons, List.filter_cons, if_neg (by simp [hx]), if_pos (by simp [hx]), e1, e2]; rfl
      · rw [List.filter_cons, List.filter_cons, if_pos (by simp [hx]), if_neg (by simp [hx])]
        exact congrArg (x :: ·) (ih h2)
  exact key L h.ord
theorem nodup_mid {α : Type} {A B : List α} {k : α} : (A ++ k :: B).Nodup ↔ (k :: (A ++ B)).Nodup := List.Perm.nodup_iff List.perm_middle
theorem Srt.setL {n : Int} {L : List Et} (h : Srt n L) (k : ByteArray) (t : Int) : Srt (n + 1) (setL k t (n + 1) L) := by
  have hd := h.drop k
  have hl : Srt n (leL t (dropL k L)) := hd.sub List.filter_sublist
  have hg : Srt n (gtL t (dropL k L)) := hd.sub List.filter_sublist
  have ml : ∀ a ∈ leL t (dropL k L), a.2.1 ≤ t ∧ a.2.2 ≤ n ∧ a.1 ≠ k := fun a ha => by
    have := (List.mem_filter.1 ha).2
    have h2 := (List.mem_filter.1 (List.mem_filter.1 ha).1).2
    exact ⟨by simpa using this, hl.cnt a ha, by simpa using h2⟩
  have mg : ∀ a ∈ gtL t (dropL k L), t < a.2.1 ∧ a.1 ≠ k := fun a ha => by
    have := (List.mem_filter.1 ha).2
    have h2 := (List.mem_filter.1 (List.mem_filter.1 ha).1).2
    exact ⟨by simpa using this, by simpa using h2⟩
  refine ⟨?_, ?_, ?_⟩
  · unfold EX.setL
    refine List.pairwise_append.2 ⟨hl.ord, List.pairwise_cons.2 ⟨fun b hb => .inl (mg b hb).1, hg.ord⟩, fun a ha b hb => ?_⟩
    have h1 := ml a ha
    rcases List.mem_cons.1 hb with rfl | hb
    · by_cases e : a.2.1 = t
      · exact .inr ⟨e, by show a.2.2 < n + 1; omega⟩
      · exact .inl (by show a.2.1 < t; omega)
    · exact .inl (by have := (mg b hb).1; omega)
  · unfold EX.setL
    have h3 := hd.uq
    rw [hd.split t, List.map_append] at h3
    rw [List.map_append, List.map_cons]
    refine nodup_mid.2 (List.nodup_cons.2 ⟨fun hm => ?_, h3⟩)
    rcases List.mem_append.1 hm with hm | hm
    · obtain ⟨y, hy, e⟩ := List.mem_map.1 hm; exact (ml y hy).2.2 e
    · obtain ⟨y, hy, e⟩ := List.mem_map.1 hm; exact (mg y hy).2 e
  · intro e he
    unfold EX.setL at he
    rcases List.mem_append.1 he with he | he
    · have := (ml e he).2.1; omega
    · rcases List.mem_cons.1 he with rfl | he
      · exact Int.le_refl _
      · have := hg.cnt e he; omega
/-- taking out an entry that is there -/
theorem Srt.out {n : Int} {A B : List Et} {x : Et} (h : Srt n (A ++ x :: B)) : dropL x.1 (A ++ x :: B) = A ++ B ∧ (∀ a ∈ A, ltE a x) ∧ (∀ b ∈ B, ltE x b) := by
  have h2 := h.uq
  rw [List.map_append, List.map_cons] at h2
  have h3 := nodup_mid.1 h2
  have hn := (List.nodup_cons.1 h3).1
  obtain ⟨o1, o2, o3⟩ := List.pairwise_append.1 h.ord
  refine ⟨?_, fun a ha => o3 a ha x (List.mem_cons_self ..), (List.pairwise_cons.1 o2).1⟩
  unfold dropL
  rw [List.filter_append, List.filter_cons, if_neg (by simp)]
  congr 1
  · rw [List.filter_eq_self]; intro a ha
    exact decide_eq_true fun e => hn (List.mem_append.2 (.inl (List.mem_map.2 ⟨a, ha, e⟩)))
  · rw [List.filter_eq_self]; intro a ha
    exact decide_eq_true fun e => hn (List.mem_append.2 (.inr (List.mem_map.2 ⟨a, ha, e⟩)))
theorem dropL_no {k : ByteArray} {L : List Et} (h : ∀ e ∈ L, e.1 ≠ k) : dropL k L = L := by unfold dropL; rw [List.filter_eq_self]; exact fun a ha => decide_eq_true (h a ha)
theorem setL_len (k : ByteArray) (t n : Int) (L : List Et) : (setL k t n L).length ≤ L.length + 1 := by
  have h1 : (leL t (dropL k L)).length + (gtL t (dropL k L)).length = (dropL k L).length := by
    unfold leL gtL
    induction (dropL k L) with
    | nil => rfl
    | cons x l ih => rw [List.filter_cons, List.filter_cons]; by_cases hx : t < x.2.1 <;> simp [hx] <;> omega
  have h2 : (dropL k L).length ≤ L.length := List.length_filter_le _ _
  unfold setL
  rw [List.length_append, List.length_cons]; omega
end Go.Proofs.YtjngangojgjceaaGreat.EX
namespace Go.Proofs.YtjngangojgjceaaGreat.EX
open Go.ChangeShapes Go.WideShapes Go.ChangeAt Go.RowKit
open Go.Proofs.YtjngangojgjceaaGreat.SL Go.Proofs.YtjngangojgjceaaGreat.RW
set_option maxRecDepth 100000
set_option linter.unusedVariables false
set_option linter.unusedSimpArgs false

theorem iEnt : ∃ i, Tryz.prog.info? 131 = some i ∧ i.zero = some (.agg #[.string ByteArray.empty, .int .i64 0, .int .i64 0]) ∧ i.size = 3 ∧ i.bytes = 32 := by
  have h : (Tryz.prog.info? 131).bind (fun i => if i.size = 3 ∧ i.bytes = 32 then i.zero else none) = some (.agg #[.string ByteArray.empty, .int .i64 0, .int .i64 0]) := by kernel_rfl
  cases hi : Tryz.prog.info? 131 with
  | none => rw [hi] at h; cases h
  | some j =>
    rw [hi] at h
    by_cases hc : j.size = 3 ∧ j.bytes = 32
    · simp [hc] at h
      exact ⟨j, rfl, h, hc.1, hc.2⟩
    · simp [hc] at h
theorem undE : Tryz.prog.underlying 168 = some (.slice 131) := Tryz.underlying168
def eRow (e : Et) : List Value := [.string e.1, .int .i64 e.2.1, .int .i64 e.2.2]
def eC (l : List Et) : List Value := fz (l.map eRow)
theorem eUni (l : List Et) : Uni 3 (l.map eRow) := fun r hr => by
  obtain ⟨e, _, rfl⟩ := List.mem_map.1 hr; rfl
theorem eC_len (l : List Et) : (eC l).length = l.length * 3 := by unfold eC; rw [fz_len (eUni l), List.length_map]
theorem eC_app (a b : List Et) : eC (a ++ b) = eC a ++ eC b := by unfold eC; rw [List.map_append, fz_append]
theorem eC_take (l : List Et) (i : Nat) : eC (l.take i) = (eC l).take (i * 3) := by unfold eC; rw [List.map_take, fz_take (eUni l)]
theorem eC_drop (l : List Et) (i : Nat) : eC (l.drop i) = (eC l).drop (i * 3) := by unfold eC; rw [List.map_drop, fz_drop (eUni l)]
theorem eC_one (l : List Et) : ∀ v ∈ eC l, v.oneCell' = true := fz_all fun r hr v hv => by
  obtain ⟨e, _, rfl⟩ := List.mem_map.1 hr
  simp only [eRow, List.mem_cons, List.not_mem_nil, or_false] at hv
  rcases hv with rfl | rfl | rfl <;> rfl
theorem eC_at (l : List Et) (i : Nat) (e : Et) (h : l[i]? = some e) : (eC l)[i * 3]? = some (.string e.1) ∧ (eC l)[i * 3 + 1]? = some (.int .i64 e.2.1) ∧ (eC l)[i * 3 + 2]? = some (.int .i64 e.2.2) := by
  have key := fz_at (eUni l) (i := i) (r := eRow e) (by rw [List.getElem?_map, h]; rfl)
  exact ⟨key 0 (by omega), key 1 (by omega), key 2 (by omega)⟩
theorem eC_single (e : Et) : eC [e] = eRow e := by unfold eC fz; simp
/-- the call owns the entries -/
def EQ (B : Nat) (w : World) (v : Value) (l : List Et) : Prop := w.ownsRow B 131 3 v l.length (eC l)
section
variable {B : Nat} {w w' : World} {v : Value} {l : List Et}
theorem EQ.nil (B : Nat) (w : World) : EQ B w (.slice none 0 0) [] := World.ownsRow_nil _ _ _ _
theorem EQ.keep (h : EQ B w v l) (hk : ∀ g, v.ownBlock = some g → w'.heap[g]? = w.heap[g]?) : EQ B w' v l := by
  refine ⟨h.1, ?_⟩
  rcases h.2 with h2 | ⟨g, cap, cur, rfl, hb, hg, hr⟩
  · exact .inl h2
  · exact .inr ⟨g, cap, cur, rfl, hb, (hk g rfl).trans hg, hr⟩
theorem EQ.lt (h : EQ B w v l) (g : Nat) (hg : v.ownBlock = some g) : B ≤ g ∧ g < w.heap.size := World.ownsRow.lt h g hg
theorem EQ.below (h : EQ B w v l) (hb : Below w.heap.size w w') : EQ B w' v l := h.keep fun g hg => hb.block g (h.lt g hg).2
theorem EQ.mono {B' : Nat} (h : EQ B w v l) (hB : B' ≤ B) : EQ B' w v l := by
  refine ⟨h.1, ?_⟩
  rcases h.2 with h2 | ⟨g, cap, cur, rfl, hb, hr⟩
  · exact .inl h2
  · exact .inr ⟨g, cap, cur, rfl, Nat.le_trans hB hb, hr⟩
theorem EQ.form (h : EQ B w v l) : ∃ a cap, v = .slice a l.length cap := by
  rcases h.2 with ⟨rfl, hz⟩ | ⟨g, cap, cur, rfl, _⟩
  · exact ⟨_, _, by rw [hz]⟩
  · exact ⟨_, _, rfl⟩
theorem EQ.inv (h : EQ B w v l) : (v = .slice none 0 0 ∧ l = []) ∨ ∃ g cap, v = .slice (some ⟨g, 0, none⟩) l.length cap ∧ l.length ≤ cap ∧ cap ≤ maxLen ∧ B ≤ g ∧ g < w.heap.size := by
  rcases h.2 with ⟨rfl, hz⟩ | ⟨g, cap, cur, rfl, hb, hg, hc, hm, _⟩
  · exact .inl ⟨rfl, List.eq_nil_of_length_eq_zero hz⟩
  · exact .inr ⟨g, cap, rfl, hc, hm, hb, (h.lt g rfl).2⟩
theorem EQ.cells {g n cap : Nat} (h : EQ B w (.slice (some ⟨g, 0, none⟩) n cap) l) (i : Nat) (e : Et) (hi : l[i]? = some e) : w.cell? ⟨g, i * 3, none⟩ = some (.string e.1) ∧ w.cell? ⟨g, i * 3 + 1, none⟩ = some (.int .i64 e.2.1) ∧ w.cell? ⟨g, i * 3 + 2, none⟩ = some (.int .i64 e.2.2) := by
  have hn : n = l.length := by
    rcases h.2 with ⟨h', _⟩ | ⟨_, _, _, h', _⟩
    · cases h'
    · injection h'
  subst hn
  obtain ⟨e1, e2, e3⟩ := eC_at l i e hi
  have c1 := World.ownsRow.cells h (g := g) rfl _ _ e1
  have c2 := World.ownsRow.cells h (g := g) rfl _ _ e2
  have c3 := World.ownsRow.cells h (g := g) rfl _ _ e3
  rw [Addr.add_lit, Nat.zero_add] at c1 c2 c3
  exact ⟨c1, c2, c3⟩
theorem EQ.ty (h : EQ B w v l) : ∀ b, v.ownBlock = some b → B ≤ b ∧ ∃ cur fz, w.heap[b]? = some (.cells cur 131 fz) := by
  intro b hb
  rcases h.2 with ⟨rfl, _⟩ | ⟨q, cap, cur, rfl, hbb, hg, hr⟩
  · cases hb
  · injection hb with hb
    subst hb
    exact ⟨hbb, cur, _, hg⟩
theorem EQ.of {m : Nat} {X : List Value} {A : List Et} (h : w.ownsRow B 131 3 v m X) (hm : A.length = m) (hx : eC A = X) : EQ B w v A := by
  subst hm hx; exact h
end
theorem splice_shift {α : Type} (A D Y N : List α) (o z : Nat) (ho : A.length = o) (hY : Y.length = z) (hN : N.length = z) : splice (splice (A ++ D ++ Y) (o + z) D) o N = A ++ N ++ D := by
  subst ho
  unfold splice
  have e1 : (A ++ D ++ Y).take (A.length + z) = A ++ (D ++ Y).take z := by
    rw [List.append_assoc, List.take_append, List.take_of_length_le (l := A) (by omega)]
    congr 2
    omega
  have e2 : (A ++ D ++ Y).drop (A.length + z + D.length) = [] := List.drop_eq_nil_of_le (by simp; omega)
  have hz : ((D ++ Y).take z).length = z := by rw [List.length_take, List.length_append]; omega
  rw [e1, e2, List.append_nil]
  have e3 : (A ++ (D ++ Y).take z ++ D).take A.length = A := by rw [List.append_assoc, List.take_left]
  have e4 : (A ++ (D ++ Y).take z ++ D).drop (A.length + N.length) = D := by
    rw [List.drop_append, List.drop_of_length_le (by rw [List.length_append, hz]; omega), List.nil_append]
    rw [List.length_append, hz, hN, Nat.sub_self, List.drop_zero]
  rw [e3, e4, List.append_assoc]
end Go.Proofs.YtjngangojgjceaaGreat.EX
