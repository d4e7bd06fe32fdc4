/- The document's keys for cache: plain, Right, Text, Size, Parse, keys. Conditions: how long the parts, and the texts, are.
   Layer 12's plain and same, the document's keys of texts. Conditions: how many, how long the texts are.
   CacheKeys' walk. No condition.
   CacheFresh: what was put, as a list that the call owns; what was put last under a key. No condition. -/
import Derived.Test.YtjngangojgjceaaG16
import Derived.Test.YtjngangojgjceaaG20
set_option linter.unusedSimpArgs false
set_option linter.unusedVariables false
namespace Go.Proofs.Ytjngangojgjceaa.CA
open Go.ChangeShapes Go.WideShapes Go.ChangeAt Go.RowKit Go.Maps Go.ChangeMaps
open Go.Proofs.Ytjngangojgjceaa.SL Go.Proofs.Ytjngangojgjceaa.EX Go.Proofs.Ytjngangojgjceaa.RW
set_option maxRecDepth 100000
set_option linter.unusedVariables false
set_option linter.unusedSimpArgs false

theorem cln_zix {t : ByteArray} : cln t = true ↔ zix t = t.size := by
  unfold cln
  rw [decide_eq_true_iff]
  constructor
  · intro h; unfold zix; rw [if_pos h]
  · intro h
    by_cases hx : Lib.indexByte t.data.toList 0 = -1
    · exact hx
    · have := (zix_lt t hx).1; omega
theorem toNat_ne0 (b : UInt8) (h : b ≠ 0) : ((b.toNat : Int) == 0) = false := by
  simp; intro e; apply h; exact UInt8.toNat_inj.1 e
set_option maxHeartbeats 2000000 in
theorem rplain_any (t : ByteArray) (w : World) (ht : t.size ≤ 281474976710656) :
    Calls Try.prog 46 #[.string t] w fun e w' => e = .returned (.bool (cln t)) ∧ w = w' := by
  have hz := zix_le t
  obtain ⟨R, hR⟩ : ∃ R, cln t = R := ⟨_, rfl⟩
  have HR : Hid (R = true ↔ zix t = t.size) := Lib.hid (by rw [← hR]; exact cln_zix)
  rw [hR]
  have HZ := Lib.hid hz
  clear hR
  go_enter Try.func46, Try.ntmps46
  go_wp2
  go_loopg [3] (zix t + 1) (fun g u3 wx => ∃ i : Nat, u3 = .int .i64 (i : Int) ∧ i + g = zix t + 1 ∧ 0 < g ∧ w = wx)
  case atStart => exact ⟨0, rfl, by omega, by omega, rfl⟩
  case round =>
    obtain ⟨i, rfl, hi, hg, rfl⟩ := hrel
    cases gk with
    | zero => omega
    | succ g =>
      by_cases hlt : i < zix t
      · have h1 : i < t.size := by omega
        have h2 := toNat_ne0 _ (zix_ne t i hlt h1)
        have l0 : (0 : Int) ≤ (i : Int) := by omega
        have l1 : (i : Int) < (t.size : Int) := by omega
        obtain ⟨i1, hi1⟩ : ∃ i1, i + 1 = i1 := ⟨_, rfl⟩
        have wk : IntKind.i64.wrap ((i : Int) + 1) = (i1 : Int) := by rw [show (i : Int) + 1 = (i1 : Int) by omega]; exact IntWalk.i64_in _ (by omega)
        have HI1 : Hid (i1 + g = zix t + 1 ∧ 0 < g) := Lib.hid (by omega)
        clear hi hi1 hlt hz
        go_wp2
        go_roundg g
        case measure => exact Nat.lt_succ_self _
        case rel => exact ⟨i1, rfl, HI1.out.1, HI1.out.2, rfl⟩
      · have e : i = zix t := by omega
        subst e
        by_cases h1 : zix t < t.size
        · have h2 := zix_eq t h1
          have h4 : ((t[zix t].toNat : Int) == 0) = true := by rw [h2]; rfl
          have l0 : (0 : Int) ≤ (zix t : Int) := by omega
          have l1 : (zix t : Int) < (t.size : Int) := by omega
          have HF : Hid (R = false) := Lib.hid (by cases R; rfl; exact absurd (HR.out.1 rfl) (by omega))
          clear h2 hi hlt hz
          go_wp2
          go_ret
          exact ⟨by rw [HF.out]; rfl, rfl⟩
        · have l1 : ¬ ((zix t : Int) < (t.size : Int)) := by omega
          have HF : Hid (R = true) := Lib.hid (HR.out.2 (by omega))
          clear hi hlt hz h1
          go_wp2
          go_ret
          exact ⟨by rw [HF.out]; rfl, rfl⟩
set_option maxHeartbeats 4000000 in
theorem rright_any (k : Ky) (hk : FitK k) (w : World) :
    Calls Try.prog 23 #[kyV k] w fun e w' => e = .returned (.bool (rightK k)) ∧ Below w.heap.size w w' := by
  obtain ⟨db, ro, fm, no⟩ := k
  obtain ⟨h1, h2, h3, _⟩ := hk
  simp only at h1 h2 h3
  have c1 := Lib.hid (fun w => rplain_any db w (by omega))
  have c2 := Lib.hid (fun w => rplain_any ro w (by omega))
  have c3 := Lib.hid (fun w => rplain_any no w (by omega))
  obtain ⟨kb, hkb⟩ : ∃ b, w.heap.size = b := ⟨_, rfl⟩
  obtain ⟨W0, hW0⟩ : ∃ W, w.alloc (.cells (kC (db, ro, fm, no)) 28) = W := ⟨_, rfl⟩
  have hb0 : Below w.heap.size w W0 := by rw [← hW0]; exact (Below.refl _ _).alloc (Nat.le_refl _) _
  have kk : Bk W0 kb 28 (kC (db, ro, fm, no)) := by rw [← hW0, ← hkb]; exact Bk.new _ _ _
  have a0 : W0.cell? ⟨kb, 0, none⟩ = some (.string db) := kk.cell 0
  have a1 : W0.cell? ⟨kb, 1, none⟩ = some (.string ro) := kk.cell 1
  have a2 : W0.cell? ⟨kb, 2, none⟩ = some (.int .i64 fm) := kk.cell 2
  have a3 : W0.cell? ⟨kb, 3, none⟩ = some (.string no) := kk.cell 3
  have HB := Lib.hid hb0
  obtain ⟨R, hR⟩ : ∃ R, rightK (db, ro, fm, no) = R := ⟨_, rfl⟩
  have HR : Hid (R = (cln db && cln ro && cln no && (decide (fm = 0) || decide (fm = 1)))) := Lib.hid (by rw [← hR]; rfl)
  rw [hR]
  clear hb0 kk h1 h2 h3 hR
  cases d1 : cln db with
  | false =>
    rw [d1] at c1 HR
    clear c2 c3 d1
    go_enter Try.func23, Try.ntmps23
    go_wp2_with fail
    try rw [hW0]
    refine (c1.out _).mono ?_
    rintro e w' ⟨rfl, rfl⟩
    go_wp2
    go_ret
    exact ⟨by rw [HR.out]; rfl, HB.out⟩
  | true =>
    rw [d1] at c1 HR
    cases d2 : cln ro with
    | false =>
      rw [d2] at c2 HR
      clear c3 d1 d2
      go_enter Try.func23, Try.ntmps23
      go_wp2_with fail
      try rw [hW0]
      refine (c1.out _).mono ?_
      rintro e w' ⟨rfl, rfl⟩
      go_wp2_with fail
      try rw [hW0]
      refine (c2.out _).mono ?_
      rintro e w' ⟨rfl, rfl⟩
      go_wp2
      go_ret
      exact ⟨by rw [HR.out]; rfl, HB.out⟩
    | true =>
      rw [d2] at c2 HR
      cases d3 : cln no with
      | false =>
        rw [d3] at c3 HR
        clear d1 d2 d3
        go_enter Try.func23, Try.ntmps23
        go_wp2_with fail
        try rw [hW0]
        refine (c1.out _).mono ?_
        rintro e w' ⟨rfl, rfl⟩
        go_wp2_with fail
        try rw [hW0]
        refine (c2.out _).mono ?_
        rintro e w' ⟨rfl, rfl⟩
        go_wp2_with fail
        try rw [hW0]
        refine (c3.out _).mono ?_
        rintro e w' ⟨rfl, rfl⟩
        go_wp2
        go_ret
        exact ⟨by rw [HR.out]; rfl, HB.out⟩
      | true =>
        rw [d3] at c3 HR
        clear d1 d2 d3
        by_cases f0 : fm = 0
        · subst f0
          go_enter Try.func23, Try.ntmps23
          go_wp2_with fail
          try rw [hW0]
          refine (c1.out _).mono ?_
          rintro e w' ⟨rfl, rfl⟩
          go_wp2_with fail
          try rw [hW0]
          refine (c2.out _).mono ?_
          rintro e w' ⟨rfl, rfl⟩
          go_wp2_with fail
          try rw [hW0]
          refine (c3.out _).mono ?_
          rintro e w' ⟨rfl, rfl⟩
          go_wp2
          go_ret
          exact ⟨by rw [HR.out]; rfl, HB.out⟩
        · have f1 : (fm == 0) = false := beq_eq_false_iff_ne.2 f0
          rw [decide_eq_false f0] at HR
          clear f0
          go_enter Try.func23, Try.ntmps23
          go_wp2_with fail
          try rw [hW0]
          refine (c1.out _).mono ?_
          rintro e w' ⟨rfl, rfl⟩
          go_wp2_with fail
          try rw [hW0]
          refine (c2.out _).mono ?_
          rintro e w' ⟨rfl, rfl⟩
          go_wp2_with fail
          try rw [hW0]
          refine (c3.out _).mono ?_
          rintro e w' ⟨rfl, rfl⟩
          go_wp2
          go_ret
          exact ⟨by rw [HR.out]; rfl, HB.out⟩
set_option maxHeartbeats 4000000 in
theorem rtext_any (k : Ky) (hk : FitK k) (w : World) :
    Calls Try.prog 11 #[kyV k] w fun e w' => e = .returned (.string (txt k)) ∧ Below w.heap.size w w' := by
  have HRT := Lib.hid (fun w => rright_any k hk w)
  obtain ⟨db, ro, fm, no⟩ := k
  obtain ⟨h1, h2, h3, h4⟩ := hk
  simp only at h1 h2 h3 h4
  obtain ⟨R, hR⟩ : ∃ R, txt (db, ro, fm, no) = R := ⟨_, rfl⟩
  rw [hR]
  have HR := Lib.hid hR
  obtain ⟨g0, hg0⟩ : ∃ g, w.heap.size = g := ⟨_, rfl⟩
  obtain ⟨W, hW⟩ : ∃ W, w.alloc (.cells #[.string db, .string ro, .int .i64 fm, .string no] 28) = W := ⟨_, rfl⟩
  have hbW : Below w.heap.size w W := by rw [← hW]; exact (Below.refl _ _).alloc (Nat.le_refl _) _
  have ka : Bk W g0 28 (kC (db, ro, fm, no)) := by rw [← hW, ← hg0]; exact Bk.new _ _ _
  have a0 : W.cell? ⟨g0, 0, none⟩ = some (.string db) := ka.cell 0
  have a1 : W.cell? ⟨g0, 1, none⟩ = some (.string ro) := ka.cell 1
  have a2 : W.cell? ⟨g0, 2, none⟩ = some (.int .i64 fm) := ka.cell 2
  have a3 : W.cell? ⟨g0, 3, none⟩ = some (.string no) := ka.cell 3
  have HBW := Lib.hid hbW
  have HKA := Lib.hid ka
  clear hbW ka hR
  have HH1 := Lib.hid h1
  have HH2 := Lib.hid h2
  have HH3 := Lib.hid h3
  clear h1 h2 h3 h4
  go_enter Try.func11, Try.ntmps11
  go_wp2_with fail
  try rw [hW, hg0]
  refine (HRT.out W).mono ?_
  cases hr : rightK (db, ro, fm, no) with
  | false =>
    rintro e w1 ⟨rfl, hb1⟩
    have HT : Hid (R = ⟨#[]⟩) := Lib.hid (by rw [← HR.out]; exact txt_not hr)
    have HB1 := Lib.hid hb1
    clear hr hb1
    go_wp2
    go_ret
    exact ⟨by rw [HT.out]; rfl, HBW.out.trans (HB1.out.mono HBW.out.size)⟩
  | true =>
    rintro e w1 ⟨rfl, hb1⟩
    have HT : Hid (R = putText (put16 (putText (putText ⟨#[]⟩ db) ro) fm) no) := Lib.hid (by rw [← HR.out]; exact txt_right hr)
    have k1 := HKA.out.below hb1
    have HK := Lib.hid k1
    have HB := Lib.hid (HBW.out.trans (hb1.mono HBW.out.size))
    have c0 : w1.cell? ⟨g0, 0, none⟩ = some (.string db) := k1.cell 0
    have c1 : w1.cell? ⟨g0, 1, none⟩ = some (.string ro) := k1.cell 1
    have c2 : w1.cell? ⟨g0, 2, none⟩ = some (.int .i64 fm) := k1.cell 2
    have c3 : w1.cell? ⟨g0, 3, none⟩ = some (.string no) := k1.cell 3
    clear hr hb1 a0 a1 a2 a3 k1 HKA HBW
    obtain ⟨P1, hP1⟩ : ∃ P, putText ⟨#[]⟩ db = P := ⟨_, rfl⟩
    obtain ⟨P2, hP2⟩ : ∃ P, putText P1 ro = P := ⟨_, rfl⟩
    obtain ⟨P3, hP3⟩ : ∃ P, put16 P2 fm = P := ⟨_, rfl⟩
    have hs1 : P1.size ≤ 1099511627777 := by rw [← hP1]; refine Nat.le_trans (putText_le _ _) ?_; have := HH1.out; show 0 + _ + 1 ≤ _; omega
    have hs2 : P2.size ≤ 2199023255554 := by rw [← hP2]; refine Nat.le_trans (putText_le _ _) ?_; have := HH2.out; omega
    have hs3 : P3.size ≤ 2199023255556 := by rw [← hP3]; unfold put16; rw [ByteArray.size_append]; have z : (⟨#[byt (fm / 256), byt fm]⟩ : ByteArray).size = 2 := rfl; omega
    rw [hP1, hP2, hP3] at HT
    have HS1 := Lib.hid hs1
    have HS2 := Lib.hid hs2
    have HS3 := Lib.hid hs3
    have HP1 := Lib.hid hP1
    have HP2 := Lib.hid hP2
    have HP3 := Lib.hid hP3
    clear hs1 hs2 hs3 hP1 hP2 hP3
    go_wp2_with fail
    refine wp_region_held_drew (S := (fun w' => w'.cell? ⟨g0, 0, none⟩ = some (.string db) ∧ w'.cell? ⟨g0, 1, none⟩ = some (.string ro) ∧ w'.cell? ⟨g0, 2, none⟩ = some (.int .i64 fm) ∧ w'.cell? ⟨g0, 3, none⟩ = some (.string no))) (by kernel_rfl) ?_ (fun hS => ?_)
    · exact ⟨c0, c1, c2, c3⟩
    refine tkY 0 ?_ rfl hS ?_ ?_
    rotate_left
    · intro wz hz
      obtain ⟨z0, z1, z2, z3⟩ := hz
      go_simp
      all_goals first | with_reducible rfl | omega
    try simp only [Act.put, pu]
    refine tkY 1 ?_ rfl hS ?_ ?_
    rotate_left
    · intro wz hz
      obtain ⟨z0, z1, z2, z3⟩ := hz
      go_simp
      all_goals first | with_reducible rfl | omega
    try simp only [Act.put, pu]
    refine tkY 3 ?_ rfl hS ?_ ?_
    rotate_left
    · intro wz hz
      obtain ⟨z0, z1, z2, z3⟩ := hz
      go_simp
      all_goals first | with_reducible rfl | omega
    try simp only [Act.put, pu]
    refine tkY 4 ?_ rfl hS ?_ ?_
    rotate_left
    · intro wz hz
      obtain ⟨z0, z1, z2, z3⟩ := hz
      go_simp
      all_goals first | with_reducible rfl | omega
    try simp only [Act.put, pu]
    refine tkY 6 ?_ rfl hS ?_ ?_
    rotate_left
    · intro wz hz
      obtain ⟨z0, z1, z2, z3⟩ := hz
      go_simp
      all_goals first | with_reducible rfl | omega
    try simp only [Act.put, pu]
    refine tkY 7 ?_ rfl hS ?_ ?_
    rotate_left
    · intro wz hz
      obtain ⟨z0, z1, z2, z3⟩ := hz
      go_simp
      all_goals first | with_reducible rfl | omega
    try simp only [Act.put, pu]
    refine tkY 9 ?_ rfl hS ?_ ?_
    rotate_left
    · intro wz hz
      obtain ⟨z0, z1, z2, z3⟩ := hz
      go_simp
      all_goals first | with_reducible rfl | omega
    try simp only [Act.put, pu]
    refine tkY 10 ?_ rfl hS ?_ ?_
    rotate_left
    · intro wz hz
      obtain ⟨z0, z1, z2, z3⟩ := hz
      go_simp
      all_goals first | with_reducible rfl | omega
    try simp only [Act.put, pu]
    refine wpAnyH_ready (rs := [2]) (by kernel_rfl) (by simp) (AllReadyH.cons rfl (fun K' hK' => ?_) AllReadyH.nil)
    go_simp
    refine (rputText_any ⟨#[]⟩ db _ (by decide) (by have := HH1.out; omega)).mono ?_
    rintro e w2 ⟨rfl, rfl⟩
    refine hK'.out _ _ ?_ (fun hSn => ?_)
    · exact hS
    clear hK' K' hS
    have hS := hSn
    clear hSn
    try simp only [Act.put, pu]
    rw [HP1.out]
    refine wpAnyH_ready (rs := [5]) (by kernel_rfl) (by simp) (AllReadyH.cons rfl (fun K' hK' => ?_) AllReadyH.nil)
    go_simp
    refine (rputText_any P1 ro _ (by have := HS1.out; omega) (by have := HH2.out; omega)).mono ?_
    rintro e w3 ⟨rfl, rfl⟩
    refine hK'.out _ _ ?_ (fun hSn => ?_)
    · exact hS
    clear hK' K' hS
    have hS := hSn
    clear hSn
    try simp only [Act.put, pu]
    rw [HP2.out]
    refine wpAnyH_ready (rs := [8]) (by kernel_rfl) (by simp) (AllReadyH.cons rfl (fun K' hK' => ?_) AllReadyH.nil)
    go_simp
    refine (rput16_any P2 fm (by have := HS2.out; omega) _).mono ?_
    rintro e w4 ⟨rfl, hb4⟩
    have hbd : Below w1.heap.size w1 w1.drew := (Below.refl _ _).drew
    have hb4 := hbd.trans (hb4.mono hbd.size)
    have k2 := HK.out.below hb4
    have HB := Lib.hid (HB.out.trans (hb4.mono HB.out.size))
    clear hb4 hbd
    refine hK'.out _ _ ?_ (fun hSn => ?_)
    · exact ⟨k2.cell 0, k2.cell 1, k2.cell 2, k2.cell 3⟩
    clear hK' K' hS
    have hS := hSn
    clear hSn
    try simp only [Act.put, pu]
    clear k2
    rw [HP3.out]
    refine wpAnyH_ready (rs := [11]) (by kernel_rfl) (by simp) (AllReadyH.cons rfl (fun K' hK' => ?_) AllReadyH.nil)
    go_simp
    refine (rputText_any P3 no _ (by have := HS3.out; omega) (by have := HH3.out; omega)).mono ?_
    rintro e w5 ⟨rfl, rfl⟩
    refine hK'.out _ _ ?_ (fun hSn => ?_)
    · exact hS
    clear hK' K' hS
    have hS := hSn
    clear hSn
    try simp only [Act.put, pu]
    refine tkY 12 ?_ rfl hS ?_ ?_
    rotate_left
    · intro wz hz
      go_simp
      all_goals first | with_reducible rfl | omega
    try simp only [Act.put, pu]
    refine wpAnyH_done (by kernel_rfl) ?_ _
    clear hS
    clear c0 c1 c2 c3
    go_wp2
    go_ret
    exact ⟨by rw [HT.out]; rfl, HB.out⟩
set_option maxHeartbeats 4000000 in
theorem rsize_any (k : Ky) (v : ByteArray) (hk : FitK k) (hv : v.size ≤ 1099511627776) (w : World) :
    Calls Try.prog 14 #[kyV k, .string v] w fun e w' => e = .returned (.int .i64 (szK k v)) ∧ Below w.heap.size w w' := by
  obtain ⟨kb, hkb⟩ : ∃ g, w.heap.size = g := ⟨_, rfl⟩
  obtain ⟨W, hW⟩ : ∃ W, w.alloc (.cells (kC k) 28) = W := ⟨_, rfl⟩
  have hbW : Below w.heap.size w W := by rw [← hW]; exact (Below.refl _ _).alloc (Nat.le_refl _) _
  have ka : Bk W kb 28 (kC k) := by rw [← hW, ← hkb]; exact Bk.new _ _ _
  have HRT := Lib.hid (rright_any k hk W)
  have HC := Lib.hid (fun W => rtext_any k hk W)
  have HB := Lib.hid hbW
  have HKA := Lib.hid ka
  obtain ⟨R, hR⟩ : ∃ R, szK k v = R := ⟨_, rfl⟩
  rw [hR]
  cases hr : rightK k with
  | false =>
    have HR : Hid (R = 0) := Lib.hid (by rw [← hR]; unfold szK; rw [if_neg (by rw [hr]; decide)])
    rw [hr] at HRT
    clear hbW hR hr hk hv HC
    obtain ⟨db, ro, fm, no⟩ := k
    have a0 : W.cell? ⟨kb, 0, none⟩ = some (.string db) := ka.cell 0
    have a1 : W.cell? ⟨kb, 1, none⟩ = some (.string ro) := ka.cell 1
    have a2 : W.cell? ⟨kb, 2, none⟩ = some (.int .i64 fm) := ka.cell 2
    have a3 : W.cell? ⟨kb, 3, none⟩ = some (.string no) := ka.cell 3
    clear ka
    go_enter Try.func14, Try.ntmps14
    go_wp2_with fail
    try rw [hW, hkb]
    refine HRT.out.mono ?_
    rintro e w1 ⟨rfl, hb1⟩
    have HB := Lib.hid (HB.out.trans (hb1.mono HB.out.size))
    clear hb1
    go_wp2
    go_ret
    exact ⟨by rw [HR.out]; rfl, HB.out⟩
  | true =>
    have hts := text_size hr
    obtain ⟨h1, h2, h3, _⟩ := hk
    have HR0 : R = 16 + ((textK k).size : Int) + (v.size : Int) := by rw [← hR]; unfold szK; rw [if_pos hr]
    rw [txt_right hr] at HC
    rw [hr] at HRT
    obtain ⟨P, hP⟩ : ∃ P, textK k = P := ⟨_, rfl⟩
    rw [hP] at HC HR0 hts
    have HR := Lib.hid HR0
    clear HR0
    have w1 : IntKind.i64.wrap (16 + (P.size : Int)) = 16 + (P.size : Int) := IntWalk.i64_in _ (by omega)
    have w2 : IntKind.i64.wrap (16 + (P.size : Int) + (v.size : Int)) = 16 + (P.size : Int) + (v.size : Int) := IntWalk.i64_in _ (by omega)
    clear hbW hR hr hv h1 h2 h3 hts hP
    obtain ⟨db, ro, fm, no⟩ := k
    have a0 : W.cell? ⟨kb, 0, none⟩ = some (.string db) := ka.cell 0
    have a1 : W.cell? ⟨kb, 1, none⟩ = some (.string ro) := ka.cell 1
    have a2 : W.cell? ⟨kb, 2, none⟩ = some (.int .i64 fm) := ka.cell 2
    have a3 : W.cell? ⟨kb, 3, none⟩ = some (.string no) := ka.cell 3
    clear ka
    go_enter Try.func14, Try.ntmps14
    go_wp2_with fail
    try rw [hW, hkb]
    refine HRT.out.mono ?_
    rintro e w3 ⟨rfl, hb1⟩
    have HB := Lib.hid (HB.out.trans (hb1.mono HB.out.size))
    have ka := HKA.out.below hb1
    clear hb1 HRT a0 a1 a2 a3 hW hkb
    have a0 : w3.cell? ⟨kb, 0, none⟩ = some (.string db) := ka.cell 0
    have a1 : w3.cell? ⟨kb, 1, none⟩ = some (.string ro) := ka.cell 1
    have a2 : w3.cell? ⟨kb, 2, none⟩ = some (.int .i64 fm) := ka.cell 2
    have a3 : w3.cell? ⟨kb, 3, none⟩ = some (.string no) := ka.cell 3
    clear ka
    go_wp2_with fail
    refine (HC.out _).mono ?_
    rintro e w4 ⟨rfl, hb1⟩
    have HB := Lib.hid (HB.out.trans (hb1.mono HB.out.size))
    clear hb1 HC a0 a1 a2 a3
    go_wp2
    go_ret
    exact ⟨by rw [HR.out]; rfl, HB.out⟩
theorem rgt_to (s : ByteArray) (a : Int) (hs : s.size ≤ 281474976710656) (x : ByteArray) (p e : Int) (h : gText s a = (x, p, e)) (w : World) :
    Calls Try.prog 21 #[.string s, .int .i64 a] w fun r w' => r = .returned (.tuple #[.string x, .int .i64 p, .int .i64 e]) ∧ Below w.heap.size w w' := by
  have := rgetText_any s a w hs
  rw [h] at this
  exact this.mono fun e w' hh => ⟨hh.1, by rw [hh.2]; exact Below.refl _ _⟩
theorem rgn_to (s : ByteArray) (a : Int) (hs : s.size ≤ 281474976710656) (x : Int) (p e : Int) (h : g16 s a = (x, p, e)) (w : World) :
    Calls Try.prog 22 #[.string s, .int .i64 a] w fun r w' => r = .returned (.tuple #[.int .i64 x, .int .i64 p, .int .i64 e]) ∧ Below w.heap.size w w' := by
  have := rget16_any s a w hs
  rw [h] at this
  exact this
set_option maxHeartbeats 4000000 in
theorem rparse_any (s : ByteArray) (hs : s.size ≤ 1099511627776) (w : World) :
    Calls Try.prog 9 #[.string s] w (ParP s w) := by
  obtain ⟨⟨x1, p1, e1⟩, h1⟩ : ∃ r, gText s 0 = r := ⟨_, rfl⟩
  obtain ⟨⟨x2, p2, e2⟩, h2⟩ : ∃ r, gText s p1 = r := ⟨_, rfl⟩
  obtain ⟨⟨n, p3, e3⟩, h3⟩ : ∃ r, g16 s p2 = r := ⟨_, rfl⟩
  obtain ⟨⟨x4, p4, e4⟩, h4⟩ : ∃ r, gText s p3 = r := ⟨_, rfl⟩
  have hrd : readK s = (x1, x2, n, x4) := by unfold readK; rw [h1]; simp only; rw [h2]; simp only; rw [h3]; simp only; rw [h4]
  have hle := read_le s
  have hin := g16_in s p2
  rw [hrd] at hle
  rw [h3] at hin
  simp only at hle hin
  have hfit : FitK (x1, x2, n, x4) := ⟨by show x1.size ≤ _; omega, by show x2.size ≤ _; omega, by show x4.size ≤ _; omega, by show _ ≤ n; omega, by show n ≤ _; omega⟩
  obtain ⟨T, hT⟩ : ∃ T, txt (x1, x2, n, x4) = T := ⟨_, rfl⟩
  have htr := txt_read s
  rw [hrd, hT] at htr
  have hpar : parK s = if okP s = true then (x1, x2, n, x4) else zK := by unfold parK; rw [hrd]
  have c1 := fun w => rgt_to s 0 (by omega) _ _ _ h1 w
  have c2 := fun w => rgt_to s p1 (by omega) _ _ _ h2 w
  have c3 := fun w => rgn_to s p2 (by omega) _ _ _ h3 w
  have c4 := fun w => rgt_to s p3 (by omega) _ _ _ h4 w
  have c5 := fun w => rtext_any (x1, x2, n, x4) hfit w
  have c6 := fun w => rright_any (x1, x2, n, x4) hfit w
  have hob : okP s = (rightK (x1, x2, n, x4) && decide (textK (x1, x2, n, x4) = s)) := by unfold okP; rw [hrd]
  have C6 := Lib.hid c6
  rw [hT] at c5
  obtain ⟨K, hK⟩ : ∃ K, parK s = K := ⟨_, rfl⟩
  obtain ⟨B, hB⟩ : ∃ B, okP s = B := ⟨_, rfl⟩
  unfold ParP
  rw [hB] at htr hob
  have HOB := Lib.hid hob
  rw [hB, hK] at hpar
  rw [hB, hK]
  have HTR := Lib.hid htr
  have HPAR := Lib.hid hpar
  have C1 := Lib.hid c1
  have C2 := Lib.hid c2
  have C3 := Lib.hid c3
  have C4 := Lib.hid c4
  have C5 := Lib.hid c5
  clear h1 h2 h3 h4 hrd hle hin hfit hT htr hpar c1 c2 c3 c4 c5 c6 hob hK hB hs
  obtain ⟨rb, hrb⟩ : ∃ g, w.heap.size = g := ⟨_, rfl⟩
  obtain ⟨W, hW⟩ : ∃ W, w.alloc (.cells zkC 28) = W := ⟨_, rfl⟩
  have hbW : Below w.heap.size w W := by rw [← hW]; exact (Below.refl _ _).alloc (Nat.le_refl _) _
  have ka : Bk W rb 28 zkC := by rw [← hW, ← hrb]; exact Bk.new _ _ _
  have HB := Lib.hid hbW
  have HK := Lib.hid ka
  have HRB : Hid (w.heap.size ≤ rb) := Lib.hid (by omega)
  clear hbW ka
  go_enter Try.func9, Try.ntmps9
  go_wp2_with fail
  try rw [hW]
  try rw [hrb]
  refine (C1.out _).mono ?_
  rintro e w1 ⟨rfl, hb⟩
  have HK := Lib.hid (HK.out.below hb)
  have HB := Lib.hid (HB.out.trans (hb.mono HB.out.size))
  clear hb hW
  go_wp2_with fail
  refine (C2.out _).mono ?_
  rintro e w2 ⟨rfl, hb⟩
  have HK := Lib.hid (HK.out.below hb)
  have HB := Lib.hid (HB.out.trans (hb.mono HB.out.size))
  clear hb
  go_wp2_with fail
  refine (C3.out _).mono ?_
  rintro e w3 ⟨rfl, hb⟩
  have HK := Lib.hid (HK.out.below hb)
  have HB := Lib.hid (HB.out.trans (hb.mono HB.out.size))
  clear hb
  go_wp2_with fail
  refine (C4.out _).mono ?_
  rintro e w4 ⟨rfl, hb⟩
  have HK := Lib.hid (HK.out.below hb)
  have HB := Lib.hid (HB.out.trans (hb.mono HB.out.size))
  clear hb
  obtain ⟨kb, hkb⟩ : ∃ g, w4.heap.size = g := ⟨_, rfl⟩
  obtain ⟨W, hW⟩ : ∃ W, w4.alloc (.cells #[.string x1, .string x2, .int .i64 n, .string x4] 28) = W := ⟨_, rfl⟩
  have hbW : Below w4.heap.size w4 W := by rw [← hW]; exact (Below.refl _ _).alloc (Nat.le_refl _) _
  have kk : Bk W kb 28 #[.string x1, .string x2, .int .i64 n, .string x4] := by rw [← hW, ← hkb]; exact Bk.new _ _ _
  have HKK := Lib.hid kk
  have HKB : Hid (rb < kb) := Lib.hid (by rw [← hkb]; exact HK.out.lt)
  have HK := Lib.hid (HK.out.below hbW)
  have HB := Lib.hid (HB.out.trans (hbW.mono HB.out.size))
  have q0 : W.cell? ⟨kb, 0, none⟩ = some (.string x1) := kk.cell 0
  have q1 : W.cell? ⟨kb, 1, none⟩ = some (.string x2) := kk.cell 1
  have q2 : W.cell? ⟨kb, 2, none⟩ = some (.int .i64 n) := kk.cell 2
  have q3 : W.cell? ⟨kb, 3, none⟩ = some (.string x4) := kk.cell 3
  clear hbW kk
  go_wp2_with fail
  try rw [hW]
  try rw [hkb]
  cases hr : rightK (x1, x2, n, x4) with
  | false =>
    rw [hr] at C6 HOB
    refine (C6.out _).mono ?_
    rintro e w6 ⟨rfl, hb⟩
    have kk := HKK.out.below hb
    have kr := HK.out.below hb
    have HKR := Lib.hid kr
    have HB := Lib.hid (HB.out.trans (hb.mono HB.out.size))
    have r0 : w6.cell? ⟨rb, 0, none⟩ = some (.string ⟨#[]⟩) := kr.cell 0
    have r1 : w6.cell? ⟨rb, 1, none⟩ = some (.string ⟨#[]⟩) := kr.cell 1
    have r2 : w6.cell? ⟨rb, 2, none⟩ = some (.int .i64 0) := kr.cell 2
    have r3 : w6.cell? ⟨rb, 3, none⟩ = some (.string ⟨#[]⟩) := kr.cell 3
    have f0 := kr.frozen 0
    have f1 := kr.frozen 1
    have f2 := kr.frozen 2
    have f3 := kr.frozen 3
    have hBf : B = false := by rw [HOB.out]; rfl
    subst hBf
    clear hb kk kr hW HK HKK HTR C1 C2 C3 C4 C5 C6 hr q0 q1 q2 q3
    have HE : Hid (K = zK) := Lib.hid (by rw [HPAR.out, if_neg (by decide)])
    clear HPAR
    go_wp2
    have k0 := (((HKR.out.set_ 0 (.string ⟨#[]⟩)).set_ 1 (.string ⟨#[]⟩)).set_ 2 (.int .i64 0)).set_ 3 (.string ⟨#[]⟩)
    have hb3 := (((HB.out.setCell (p := ⟨rb, 0, none⟩) (HRB.out) (.string ⟨#[]⟩)).setCell (p := ⟨rb, 1, none⟩) (HRB.out) (.string ⟨#[]⟩)).setCell (p := ⟨rb, 2, none⟩) (HRB.out) (.int .i64 0)).setCell (p := ⟨rb, 3, none⟩) (HRB.out) (.string ⟨#[]⟩)
    obtain ⟨W3, hW3⟩ : ∃ W, (((w6.setCell ⟨rb, 0, none⟩ (.string ⟨#[]⟩)).setCell ⟨rb, 1, none⟩ (.string ⟨#[]⟩)).setCell ⟨rb, 2, none⟩ (.int .i64 0)).setCell ⟨rb, 3, none⟩ (.string ⟨#[]⟩) = W := ⟨_, rfl⟩
    rw [hW3] at k0 hb3 ⊢
    have e0 : W3.cell? ⟨rb, 0, none⟩ = some (.string ⟨#[]⟩) := k0.cell 0
    have e1 : W3.cell? ⟨rb, 1, none⟩ = some (.string ⟨#[]⟩) := k0.cell 1
    have e2 : W3.cell? ⟨rb, 2, none⟩ = some (.int .i64 0) := k0.cell 2
    have e3 : W3.cell? ⟨rb, 3, none⟩ = some (.string ⟨#[]⟩) := k0.cell 3
    exact bodyPost_ret (v := .tuple #[kyV zK, .bool false]) (by simp [results, Try.results9, go_sem, e0, e1, e2, e3, zK]) rfl ⟨by rw [HE.out], hb3⟩
  | true =>
    rw [hr] at C6
    refine (C6.out _).mono ?_
    rintro e w5 ⟨rfl, hb⟩
    have HKK := Lib.hid (HKK.out.below hb)
    have HK := Lib.hid (HK.out.below hb)
    have HB := Lib.hid (HB.out.trans (hb.mono HB.out.size))
    have q0 : w5.cell? ⟨kb, 0, none⟩ = some (.string x1) := HKK.out.cell 0
    have q1 : w5.cell? ⟨kb, 1, none⟩ = some (.string x2) := HKK.out.cell 1
    have q2 : w5.cell? ⟨kb, 2, none⟩ = some (.int .i64 n) := HKK.out.cell 2
    have q3 : w5.cell? ⟨kb, 3, none⟩ = some (.string x4) := HKK.out.cell 3
    clear hb hr
    go_wp2_with fail
    refine (C5.out _).mono ?_
    rintro e w6 ⟨rfl, hb⟩
    have kk := HKK.out.below hb
    have kr := HK.out.below hb
    have HKR := Lib.hid kr
    have HB := Lib.hid (HB.out.trans (hb.mono HB.out.size))
    have q0 : w6.cell? ⟨kb, 0, none⟩ = some (.string x1) := kk.cell 0
    have q1 : w6.cell? ⟨kb, 1, none⟩ = some (.string x2) := kk.cell 1
    have q2 : w6.cell? ⟨kb, 2, none⟩ = some (.int .i64 n) := kk.cell 2
    have q3 : w6.cell? ⟨kb, 3, none⟩ = some (.string x4) := kk.cell 3
    have r0 : w6.cell? ⟨rb, 0, none⟩ = some (.string ⟨#[]⟩) := kr.cell 0
    have r1 : w6.cell? ⟨rb, 1, none⟩ = some (.string ⟨#[]⟩) := kr.cell 1
    have r2 : w6.cell? ⟨rb, 2, none⟩ = some (.int .i64 0) := kr.cell 2
    have r3 : w6.cell? ⟨rb, 3, none⟩ = some (.string ⟨#[]⟩) := kr.cell 3
    have f0 := kr.frozen 0
    have f1 := kr.frozen 1
    have f2 := kr.frozen 2
    have f3 := kr.frozen 3
    have es : (T.toList == s.toList) = B := by
      rw [tl_dec, Bool.eq_iff_iff, decide_eq_true_iff]; exact HTR.out
    clear hb kk kr hW HK HKK HTR C1 C2 C3 C4 C5 C6
    cases B with
    | true =>
      have HE : Hid (K = (x1, x2, n, x4)) := Lib.hid (by rw [HPAR.out, if_pos rfl])
      clear HPAR
      go_wp2
      have k0 := (((HKR.out.set_ 0 (.string x1)).set_ 1 (.string x2)).set_ 2 (.int .i64 n)).set_ 3 (.string x4)
      have hb3 := (((HB.out.setCell (p := ⟨rb, 0, none⟩) (HRB.out) (.string x1)).setCell (p := ⟨rb, 1, none⟩) (HRB.out) (.string x2)).setCell (p := ⟨rb, 2, none⟩) (HRB.out) (.int .i64 n)).setCell (p := ⟨rb, 3, none⟩) (HRB.out) (.string x4)
      obtain ⟨W3, hW3⟩ : ∃ W, (((w6.setCell ⟨rb, 0, none⟩ (.string x1)).setCell ⟨rb, 1, none⟩ (.string x2)).setCell ⟨rb, 2, none⟩ (.int .i64 n)).setCell ⟨rb, 3, none⟩ (.string x4) = W := ⟨_, rfl⟩
      rw [hW3] at k0 hb3 ⊢
      have e0 : W3.cell? ⟨rb, 0, none⟩ = some (.string x1) := k0.cell 0
      have e1 : W3.cell? ⟨rb, 1, none⟩ = some (.string x2) := k0.cell 1
      have e2 : W3.cell? ⟨rb, 2, none⟩ = some (.int .i64 n) := k0.cell 2
      have e3 : W3.cell? ⟨rb, 3, none⟩ = some (.string x4) := k0.cell 3
      exact bodyPost_ret (v := .tuple #[kyV (x1, x2, n, x4), .bool true]) (by simp [results, Try.results9, go_sem, e0, e1, e2, e3]) rfl ⟨by rw [HE.out], hb3⟩
    | false =>
      have HE : Hid (K = zK) := Lib.hid (by rw [HPAR.out, if_neg (by decide)])
      clear HPAR
      go_wp2
      have k0 := (((HKR.out.set_ 0 (.string ⟨#[]⟩)).set_ 1 (.string ⟨#[]⟩)).set_ 2 (.int .i64 0)).set_ 3 (.string ⟨#[]⟩)
      have hb3 := (((HB.out.setCell (p := ⟨rb, 0, none⟩) (HRB.out) (.string ⟨#[]⟩)).setCell (p := ⟨rb, 1, none⟩) (HRB.out) (.string ⟨#[]⟩)).setCell (p := ⟨rb, 2, none⟩) (HRB.out) (.int .i64 0)).setCell (p := ⟨rb, 3, none⟩) (HRB.out) (.string ⟨#[]⟩)
      obtain ⟨W3, hW3⟩ : ∃ W, (((w6.setCell ⟨rb, 0, none⟩ (.string ⟨#[]⟩)).setCell ⟨rb, 1, none⟩ (.string ⟨#[]⟩)).setCell ⟨rb, 2, none⟩ (.int .i64 0)).setCell ⟨rb, 3, none⟩ (.string ⟨#[]⟩) = W := ⟨_, rfl⟩
      rw [hW3] at k0 hb3 ⊢
      have e0 : W3.cell? ⟨rb, 0, none⟩ = some (.string ⟨#[]⟩) := k0.cell 0
      have e1 : W3.cell? ⟨rb, 1, none⟩ = some (.string ⟨#[]⟩) := k0.cell 1
      have e2 : W3.cell? ⟨rb, 2, none⟩ = some (.int .i64 0) := k0.cell 2
      have e3 : W3.cell? ⟨rb, 3, none⟩ = some (.string ⟨#[]⟩) := k0.cell 3
      exact bodyPost_ret (v := .tuple #[kyV zK, .bool false]) (by simp [results, Try.results9, go_sem, e0, e1, e2, e3, zK]) rfl ⟨by rw [HE.out], hb3⟩
end Go.Proofs.Ytjngangojgjceaa.CA
namespace Go.Proofs.Ytjngangojgjceaa.CA
open Go.ChangeShapes Go.WideShapes Go.ChangeAt Go.RowKit Go.Maps Go.ChangeMaps
open Go.Proofs.Ytjngangojgjceaa.SL Go.Proofs.Ytjngangojgjceaa.EX Go.Proofs.Ytjngangojgjceaa.RW
set_option maxRecDepth 100000
set_option linter.unusedVariables false
set_option linter.unusedSimpArgs false

theorem neq_rk (a b : Ky) (w : World) : (binOp .neq 28 (kyV a) (kyV b)).run Try.prog w = .ok (.bool (!eqK a b)) w := by
  obtain ⟨a1, a2, a3, a4⟩ := a
  obtain ⟨b1, b2, b3, b4⟩ := b
  unfold eqK
  cases h1 : (a1.toList == b1.toList) <;> cases h2 : (a2.toList == b2.toList) <;> cases h3 : (a3 == b3) <;> cases h4 : (a4.toList == b4.toList) <;> go_simp
set_option maxHeartbeats 2000000 in
theorem lplain_any (k : Ky) (w : World) : Calls Try.prog 12 #[kyV k] w fun e w' => e = .returned (kyV k) ∧ Below w.heap.size w w' := by
  obtain ⟨db, ro, fm, no⟩ := k
  obtain ⟨kb, hkb⟩ : ∃ b, w.heap.size = b := ⟨_, rfl⟩
  obtain ⟨W0, hW0⟩ : ∃ W, w.alloc (.cells (kC (db, ro, fm, no)) 23) = W := ⟨_, rfl⟩
  have hb0 : Below w.heap.size w W0 := by rw [← hW0]; exact (Below.refl _ _).alloc (Nat.le_refl _) _
  have k0 : Bk W0 kb 23 (kC (db, ro, fm, no)) := by rw [← hW0, ← hkb]; exact Bk.new _ _ _
  obtain ⟨rb, hrb⟩ : ∃ b, W0.heap.size = b := ⟨_, rfl⟩
  obtain ⟨W1, hW1⟩ : ∃ W, W0.alloc (.cells zkC 28) = W := ⟨_, rfl⟩
  have hb1 : Below w.heap.size w W1 := by rw [← hW1]; exact hb0.alloc hb0.size _
  have k1 : Bk W1 rb 28 zkC := by rw [← hW1, ← hrb]; exact Bk.new _ _ _
  have k0 : Bk W1 kb 23 (kC (db, ro, fm, no)) := by rw [← hW1]; exact k0.alloc _
  have hrw : w.heap.size ≤ rb := by rw [← hrb]; exact hb0.size
  have a0 : W1.cell? ⟨kb, 0, none⟩ = some (.string db) := k0.cell 0
  have a1 : W1.cell? ⟨kb, 1, none⟩ = some (.string ro) := k0.cell 1
  have a2 : W1.cell? ⟨kb, 2, none⟩ = some (.int .i64 fm) := k0.cell 2
  have a3 : W1.cell? ⟨kb, 3, none⟩ = some (.string no) := k0.cell 3
  have r0 : W1.cell? ⟨rb, 0, none⟩ = some (.string ⟨#[]⟩) := k1.cell 0
  have r1 : W1.cell? ⟨rb, 1, none⟩ = some (.string ⟨#[]⟩) := k1.cell 1
  have r2 : W1.cell? ⟨rb, 2, none⟩ = some (.int .i64 0) := k1.cell 2
  have r3 : W1.cell? ⟨rb, 3, none⟩ = some (.string ⟨#[]⟩) := k1.cell 3
  have f0 := k1.frozen 0
  have f1 := k1.frozen 1
  have f2 := k1.frozen 2
  have f3 := k1.frozen 3
  have HB := Lib.hid hb1
  have HKR := Lib.hid k1
  have HRB := Lib.hid hrw
  clear hb0 hb1 k0 k1 hrw
  go_enter Try.func12, Try.ntmps12
  go_wp2
  try rw [hW0]
  try rw [hkb]
  try rw [hW1]
  try rw [hrb]
  have k0 := (((HKR.out.set_ 0 (.string db)).set_ 1 (.string ro)).set_ 2 (.int .i64 fm)).set_ 3 (.string no)
  have hb3 := (((HB.out.setCell (p := ⟨rb, 0, none⟩) (HRB.out) (.string db)).setCell (p := ⟨rb, 1, none⟩) (HRB.out) (.string ro)).setCell (p := ⟨rb, 2, none⟩) (HRB.out) (.int .i64 fm)).setCell (p := ⟨rb, 3, none⟩) (HRB.out) (.string no)
  obtain ⟨W3, hW3⟩ : ∃ W, (((W1.setCell ⟨rb, 0, none⟩ (.string db)).setCell ⟨rb, 1, none⟩ (.string ro)).setCell ⟨rb, 2, none⟩ (.int .i64 fm)).setCell ⟨rb, 3, none⟩ (.string no) = W := ⟨_, rfl⟩
  rw [hW3] at k0 hb3 ⊢
  have e0 : W3.cell? ⟨rb, 0, none⟩ = some (.string db) := k0.cell 0
  have e1 : W3.cell? ⟨rb, 1, none⟩ = some (.string ro) := k0.cell 1
  have e2 : W3.cell? ⟨rb, 2, none⟩ = some (.int .i64 fm) := k0.cell 2
  have e3 : W3.cell? ⟨rb, 3, none⟩ = some (.string no) := k0.cell 3
  exact bodyPost_ret (v := kyV (db, ro, fm, no)) (by simp [results, Try.results12, go_sem, e0, e1, e2, e3]) rfl ⟨rfl, by first | exact hb3 | (rw [← hkb]; exact hb3)⟩
theorem riKey : ∃ i z, Try.prog.info? 28 = some i ∧ i.zero = some z ∧ i.size = 4 ∧ i.bytes = 56 ∧ z.cells.size = 4 := by
  have h : (Try.prog.info? 28).bind (fun i => if i.size = 4 ∧ i.bytes = 56 then i.zero else none) = some (.agg zkC) := by kernel_rfl
  cases hi : Try.prog.info? 28 with
  | none => rw [hi] at h; cases h
  | some j =>
    rw [hi] at h
    by_cases hc : j.size = 4 ∧ j.bytes = 56
    · simp only [Option.bind_some, if_pos hc] at h
      exact ⟨j, _, rfl, h, hc.1, hc.2, rfl⟩
    · simp [hc] at h
def RKeysC (d : List Ky) (w : World) (e : Ending) (w' : World) : Prop := ∃ a c, e = .returned (.slice a d.length c) ∧ KO 28 w.heap.size w' (.slice a d.length c) d ∧ Below w.heap.size w w'
end Go.Proofs.Ytjngangojgjceaa.CA
namespace Go.Proofs.Ytjngangojgjceaa.CA
open Go.ChangeShapes Go.WideShapes Go.ChangeAt Go.RowKit Go.Maps Go.ChangeMaps
open Go.Proofs.Ytjngangojgjceaa.SL Go.Proofs.Ytjngangojgjceaa.EX Go.Proofs.Ytjngangojgjceaa.RW
set_option maxRecDepth 100000
set_option linter.unusedVariables false
set_option linter.unusedSimpArgs false

set_option maxHeartbeats 4000000 in
theorem keys_early (a : Ky) (ba : kyB a) (s val : ByteArray) (w : World) (s1 : s.size ≤ 140737488351232) (s2 : val.size ≤ 140737488351232) (h : ¬ (shK a = true ∧ s.size ≤ 500 ∧ val.size ≤ 500)) :
    Calls Try.prog 3 #[kyV a, .string s, .string val] w fun e w' => e = .returned (.bool true) ∧ Below w.heap.size w w' := by
  obtain ⟨kb, hkb⟩ : ∃ b, w.heap.size = b := ⟨_, rfl⟩
  obtain ⟨W0, hW0⟩ : ∃ W, w.alloc (.cells (kC a) 23) = W := ⟨_, rfl⟩
  have hb0 : Below w.heap.size w W0 := by rw [← hW0]; exact (Below.refl _ _).alloc (Nat.le_refl _) _
  have k0 : Bk W0 kb 23 (kC a) := by rw [← hW0, ← hkb]; exact Bk.new _ _ _
  have HB := Lib.hid hb0
  have HK := Lib.hid k0
  have HSH := Lib.hid (fun W => short_any a ba W)
  clear hb0 k0
  cases sa : shK a with
  | false =>
    rw [sa] at HSH
    clear h sa ba
    obtain ⟨a1, a2, a3, a4⟩ := a
    have k0 : W0.cell? ⟨kb, 0, none⟩ = some (.string a1) := HK.out.cell 0
    have k1 : W0.cell? ⟨kb, 1, none⟩ = some (.string a2) := HK.out.cell 1
    have k2 : W0.cell? ⟨kb, 2, none⟩ = some (.int .i64 a3) := HK.out.cell 2
    have k3 : W0.cell? ⟨kb, 3, none⟩ = some (.string a4) := HK.out.cell 3
    go_enter Try.func3, Try.ntmps3
    go_wp2_with fail
    try rw [hW0]
    try rw [hkb]
    refine (HSH.out _).mono ?_
    rintro e w1 ⟨rfl, hb1⟩
    have HK := Lib.hid (HK.out.below hb1)
    have HB := Lib.hid (HB.out.trans (hb1.mono HB.out.size))
    clear hb1 hW0 hkb
    clear k0 k1 k2 k3
    have k0 : w1.cell? ⟨kb, 0, none⟩ = some (.string a1) := HK.out.cell 0
    have k1 : w1.cell? ⟨kb, 1, none⟩ = some (.string a2) := HK.out.cell 1
    have k2 : w1.cell? ⟨kb, 2, none⟩ = some (.int .i64 a3) := HK.out.cell 2
    have k3 : w1.cell? ⟨kb, 3, none⟩ = some (.string a4) := HK.out.cell 3
    go_wp2_with fail
    refine (CA.known_any _).mono ?_
    rintro e wk ⟨rfl, hk⟩
    have HB := Lib.hid (HB.out.trans (hk.mono HB.out.size))
    clear hk
    go_wp2
    go_ret
    exact ⟨rfl, HB.out⟩
  | true =>
    rw [sa] at HSH
    by_cases h5 : s.size ≤ 500
    · have l5 : ¬ ((500 : Int) < (s.size : Int)) := by omega
      have l6 : (500 : Int) < (val.size : Int) := by
        by_cases h7 : val.size ≤ 500
        · exact absurd ⟨sa, h5, h7⟩ h
        · omega
      clear h sa ba
      obtain ⟨a1, a2, a3, a4⟩ := a
      have k0 : W0.cell? ⟨kb, 0, none⟩ = some (.string a1) := HK.out.cell 0
      have k1 : W0.cell? ⟨kb, 1, none⟩ = some (.string a2) := HK.out.cell 1
      have k2 : W0.cell? ⟨kb, 2, none⟩ = some (.int .i64 a3) := HK.out.cell 2
      have k3 : W0.cell? ⟨kb, 3, none⟩ = some (.string a4) := HK.out.cell 3
      go_enter Try.func3, Try.ntmps3
      go_wp2_with fail
      try rw [hW0]
      try rw [hkb]
      refine (HSH.out _).mono ?_
      rintro e w1 ⟨rfl, hb1⟩
      have HK := Lib.hid (HK.out.below hb1)
      have HB := Lib.hid (HB.out.trans (hb1.mono HB.out.size))
      clear hb1 hW0 hkb
      clear k0 k1 k2 k3
      have k0 : w1.cell? ⟨kb, 0, none⟩ = some (.string a1) := HK.out.cell 0
      have k1 : w1.cell? ⟨kb, 1, none⟩ = some (.string a2) := HK.out.cell 1
      have k2 : w1.cell? ⟨kb, 2, none⟩ = some (.int .i64 a3) := HK.out.cell 2
      have k3 : w1.cell? ⟨kb, 3, none⟩ = some (.string a4) := HK.out.cell 3
      go_wp2_with fail
      refine (CA.known_any _).mono ?_
      rintro e wk ⟨rfl, hk⟩
      have HB := Lib.hid (HB.out.trans (hk.mono HB.out.size))
      clear hk
      go_wp2
      go_ret
      exact ⟨rfl, HB.out⟩
    · have l5 : (500 : Int) < (s.size : Int) := by omega
      clear h sa ba
      obtain ⟨a1, a2, a3, a4⟩ := a
      have k0 : W0.cell? ⟨kb, 0, none⟩ = some (.string a1) := HK.out.cell 0
      have k1 : W0.cell? ⟨kb, 1, none⟩ = some (.string a2) := HK.out.cell 1
      have k2 : W0.cell? ⟨kb, 2, none⟩ = some (.int .i64 a3) := HK.out.cell 2
      have k3 : W0.cell? ⟨kb, 3, none⟩ = some (.string a4) := HK.out.cell 3
      go_enter Try.func3, Try.ntmps3
      go_wp2_with fail
      try rw [hW0]
      try rw [hkb]
      refine (HSH.out _).mono ?_
      rintro e w1 ⟨rfl, hb1⟩
      have HK := Lib.hid (HK.out.below hb1)
      have HB := Lib.hid (HB.out.trans (hb1.mono HB.out.size))
      clear hb1 hW0 hkb
      clear k0 k1 k2 k3
      have k0 : w1.cell? ⟨kb, 0, none⟩ = some (.string a1) := HK.out.cell 0
      have k1 : w1.cell? ⟨kb, 1, none⟩ = some (.string a2) := HK.out.cell 1
      have k2 : w1.cell? ⟨kb, 2, none⟩ = some (.int .i64 a3) := HK.out.cell 2
      have k3 : w1.cell? ⟨kb, 3, none⟩ = some (.string a4) := HK.out.cell 3
      go_wp2_with fail
      refine (CA.known_any _).mono ?_
      rintro e wk ⟨rfl, hk⟩
      have HB := Lib.hid (HB.out.trans (hk.mono HB.out.size))
      clear hk
      go_wp2
      go_ret
      exact ⟨rfl, HB.out⟩
set_option maxHeartbeats 16000000 in
theorem keys_main (a : Ky) (ba : kyB a) (s val : ByteArray) (w : World) (s1 : s.size ≤ 500) (s2 : val.size ≤ 500) (sa : shK a = true) :
    Calls Try.prog 3 #[kyV a, .string s, .string val] w fun e w' => e = .returned (.bool true) ∧ Below w.heap.size w w' := by
  obtain ⟨kb, hkb⟩ : ∃ b, w.heap.size = b := ⟨_, rfl⟩
  obtain ⟨W0, hW0⟩ : ∃ W, w.alloc (.cells (kC a) 23) = W := ⟨_, rfl⟩
  have hb0 : Below w.heap.size w W0 := by rw [← hW0]; exact (Below.refl _ _).alloc (Nat.le_refl _) _
  have k0 : Bk W0 kb 23 (kC a) := by rw [← hW0, ← hkb]; exact Bk.new _ _ _
  have HB := Lib.hid hb0
  have HK := Lib.hid k0
  have HSH := Lib.hid (fun W => short_any a ba W)
  clear hb0 k0
  rw [sa] at HSH
  have l5 : ¬ ((500 : Int) < (s.size : Int)) := by omega
  have l6 : ¬ ((500 : Int) < (val.size : Int)) := by omega
  have fa : FitK a := (ba.sh sa).fit
  obtain ⟨P, hP⟩ : ∃ P, parK s = P := ⟨_, rfl⟩
  have HPA := Lib.hid (fun W => parse_any s (by omega) W)
  have HRPA := Lib.hid (fun W => rparse_any s (by omega) W)
  unfold ParP at HPA HRPA
  rw [hP] at HPA HRPA
  have HSZ := Lib.hid (fun W => size_any a val fa (by omega) W)
  have HRS := Lib.hid (fun W => rsize_any a val fa (by omega) W)
  obtain ⟨z, hz⟩ : ∃ z, szK a val = z := ⟨_, rfl⟩
  rw [hz] at HSZ HRS
  have HNP := Lib.hid (fun W => neq_rk P P W)
  rw [show (!eqK P P) = false by rw [eqK_iff.2 rfl]; rfl] at HNP
  have HE := Lib.hid (fun W => eql_ky a a W)
  rw [show (eqK a a) = true from eqK_iff.2 rfl] at HE
  have HPL := Lib.hid (fun k W => lplain_any k W)
  have HTP : Hid (okP s = true → ∀ W, Calls Try.prog 10 #[kyV P] W fun e w' => e = .returned (.string s) ∧ Below W.heap.size W w') := Lib.hid (by
    intro ho W
    obtain ⟨r1, r2⟩ := par_ok ho
    have hl := read_le s
    have h := text_any P (by
      have hpr : readK s = P := by rw [← hP]; unfold parK; rw [if_pos ho]
      rw [hpr] at hl
      rw [hP] at r1
      refine ⟨by omega, by omega, by omega, ?_⟩
      rcases (right_iff.1 r1).2.2.2 with h | h <;> omega) W
    rw [← hP, txt_right r1, r2] at h
    rw [← hP]; exact h)
  have HT := Lib.hid (fun W => text_any a fa W)
  have HRT := Lib.hid (fun W => rtext_any a fa W)
  cases hr : rightK a with
  | true =>
    obtain ⟨T, hT⟩ : ∃ T, textK a = T := ⟨_, rfl⟩
    have hne : T.toList.isEmpty = false := toL_ne (by rw [← hT]; exact text_ne hr)
    have HPT := Lib.hid (fun W => parse_any T (by rw [← hT, text_size hr]; have := of_decide_eq_true sa; omega) W)
    unfold ParP at HPT
    rw [← hT, par_text hr, ok_text hr, hT] at HPT
    rw [txt_right hr, hT] at HT HRT
    cases hO : okP s with
    | true =>
      rw [hO] at HPA HRPA
      have HTP := Lib.hid (HTP.out hO)
      obtain ⟨p1, p2, p3, p4⟩ := P
      clear hT hO hr hP hz fa sa ba s1 s2
      obtain ⟨a1, a2, a3, a4⟩ := a
      have k0 : W0.cell? ⟨kb, 0, none⟩ = some (.string a1) := HK.out.cell 0
      have k1 : W0.cell? ⟨kb, 1, none⟩ = some (.string a2) := HK.out.cell 1
      have k2 : W0.cell? ⟨kb, 2, none⟩ = some (.int .i64 a3) := HK.out.cell 2
      have k3 : W0.cell? ⟨kb, 3, none⟩ = some (.string a4) := HK.out.cell 3
      go_enter Try.func3, Try.ntmps3
      go_wp2_with fail
      try rw [hW0]
      try rw [hkb]
      refine (HSH.out _).mono ?_
      rintro e w1 ⟨rfl, hb1⟩
      have HK := Lib.hid (HK.out.below hb1)
      have HB := Lib.hid (HB.out.trans (hb1.mono HB.out.size))
      clear hb1 hW0 hkb
      clear k0 k1 k2 k3
      have k0 : w1.cell? ⟨kb, 0, none⟩ = some (.string a1) := HK.out.cell 0
      have k1 : w1.cell? ⟨kb, 1, none⟩ = some (.string a2) := HK.out.cell 1
      have k2 : w1.cell? ⟨kb, 2, none⟩ = some (.int .i64 a3) := HK.out.cell 2
      have k3 : w1.cell? ⟨kb, 3, none⟩ = some (.string a4) := HK.out.cell 3
      go_wp2_with fail
      refine (HPA.out _).mono ?_
      rintro e w2 ⟨rfl, hb2⟩
      have HB := Lib.hid (HB.out.trans (hb2.mono HB.out.size))
      have HK := Lib.hid (HK.out.below hb2)
      clear hb2 HPA
      clear k0 k1 k2 k3
      obtain ⟨W7, hW7⟩ : ∃ W, w2.alloc (.cells #[.string p1, .string p2, .int .i64 p3, .string p4] 23) = W := ⟨_, rfl⟩
      obtain ⟨pb, hpb⟩ : ∃ b, w2.heap.size = b := ⟨_, rfl⟩
      have hbz : Below w2.heap.size w2 W7 := by rw [← hW7]; exact (Below.refl _ _).alloc (Nat.le_refl _) _
      have HB := Lib.hid (HB.out.trans (hbz.mono HB.out.size))
      have HK := Lib.hid (HK.out.below hbz)
      have HP := Lib.hid (show Bk W7 pb 23 (kC (p1, p2, p3, p4)) by rw [← hW7, ← hpb]; exact Bk.new _ _ _)
      clear hbz
      have k0 : W7.cell? ⟨kb, 0, none⟩ = some (.string a1) := HK.out.cell 0
      have k1 : W7.cell? ⟨kb, 1, none⟩ = some (.string a2) := HK.out.cell 1
      have k2 : W7.cell? ⟨kb, 2, none⟩ = some (.int .i64 a3) := HK.out.cell 2
      have k3 : W7.cell? ⟨kb, 3, none⟩ = some (.string a4) := HK.out.cell 3
      have g0 : W7.cell? ⟨pb, 0, none⟩ = some (.string p1) := HP.out.cell 0
      have g1 : W7.cell? ⟨pb, 1, none⟩ = some (.string p2) := HP.out.cell 1
      have g2 : W7.cell? ⟨pb, 2, none⟩ = some (.int .i64 p3) := HP.out.cell 2
      have g3 : W7.cell? ⟨pb, 3, none⟩ = some (.string p4) := HP.out.cell 3
      go_wp2_with fail
      try rw [hW7]
      try rw [hpb]
      refine (HRPA.out _).mono ?_
      rintro e w3 ⟨rfl, hb3⟩
      have HB := Lib.hid (HB.out.trans (hb3.mono HB.out.size))
      have HK := Lib.hid (HK.out.below hb3)
      have HP := Lib.hid (HP.out.below hb3)
      clear hb3 HRPA hW7 hpb
      clear k0 k1 k2 k3 g0 g1 g2 g3
      obtain ⟨W9, hW9⟩ : ∃ W, w3.alloc (.cells #[.string p1, .string p2, .int .i64 p3, .string p4] 28) = W := ⟨_, rfl⟩
      obtain ⟨qb, hqb⟩ : ∃ b, w3.heap.size = b := ⟨_, rfl⟩
      have hbz : Below w3.heap.size w3 W9 := by rw [← hW9]; exact (Below.refl _ _).alloc (Nat.le_refl _) _
      have HB := Lib.hid (HB.out.trans (hbz.mono HB.out.size))
      have HK := Lib.hid (HK.out.below hbz)
      have HP := Lib.hid (HP.out.below hbz)
      have HQ := Lib.hid (show Bk W9 qb 28 (kC (p1, p2, p3, p4)) by rw [← hW9, ← hqb]; exact Bk.new _ _ _)
      clear hbz
      have k0 : W9.cell? ⟨kb, 0, none⟩ = some (.string a1) := HK.out.cell 0
      have k1 : W9.cell? ⟨kb, 1, none⟩ = some (.string a2) := HK.out.cell 1
      have k2 : W9.cell? ⟨kb, 2, none⟩ = some (.int .i64 a3) := HK.out.cell 2
      have k3 : W9.cell? ⟨kb, 3, none⟩ = some (.string a4) := HK.out.cell 3
      have g0 : W9.cell? ⟨pb, 0, none⟩ = some (.string p1) := HP.out.cell 0
      have g1 : W9.cell? ⟨pb, 1, none⟩ = some (.string p2) := HP.out.cell 1
      have g2 : W9.cell? ⟨pb, 2, none⟩ = some (.int .i64 p3) := HP.out.cell 2
      have g3 : W9.cell? ⟨pb, 3, none⟩ = some (.string p4) := HP.out.cell 3
      have q0 : W9.cell? ⟨qb, 0, none⟩ = some (.string p1) := HQ.out.cell 0
      have q1 : W9.cell? ⟨qb, 1, none⟩ = some (.string p2) := HQ.out.cell 1
      have q2 : W9.cell? ⟨qb, 2, none⟩ = some (.int .i64 p3) := HQ.out.cell 2
      have q3 : W9.cell? ⟨qb, 3, none⟩ = some (.string p4) := HQ.out.cell 3
      go_wp2_with fail
      try rw [hW9]
      try rw [hqb]
      have HLK := Lib.hid HK.out.lt
      have HLP := Lib.hid HP.out.lt
      have HLQ := Lib.hid HQ.out.lt
      clear hW9 hqb
      refine wp_region_held_drew (S := (fun w' => Below W9.heap.size W9 w')) (by kernel_rfl) ?_ (fun hS => ?_)
      · exact (Below.refl _ _).drew
      refine tkY 0 ?_ rfl hS ?_ ?_
      rotate_left
      · intro wz hz
        have zk0 := (hz.cell (p := ⟨kb, 0, none⟩) HLK.out).trans k0
        have zk1 := (hz.cell (p := ⟨kb, 1, none⟩) HLK.out).trans k1
        have zk2 := (hz.cell (p := ⟨kb, 2, none⟩) HLK.out).trans k2
        have zk3 := (hz.cell (p := ⟨kb, 3, none⟩) HLK.out).trans k3
        have zg0 := (hz.cell (p := ⟨pb, 0, none⟩) HLP.out).trans g0
        have zg1 := (hz.cell (p := ⟨pb, 1, none⟩) HLP.out).trans g1
        have zg2 := (hz.cell (p := ⟨pb, 2, none⟩) HLP.out).trans g2
        have zg3 := (hz.cell (p := ⟨pb, 3, none⟩) HLP.out).trans g3
        have zq0 := (hz.cell (p := ⟨qb, 0, none⟩) HLQ.out).trans q0
        have zq1 := (hz.cell (p := ⟨qb, 1, none⟩) HLQ.out).trans q1
        have zq2 := (hz.cell (p := ⟨qb, 2, none⟩) HLQ.out).trans q2
        have zq3 := (hz.cell (p := ⟨qb, 3, none⟩) HLQ.out).trans q3
        go_simp
        all_goals first | with_reducible rfl | omega
      try simp only [Act.put, pu]
      refine tkY 2 ?_ rfl hS ?_ ?_
      rotate_left
      · intro wz hz
        have zk0 := (hz.cell (p := ⟨kb, 0, none⟩) HLK.out).trans k0
        have zk1 := (hz.cell (p := ⟨kb, 1, none⟩) HLK.out).trans k1
        have zk2 := (hz.cell (p := ⟨kb, 2, none⟩) HLK.out).trans k2
        have zk3 := (hz.cell (p := ⟨kb, 3, none⟩) HLK.out).trans k3
        have zg0 := (hz.cell (p := ⟨pb, 0, none⟩) HLP.out).trans g0
        have zg1 := (hz.cell (p := ⟨pb, 1, none⟩) HLP.out).trans g1
        have zg2 := (hz.cell (p := ⟨pb, 2, none⟩) HLP.out).trans g2
        have zg3 := (hz.cell (p := ⟨pb, 3, none⟩) HLP.out).trans g3
        have zq0 := (hz.cell (p := ⟨qb, 0, none⟩) HLQ.out).trans q0
        have zq1 := (hz.cell (p := ⟨qb, 1, none⟩) HLQ.out).trans q1
        have zq2 := (hz.cell (p := ⟨qb, 2, none⟩) HLQ.out).trans q2
        have zq3 := (hz.cell (p := ⟨qb, 3, none⟩) HLQ.out).trans q3
        go_simp
        all_goals first | with_reducible rfl | omega
      try simp only [Act.put, pu]
      refine wpAnyH_ready (rs := [1]) (by kernel_rfl) (by simp) (AllReadyH.cons rfl (fun K' hK' => ?_) AllReadyH.nil)
      go_simp
      have hbd : Below W9.heap.size W9 W9.drew := (Below.refl _ _).drew
      refine (HT.out _).mono ?_
      rintro e u1 ⟨rfl, b4⟩
      have HU := Lib.hid (hbd.trans (b4.mono hbd.size))
      clear b4 hbd
      refine hK'.out _ _ ?_ (fun hSn => ?_)
      · exact HU.out
      clear hK' K' hS
      have hS := hSn
      clear hSn
      try simp only [Act.put, pu]
      refine wpAnyH_ready (rs := [3]) (by kernel_rfl) (by simp) (AllReadyH.cons rfl (fun K' hK' => ?_) AllReadyH.nil)
      go_simp
      refine (HPL.out (a1, a2, a3, a4) _).mono ?_
      rintro e u2 ⟨rfl, b4⟩
      have HU := Lib.hid (HU.out.trans (b4.mono HU.out.size))
      clear b4
      refine hK'.out _ _ ?_ (fun hSn => ?_)
      · exact HU.out
      clear hK' K' hS
      have hS := hSn
      clear hSn
      try simp only [Act.put, pu]
      refine wpAnyH_ready (rs := [4]) (by kernel_rfl) (by simp) (AllReadyH.cons rfl (fun K' hK' => ?_) AllReadyH.nil)
      go_simp
      refine (HRT.out _).mono ?_
      rintro e u3 ⟨rfl, b4⟩
      have HU := Lib.hid (HU.out.trans (b4.mono HU.out.size))
      clear b4
      refine hK'.out _ _ ?_ (fun hSn => ?_)
      · exact HU.out
      clear hK' K' hS
      have hS := hSn
      clear hSn
      try simp only [Act.put, pu]
      refine tkY 5 ?_ rfl hS ?_ ?_
      rotate_left
      · intro wz hz
        have zk0 := (hz.cell (p := ⟨kb, 0, none⟩) HLK.out).trans k0
        have zk1 := (hz.cell (p := ⟨kb, 1, none⟩) HLK.out).trans k1
        have zk2 := (hz.cell (p := ⟨kb, 2, none⟩) HLK.out).trans k2
        have zk3 := (hz.cell (p := ⟨kb, 3, none⟩) HLK.out).trans k3
        have zg0 := (hz.cell (p := ⟨pb, 0, none⟩) HLP.out).trans g0
        have zg1 := (hz.cell (p := ⟨pb, 1, none⟩) HLP.out).trans g1
        have zg2 := (hz.cell (p := ⟨pb, 2, none⟩) HLP.out).trans g2
        have zg3 := (hz.cell (p := ⟨pb, 3, none⟩) HLP.out).trans g3
        have zq0 := (hz.cell (p := ⟨qb, 0, none⟩) HLQ.out).trans q0
        have zq1 := (hz.cell (p := ⟨qb, 1, none⟩) HLQ.out).trans q1
        have zq2 := (hz.cell (p := ⟨qb, 2, none⟩) HLQ.out).trans q2
        have zq3 := (hz.cell (p := ⟨qb, 3, none⟩) HLQ.out).trans q3
        go_simp
        all_goals first | with_reducible rfl | omega
      try simp only [Act.put, pu]
      refine tkY 6 ?_ rfl hS ?_ ?_
      rotate_left
      · intro wz hz
        have zk0 := (hz.cell (p := ⟨kb, 0, none⟩) HLK.out).trans k0
        have zk1 := (hz.cell (p := ⟨kb, 1, none⟩) HLK.out).trans k1
        have zk2 := (hz.cell (p := ⟨kb, 2, none⟩) HLK.out).trans k2
        have zk3 := (hz.cell (p := ⟨kb, 3, none⟩) HLK.out).trans k3
        have zg0 := (hz.cell (p := ⟨pb, 0, none⟩) HLP.out).trans g0
        have zg1 := (hz.cell (p := ⟨pb, 1, none⟩) HLP.out).trans g1
        have zg2 := (hz.cell (p := ⟨pb, 2, none⟩) HLP.out).trans g2
        have zg3 := (hz.cell (p := ⟨pb, 3, none⟩) HLP.out).trans g3
        have zq0 := (hz.cell (p := ⟨qb, 0, none⟩) HLQ.out).trans q0
        have zq1 := (hz.cell (p := ⟨qb, 1, none⟩) HLQ.out).trans q1
        have zq2 := (hz.cell (p := ⟨qb, 2, none⟩) HLQ.out).trans q2
        have zq3 := (hz.cell (p := ⟨qb, 3, none⟩) HLQ.out).trans q3
        go_simp
        all_goals first | with_reducible rfl | omega
      try simp only [Act.put, pu]
      refine tkY 7 ?_ rfl hS ?_ ?_
      rotate_left
      · intro wz hz
        have zk0 := (hz.cell (p := ⟨kb, 0, none⟩) HLK.out).trans k0
        have zk1 := (hz.cell (p := ⟨kb, 1, none⟩) HLK.out).trans k1
        have zk2 := (hz.cell (p := ⟨kb, 2, none⟩) HLK.out).trans k2
        have zk3 := (hz.cell (p := ⟨kb, 3, none⟩) HLK.out).trans k3
        have zg0 := (hz.cell (p := ⟨pb, 0, none⟩) HLP.out).trans g0
        have zg1 := (hz.cell (p := ⟨pb, 1, none⟩) HLP.out).trans g1
        have zg2 := (hz.cell (p := ⟨pb, 2, none⟩) HLP.out).trans g2
        have zg3 := (hz.cell (p := ⟨pb, 3, none⟩) HLP.out).trans g3
        have zq0 := (hz.cell (p := ⟨qb, 0, none⟩) HLQ.out).trans q0
        have zq1 := (hz.cell (p := ⟨qb, 1, none⟩) HLQ.out).trans q1
        have zq2 := (hz.cell (p := ⟨qb, 2, none⟩) HLQ.out).trans q2
        have zq3 := (hz.cell (p := ⟨qb, 3, none⟩) HLQ.out).trans q3
        go_simp
        all_goals first | with_reducible rfl | omega
      try simp only [Act.put, pu]
      refine tkY 9 ?_ rfl hS ?_ ?_
      rotate_left
      · intro wz hz
        have zk0 := (hz.cell (p := ⟨kb, 0, none⟩) HLK.out).trans k0
        have zk1 := (hz.cell (p := ⟨kb, 1, none⟩) HLK.out).trans k1
        have zk2 := (hz.cell (p := ⟨kb, 2, none⟩) HLK.out).trans k2
        have zk3 := (hz.cell (p := ⟨kb, 3, none⟩) HLK.out).trans k3
        have zg0 := (hz.cell (p := ⟨pb, 0, none⟩) HLP.out).trans g0
        have zg1 := (hz.cell (p := ⟨pb, 1, none⟩) HLP.out).trans g1
        have zg2 := (hz.cell (p := ⟨pb, 2, none⟩) HLP.out).trans g2
        have zg3 := (hz.cell (p := ⟨pb, 3, none⟩) HLP.out).trans g3
        have zq0 := (hz.cell (p := ⟨qb, 0, none⟩) HLQ.out).trans q0
        have zq1 := (hz.cell (p := ⟨qb, 1, none⟩) HLQ.out).trans q1
        have zq2 := (hz.cell (p := ⟨qb, 2, none⟩) HLQ.out).trans q2
        have zq3 := (hz.cell (p := ⟨qb, 3, none⟩) HLQ.out).trans q3
        go_simp
        all_goals first | with_reducible rfl | omega
      try simp only [Act.put, pu]
      refine wpAnyH_ready (rs := [8]) (by kernel_rfl) (by simp) (AllReadyH.cons rfl (fun K' hK' => ?_) AllReadyH.nil)
      go_simp
      refine (HPL.out (p1, p2, p3, p4) _).mono ?_
      rintro e u4 ⟨rfl, b4⟩
      have HU := Lib.hid (HU.out.trans (b4.mono HU.out.size))
      clear b4
      refine hK'.out _ _ ?_ (fun hSn => ?_)
      · exact HU.out
      clear hK' K' hS
      have hS := hSn
      clear hSn
      try simp only [Act.put, pu]
      have hn := HNP.out
      refine tkY 10 ?_ rfl hS ?_ ?_
      rotate_left
      · intro wz hz
        have zk0 := (hz.cell (p := ⟨kb, 0, none⟩) HLK.out).trans k0
        have zk1 := (hz.cell (p := ⟨kb, 1, none⟩) HLK.out).trans k1
        have zk2 := (hz.cell (p := ⟨kb, 2, none⟩) HLK.out).trans k2
        have zk3 := (hz.cell (p := ⟨kb, 3, none⟩) HLK.out).trans k3
        have zg0 := (hz.cell (p := ⟨pb, 0, none⟩) HLP.out).trans g0
        have zg1 := (hz.cell (p := ⟨pb, 1, none⟩) HLP.out).trans g1
        have zg2 := (hz.cell (p := ⟨pb, 2, none⟩) HLP.out).trans g2
        have zg3 := (hz.cell (p := ⟨pb, 3, none⟩) HLP.out).trans g3
        have zq0 := (hz.cell (p := ⟨qb, 0, none⟩) HLQ.out).trans q0
        have zq1 := (hz.cell (p := ⟨qb, 1, none⟩) HLQ.out).trans q1
        have zq2 := (hz.cell (p := ⟨qb, 2, none⟩) HLQ.out).trans q2
        have zq3 := (hz.cell (p := ⟨qb, 3, none⟩) HLQ.out).trans q3
        go_simp
        all_goals first | with_reducible rfl | omega
      try simp only [Act.put, pu]
      clear hn
      refine tkY 11 ?_ rfl hS ?_ ?_
      rotate_left
      · intro wz hz
        have zk0 := (hz.cell (p := ⟨kb, 0, none⟩) HLK.out).trans k0
        have zk1 := (hz.cell (p := ⟨kb, 1, none⟩) HLK.out).trans k1
        have zk2 := (hz.cell (p := ⟨kb, 2, none⟩) HLK.out).trans k2
        have zk3 := (hz.cell (p := ⟨kb, 3, none⟩) HLK.out).trans k3
        have zg0 := (hz.cell (p := ⟨pb, 0, none⟩) HLP.out).trans g0
        have zg1 := (hz.cell (p := ⟨pb, 1, none⟩) HLP.out).trans g1
        have zg2 := (hz.cell (p := ⟨pb, 2, none⟩) HLP.out).trans g2
        have zg3 := (hz.cell (p := ⟨pb, 3, none⟩) HLP.out).trans g3
        have zq0 := (hz.cell (p := ⟨qb, 0, none⟩) HLQ.out).trans q0
        have zq1 := (hz.cell (p := ⟨qb, 1, none⟩) HLQ.out).trans q1
        have zq2 := (hz.cell (p := ⟨qb, 2, none⟩) HLQ.out).trans q2
        have zq3 := (hz.cell (p := ⟨qb, 3, none⟩) HLQ.out).trans q3
        go_simp
        all_goals first | with_reducible rfl | omega
      try simp only [Act.put, pu]
      refine tkY 12 ?_ rfl hS ?_ ?_
      rotate_left
      · intro wz hz
        have zk0 := (hz.cell (p := ⟨kb, 0, none⟩) HLK.out).trans k0
        have zk1 := (hz.cell (p := ⟨kb, 1, none⟩) HLK.out).trans k1
        have zk2 := (hz.cell (p := ⟨kb, 2, none⟩) HLK.out).trans k2
        have zk3 := (hz.cell (p := ⟨kb, 3, none⟩) HLK.out).trans k3
        have zg0 := (hz.cell (p := ⟨pb, 0, none⟩) HLP.out).trans g0
        have zg1 := (hz.cell (p := ⟨pb, 1, none⟩) HLP.out).trans g1
        have zg2 := (hz.cell (p := ⟨pb, 2, none⟩) HLP.out).trans g2
        have zg3 := (hz.cell (p := ⟨pb, 3, none⟩) HLP.out).trans g3
        have zq0 := (hz.cell (p := ⟨qb, 0, none⟩) HLQ.out).trans q0
        have zq1 := (hz.cell (p := ⟨qb, 1, none⟩) HLQ.out).trans q1
        have zq2 := (hz.cell (p := ⟨qb, 2, none⟩) HLQ.out).trans q2
        have zq3 := (hz.cell (p := ⟨qb, 3, none⟩) HLQ.out).trans q3
        go_simp
        all_goals first | with_reducible rfl | omega
      try simp only [Act.put, pu]
      refine tkY 13 ?_ rfl hS ?_ ?_
      rotate_left
      · intro wz hz
        have zk0 := (hz.cell (p := ⟨kb, 0, none⟩) HLK.out).trans k0
        have zk1 := (hz.cell (p := ⟨kb, 1, none⟩) HLK.out).trans k1
        have zk2 := (hz.cell (p := ⟨kb, 2, none⟩) HLK.out).trans k2
        have zk3 := (hz.cell (p := ⟨kb, 3, none⟩) HLK.out).trans k3
        have zg0 := (hz.cell (p := ⟨pb, 0, none⟩) HLP.out).trans g0
        have zg1 := (hz.cell (p := ⟨pb, 1, none⟩) HLP.out).trans g1
        have zg2 := (hz.cell (p := ⟨pb, 2, none⟩) HLP.out).trans g2
        have zg3 := (hz.cell (p := ⟨pb, 3, none⟩) HLP.out).trans g3
        have zq0 := (hz.cell (p := ⟨qb, 0, none⟩) HLQ.out).trans q0
        have zq1 := (hz.cell (p := ⟨qb, 1, none⟩) HLQ.out).trans q1
        have zq2 := (hz.cell (p := ⟨qb, 2, none⟩) HLQ.out).trans q2
        have zq3 := (hz.cell (p := ⟨qb, 3, none⟩) HLQ.out).trans q3
        go_simp
        all_goals first | with_reducible rfl | omega
      try simp only [Act.put, pu]
      refine tkY 14 ?_ rfl hS ?_ ?_
      rotate_left
      · intro wz hz
        have zk0 := (hz.cell (p := ⟨kb, 0, none⟩) HLK.out).trans k0
        have zk1 := (hz.cell (p := ⟨kb, 1, none⟩) HLK.out).trans k1
        have zk2 := (hz.cell (p := ⟨kb, 2, none⟩) HLK.out).trans k2
        have zk3 := (hz.cell (p := ⟨kb, 3, none⟩) HLK.out).trans k3
        have zg0 := (hz.cell (p := ⟨pb, 0, none⟩) HLP.out).trans g0
        have zg1 := (hz.cell (p := ⟨pb, 1, none⟩) HLP.out).trans g1
        have zg2 := (hz.cell (p := ⟨pb, 2, none⟩) HLP.out).trans g2
        have zg3 := (hz.cell (p := ⟨pb, 3, none⟩) HLP.out).trans g3
        have zq0 := (hz.cell (p := ⟨qb, 0, none⟩) HLQ.out).trans q0
        have zq1 := (hz.cell (p := ⟨qb, 1, none⟩) HLQ.out).trans q1
        have zq2 := (hz.cell (p := ⟨qb, 2, none⟩) HLQ.out).trans q2
        have zq3 := (hz.cell (p := ⟨qb, 3, none⟩) HLQ.out).trans q3
        go_simp
        all_goals first | with_reducible rfl | omega
      try simp only [Act.put, pu]
      refine tkY 15 ?_ rfl hS ?_ ?_
      rotate_left
      · intro wz hz
        have zk0 := (hz.cell (p := ⟨kb, 0, none⟩) HLK.out).trans k0
        have zk1 := (hz.cell (p := ⟨kb, 1, none⟩) HLK.out).trans k1
        have zk2 := (hz.cell (p := ⟨kb, 2, none⟩) HLK.out).trans k2
        have zk3 := (hz.cell (p := ⟨kb, 3, none⟩) HLK.out).trans k3
        have zg0 := (hz.cell (p := ⟨pb, 0, none⟩) HLP.out).trans g0
        have zg1 := (hz.cell (p := ⟨pb, 1, none⟩) HLP.out).trans g1
        have zg2 := (hz.cell (p := ⟨pb, 2, none⟩) HLP.out).trans g2
        have zg3 := (hz.cell (p := ⟨pb, 3, none⟩) HLP.out).trans g3
        have zq0 := (hz.cell (p := ⟨qb, 0, none⟩) HLQ.out).trans q0
        have zq1 := (hz.cell (p := ⟨qb, 1, none⟩) HLQ.out).trans q1
        have zq2 := (hz.cell (p := ⟨qb, 2, none⟩) HLQ.out).trans q2
        have zq3 := (hz.cell (p := ⟨qb, 3, none⟩) HLQ.out).trans q3
        go_simp
        all_goals first | with_reducible rfl | omega
      try simp only [Act.put, pu]
      refine tkY 16 ?_ rfl hS ?_ ?_
      rotate_left
      · intro wz hz
        have zk0 := (hz.cell (p := ⟨kb, 0, none⟩) HLK.out).trans k0
        have zk1 := (hz.cell (p := ⟨kb, 1, none⟩) HLK.out).trans k1
        have zk2 := (hz.cell (p := ⟨kb, 2, none⟩) HLK.out).trans k2
        have zk3 := (hz.cell (p := ⟨kb, 3, none⟩) HLK.out).trans k3
        have zg0 := (hz.cell (p := ⟨pb, 0, none⟩) HLP.out).trans g0
        have zg1 := (hz.cell (p := ⟨pb, 1, none⟩) HLP.out).trans g1
        have zg2 := (hz.cell (p := ⟨pb, 2, none⟩) HLP.out).trans g2
        have zg3 := (hz.cell (p := ⟨pb, 3, none⟩) HLP.out).trans g3
        have zq0 := (hz.cell (p := ⟨qb, 0, none⟩) HLQ.out).trans q0
        have zq1 := (hz.cell (p := ⟨qb, 1, none⟩) HLQ.out).trans q1
        have zq2 := (hz.cell (p := ⟨qb, 2, none⟩) HLQ.out).trans q2
        have zq3 := (hz.cell (p := ⟨qb, 3, none⟩) HLQ.out).trans q3
        go_simp
        all_goals first | with_reducible rfl | omega
      try simp only [Act.put, pu]
      refine tkY 17 ?_ rfl hS ?_ ?_
      rotate_left
      · intro wz hz
        have zk0 := (hz.cell (p := ⟨kb, 0, none⟩) HLK.out).trans k0
        have zk1 := (hz.cell (p := ⟨kb, 1, none⟩) HLK.out).trans k1
        have zk2 := (hz.cell (p := ⟨kb, 2, none⟩) HLK.out).trans k2
        have zk3 := (hz.cell (p := ⟨kb, 3, none⟩) HLK.out).trans k3
        have zg0 := (hz.cell (p := ⟨pb, 0, none⟩) HLP.out).trans g0
        have zg1 := (hz.cell (p := ⟨pb, 1, none⟩) HLP.out).trans g1
        have zg2 := (hz.cell (p := ⟨pb, 2, none⟩) HLP.out).trans g2
        have zg3 := (hz.cell (p := ⟨pb, 3, none⟩) HLP.out).trans g3
        have zq0 := (hz.cell (p := ⟨qb, 0, none⟩) HLQ.out).trans q0
        have zq1 := (hz.cell (p := ⟨qb, 1, none⟩) HLQ.out).trans q1
        have zq2 := (hz.cell (p := ⟨qb, 2, none⟩) HLQ.out).trans q2
        have zq3 := (hz.cell (p := ⟨qb, 3, none⟩) HLQ.out).trans q3
        go_simp
        all_goals first | with_reducible rfl | omega
      try simp only [Act.put, pu]
      refine tkY 18 ?_ rfl hS ?_ ?_
      rotate_left
      · intro wz hz
        have zk0 := (hz.cell (p := ⟨kb, 0, none⟩) HLK.out).trans k0
        have zk1 := (hz.cell (p := ⟨kb, 1, none⟩) HLK.out).trans k1
        have zk2 := (hz.cell (p := ⟨kb, 2, none⟩) HLK.out).trans k2
        have zk3 := (hz.cell (p := ⟨kb, 3, none⟩) HLK.out).trans k3
        have zg0 := (hz.cell (p := ⟨pb, 0, none⟩) HLP.out).trans g0
        have zg1 := (hz.cell (p := ⟨pb, 1, none⟩) HLP.out).trans g1
        have zg2 := (hz.cell (p := ⟨pb, 2, none⟩) HLP.out).trans g2
        have zg3 := (hz.cell (p := ⟨pb, 3, none⟩) HLP.out).trans g3
        have zq0 := (hz.cell (p := ⟨qb, 0, none⟩) HLQ.out).trans q0
        have zq1 := (hz.cell (p := ⟨qb, 1, none⟩) HLQ.out).trans q1
        have zq2 := (hz.cell (p := ⟨qb, 2, none⟩) HLQ.out).trans q2
        have zq3 := (hz.cell (p := ⟨qb, 3, none⟩) HLQ.out).trans q3
        go_simp
        all_goals first | with_reducible rfl | omega
      try simp only [Act.put, pu]
      refine tkY 19 ?_ rfl hS ?_ ?_
      rotate_left
      · intro wz hz
        have zk0 := (hz.cell (p := ⟨kb, 0, none⟩) HLK.out).trans k0
        have zk1 := (hz.cell (p := ⟨kb, 1, none⟩) HLK.out).trans k1
        have zk2 := (hz.cell (p := ⟨kb, 2, none⟩) HLK.out).trans k2
        have zk3 := (hz.cell (p := ⟨kb, 3, none⟩) HLK.out).trans k3
        have zg0 := (hz.cell (p := ⟨pb, 0, none⟩) HLP.out).trans g0
        have zg1 := (hz.cell (p := ⟨pb, 1, none⟩) HLP.out).trans g1
        have zg2 := (hz.cell (p := ⟨pb, 2, none⟩) HLP.out).trans g2
        have zg3 := (hz.cell (p := ⟨pb, 3, none⟩) HLP.out).trans g3
        have zq0 := (hz.cell (p := ⟨qb, 0, none⟩) HLQ.out).trans q0
        have zq1 := (hz.cell (p := ⟨qb, 1, none⟩) HLQ.out).trans q1
        have zq2 := (hz.cell (p := ⟨qb, 2, none⟩) HLQ.out).trans q2
        have zq3 := (hz.cell (p := ⟨qb, 3, none⟩) HLQ.out).trans q3
        go_simp
        all_goals first | with_reducible rfl | omega
      try simp only [Act.put, pu]
      refine tkY 21 ?_ rfl hS ?_ ?_
      rotate_left
      · intro wz hz
        have zk0 := (hz.cell (p := ⟨kb, 0, none⟩) HLK.out).trans k0
        have zk1 := (hz.cell (p := ⟨kb, 1, none⟩) HLK.out).trans k1
        have zk2 := (hz.cell (p := ⟨kb, 2, none⟩) HLK.out).trans k2
        have zk3 := (hz.cell (p := ⟨kb, 3, none⟩) HLK.out).trans k3
        have zg0 := (hz.cell (p := ⟨pb, 0, none⟩) HLP.out).trans g0
        have zg1 := (hz.cell (p := ⟨pb, 1, none⟩) HLP.out).trans g1
        have zg2 := (hz.cell (p := ⟨pb, 2, none⟩) HLP.out).trans g2
        have zg3 := (hz.cell (p := ⟨pb, 3, none⟩) HLP.out).trans g3
        have zq0 := (hz.cell (p := ⟨qb, 0, none⟩) HLQ.out).trans q0
        have zq1 := (hz.cell (p := ⟨qb, 1, none⟩) HLQ.out).trans q1
        have zq2 := (hz.cell (p := ⟨qb, 2, none⟩) HLQ.out).trans q2
        have zq3 := (hz.cell (p := ⟨qb, 3, none⟩) HLQ.out).trans q3
        go_simp
        all_goals first | with_reducible rfl | omega
      try simp only [Act.put, pu]
      refine tkY 23 ?_ rfl hS ?_ ?_
      rotate_left
      · intro wz hz
        have zk0 := (hz.cell (p := ⟨kb, 0, none⟩) HLK.out).trans k0
        have zk1 := (hz.cell (p := ⟨kb, 1, none⟩) HLK.out).trans k1
        have zk2 := (hz.cell (p := ⟨kb, 2, none⟩) HLK.out).trans k2
        have zk3 := (hz.cell (p := ⟨kb, 3, none⟩) HLK.out).trans k3
        have zg0 := (hz.cell (p := ⟨pb, 0, none⟩) HLP.out).trans g0
        have zg1 := (hz.cell (p := ⟨pb, 1, none⟩) HLP.out).trans g1
        have zg2 := (hz.cell (p := ⟨pb, 2, none⟩) HLP.out).trans g2
        have zg3 := (hz.cell (p := ⟨pb, 3, none⟩) HLP.out).trans g3
        have zq0 := (hz.cell (p := ⟨qb, 0, none⟩) HLQ.out).trans q0
        have zq1 := (hz.cell (p := ⟨qb, 1, none⟩) HLQ.out).trans q1
        have zq2 := (hz.cell (p := ⟨qb, 2, none⟩) HLQ.out).trans q2
        have zq3 := (hz.cell (p := ⟨qb, 3, none⟩) HLQ.out).trans q3
        go_simp
        all_goals first | with_reducible rfl | omega
      try simp only [Act.put, pu]
      refine wpAnyH_ready (rs := [20]) (by kernel_rfl) (by simp) (AllReadyH.cons rfl (fun K' hK' => ?_) AllReadyH.nil)
      go_simp
      refine (HSZ.out _).mono ?_
      rintro e u5 ⟨rfl, b4⟩
      have HU := Lib.hid (HU.out.trans (b4.mono HU.out.size))
      clear b4
      refine hK'.out _ _ ?_ (fun hSn => ?_)
      · exact HU.out
      clear hK' K' hS
      have hS := hSn
      clear hSn
      try simp only [Act.put, pu]
      refine wpAnyH_ready (rs := [22]) (by kernel_rfl) (by simp) (AllReadyH.cons rfl (fun K' hK' => ?_) AllReadyH.nil)
      go_simp
      refine (HPL.out (a1, a2, a3, a4) _).mono ?_
      rintro e u6 ⟨rfl, b4⟩
      have HU := Lib.hid (HU.out.trans (b4.mono HU.out.size))
      clear b4
      refine hK'.out _ _ ?_ (fun hSn => ?_)
      · exact HU.out
      clear hK' K' hS
      have hS := hSn
      clear hSn
      try simp only [Act.put, pu]
      refine wpAnyH_ready (rs := [24]) (by kernel_rfl) (by simp) (AllReadyH.cons rfl (fun K' hK' => ?_) AllReadyH.nil)
      go_simp
      refine (HRS.out _).mono ?_
      rintro e u7 ⟨rfl, b4⟩
      have HU := Lib.hid (HU.out.trans (b4.mono HU.out.size))
      clear b4
      refine hK'.out _ _ ?_ (fun hSn => ?_)
      · exact HU.out
      clear hK' K' hS
      have hS := hSn
      clear hSn
      try simp only [Act.put, pu]
      refine tkY 25 ?_ rfl hS ?_ ?_
      rotate_left
      · intro wz hz
        have zk0 := (hz.cell (p := ⟨kb, 0, none⟩) HLK.out).trans k0
        have zk1 := (hz.cell (p := ⟨kb, 1, none⟩) HLK.out).trans k1
        have zk2 := (hz.cell (p := ⟨kb, 2, none⟩) HLK.out).trans k2
        have zk3 := (hz.cell (p := ⟨kb, 3, none⟩) HLK.out).trans k3
        have zg0 := (hz.cell (p := ⟨pb, 0, none⟩) HLP.out).trans g0
        have zg1 := (hz.cell (p := ⟨pb, 1, none⟩) HLP.out).trans g1
        have zg2 := (hz.cell (p := ⟨pb, 2, none⟩) HLP.out).trans g2
        have zg3 := (hz.cell (p := ⟨pb, 3, none⟩) HLP.out).trans g3
        have zq0 := (hz.cell (p := ⟨qb, 0, none⟩) HLQ.out).trans q0
        have zq1 := (hz.cell (p := ⟨qb, 1, none⟩) HLQ.out).trans q1
        have zq2 := (hz.cell (p := ⟨qb, 2, none⟩) HLQ.out).trans q2
        have zq3 := (hz.cell (p := ⟨qb, 3, none⟩) HLQ.out).trans q3
        go_simp
        all_goals first | with_reducible rfl | omega
      try simp only [Act.put, pu]
      refine tkY 26 ?_ rfl hS ?_ ?_
      rotate_left
      · intro wz hz
        have zk0 := (hz.cell (p := ⟨kb, 0, none⟩) HLK.out).trans k0
        have zk1 := (hz.cell (p := ⟨kb, 1, none⟩) HLK.out).trans k1
        have zk2 := (hz.cell (p := ⟨kb, 2, none⟩) HLK.out).trans k2
        have zk3 := (hz.cell (p := ⟨kb, 3, none⟩) HLK.out).trans k3
        have zg0 := (hz.cell (p := ⟨pb, 0, none⟩) HLP.out).trans g0
        have zg1 := (hz.cell (p := ⟨pb, 1, none⟩) HLP.out).trans g1
        have zg2 := (hz.cell (p := ⟨pb, 2, none⟩) HLP.out).trans g2
        have zg3 := (hz.cell (p := ⟨pb, 3, none⟩) HLP.out).trans g3
        have zq0 := (hz.cell (p := ⟨qb, 0, none⟩) HLQ.out).trans q0
        have zq1 := (hz.cell (p := ⟨qb, 1, none⟩) HLQ.out).trans q1
        have zq2 := (hz.cell (p := ⟨qb, 2, none⟩) HLQ.out).trans q2
        have zq3 := (hz.cell (p := ⟨qb, 3, none⟩) HLQ.out).trans q3
        go_simp
        all_goals first | with_reducible rfl | omega
      try simp only [Act.put, pu]
      refine wpAnyH_done (by kernel_rfl) ?_ _
      clear hS
      have HB := Lib.hid (HB.out.trans (HU.out.mono HB.out.size))
      have HK := Lib.hid (HK.out.below HU.out)
      have HP := Lib.hid (HP.out.below HU.out)
      clear HQ HLK HLP HLQ
      clear k0 k1 k2 k3 g0 g1 g2 g3 q0 q1 q2 q3
      have k0 : u7.cell? ⟨kb, 0, none⟩ = some (.string a1) := HK.out.cell 0
      have k1 : u7.cell? ⟨kb, 1, none⟩ = some (.string a2) := HK.out.cell 1
      have k2 : u7.cell? ⟨kb, 2, none⟩ = some (.int .i64 a3) := HK.out.cell 2
      have k3 : u7.cell? ⟨kb, 3, none⟩ = some (.string a4) := HK.out.cell 3
      have g0 : u7.cell? ⟨pb, 0, none⟩ = some (.string p1) := HP.out.cell 0
      have g1 : u7.cell? ⟨pb, 1, none⟩ = some (.string p2) := HP.out.cell 1
      have g2 : u7.cell? ⟨pb, 2, none⟩ = some (.int .i64 p3) := HP.out.cell 2
      have g3 : u7.cell? ⟨pb, 3, none⟩ = some (.string p4) := HP.out.cell 3
      go_wp2_with fail
      refine (HT.out _).mono ?_
      rintro e y1 ⟨rfl, hbx⟩
      have HB := Lib.hid (HB.out.trans (hbx.mono HB.out.size))
      have HK := Lib.hid (HK.out.below hbx)
      have HP := Lib.hid (HP.out.below hbx)
      clear hbx
      clear k0 k1 k2 k3 g0 g1 g2 g3
      have k0 : y1.cell? ⟨kb, 0, none⟩ = some (.string a1) := HK.out.cell 0
      have k1 : y1.cell? ⟨kb, 1, none⟩ = some (.string a2) := HK.out.cell 1
      have k2 : y1.cell? ⟨kb, 2, none⟩ = some (.int .i64 a3) := HK.out.cell 2
      have k3 : y1.cell? ⟨kb, 3, none⟩ = some (.string a4) := HK.out.cell 3
      have g0 : y1.cell? ⟨pb, 0, none⟩ = some (.string p1) := HP.out.cell 0
      have g1 : y1.cell? ⟨pb, 1, none⟩ = some (.string p2) := HP.out.cell 1
      have g2 : y1.cell? ⟨pb, 2, none⟩ = some (.int .i64 p3) := HP.out.cell 2
      have g3 : y1.cell? ⟨pb, 3, none⟩ = some (.string p4) := HP.out.cell 3
      go_wp2_with fail
      refine (HPT.out _).mono ?_
      rintro e y2 ⟨rfl, hbx⟩
      have HB := Lib.hid (HB.out.trans (hbx.mono HB.out.size))
      have HK := Lib.hid (HK.out.below hbx)
      have HP := Lib.hid (HP.out.below hbx)
      clear hbx
      clear k0 k1 k2 k3 g0 g1 g2 g3
      obtain ⟨W8, hW8⟩ : ∃ W, y2.alloc (.cells #[.string a1, .string a2, .int .i64 a3, .string a4] 23) = W := ⟨_, rfl⟩
      obtain ⟨cb, hcb⟩ : ∃ b, y2.heap.size = b := ⟨_, rfl⟩
      have hbz : Below y2.heap.size y2 W8 := by rw [← hW8]; exact (Below.refl _ _).alloc (Nat.le_refl _) _
      have HB := Lib.hid (HB.out.trans (hbz.mono HB.out.size))
      have HK := Lib.hid (HK.out.below hbz)
      have HP := Lib.hid (HP.out.below hbz)
      have HC := Lib.hid (show Bk W8 cb 23 (kC (a1, a2, a3, a4)) by rw [← hW8, ← hcb]; exact Bk.new _ _ _)
      clear hbz
      have k0 : W8.cell? ⟨kb, 0, none⟩ = some (.string a1) := HK.out.cell 0
      have k1 : W8.cell? ⟨kb, 1, none⟩ = some (.string a2) := HK.out.cell 1
      have k2 : W8.cell? ⟨kb, 2, none⟩ = some (.int .i64 a3) := HK.out.cell 2
      have k3 : W8.cell? ⟨kb, 3, none⟩ = some (.string a4) := HK.out.cell 3
      have g0 : W8.cell? ⟨pb, 0, none⟩ = some (.string p1) := HP.out.cell 0
      have g1 : W8.cell? ⟨pb, 1, none⟩ = some (.string p2) := HP.out.cell 1
      have g2 : W8.cell? ⟨pb, 2, none⟩ = some (.int .i64 p3) := HP.out.cell 2
      have g3 : W8.cell? ⟨pb, 3, none⟩ = some (.string p4) := HP.out.cell 3
      have c0 : W8.cell? ⟨cb, 0, none⟩ = some (.string a1) := HC.out.cell 0
      have c1 : W8.cell? ⟨cb, 1, none⟩ = some (.string a2) := HC.out.cell 1
      have c2 : W8.cell? ⟨cb, 2, none⟩ = some (.int .i64 a3) := HC.out.cell 2
      have c3 : W8.cell? ⟨cb, 3, none⟩ = some (.string a4) := HC.out.cell 3
      go_wp2_with fail
      try rw [hW8]
      try rw [hcb]
      clear hcb hW8
      refine (HT.out _).mono ?_
      rintro e y3 ⟨rfl, hbx⟩
      have HB := Lib.hid (HB.out.trans (hbx.mono HB.out.size))
      have HK := Lib.hid (HK.out.below hbx)
      have HP := Lib.hid (HP.out.below hbx)
      have HC := Lib.hid (HC.out.below hbx)
      clear hbx
      clear k0 k1 k2 k3 g0 g1 g2 g3 c0 c1 c2 c3
      have k0 : y3.cell? ⟨kb, 0, none⟩ = some (.string a1) := HK.out.cell 0
      have k1 : y3.cell? ⟨kb, 1, none⟩ = some (.string a2) := HK.out.cell 1
      have k2 : y3.cell? ⟨kb, 2, none⟩ = some (.int .i64 a3) := HK.out.cell 2
      have k3 : y3.cell? ⟨kb, 3, none⟩ = some (.string a4) := HK.out.cell 3
      have g0 : y3.cell? ⟨pb, 0, none⟩ = some (.string p1) := HP.out.cell 0
      have g1 : y3.cell? ⟨pb, 1, none⟩ = some (.string p2) := HP.out.cell 1
      have g2 : y3.cell? ⟨pb, 2, none⟩ = some (.int .i64 p3) := HP.out.cell 2
      have g3 : y3.cell? ⟨pb, 3, none⟩ = some (.string p4) := HP.out.cell 3
      have c0 : y3.cell? ⟨cb, 0, none⟩ = some (.string a1) := HC.out.cell 0
      have c1 : y3.cell? ⟨cb, 1, none⟩ = some (.string a2) := HC.out.cell 1
      have c2 : y3.cell? ⟨cb, 2, none⟩ = some (.int .i64 a3) := HC.out.cell 2
      have c3 : y3.cell? ⟨cb, 3, none⟩ = some (.string a4) := HC.out.cell 3
      have he := HE.out
      go_wp2_with fail
      refine (HTP.out _).mono ?_
      rintro e y4 ⟨rfl, hbx⟩
      have HB := Lib.hid (HB.out.trans (hbx.mono HB.out.size))
      clear hbx HK HP
      clear he HC
      clear k0 k1 k2 k3 g0 g1 g2 g3 c0 c1 c2 c3
      go_wp2_with fail
      refine (CA.known_any _).mono ?_
      rintro e wk ⟨rfl, hk⟩
      have HB := Lib.hid (HB.out.trans (hk.mono HB.out.size))
      clear hk
      go_wp2
      go_ret
      exact ⟨rfl, HB.out⟩
    | false =>
      rw [hO] at HPA HRPA
      obtain ⟨p1, p2, p3, p4⟩ := P
      clear hT hO hr hP hz fa sa ba s1 s2 HTP
      obtain ⟨a1, a2, a3, a4⟩ := a
      have k0 : W0.cell? ⟨kb, 0, none⟩ = some (.string a1) := HK.out.cell 0
      have k1 : W0.cell? ⟨kb, 1, none⟩ = some (.string a2) := HK.out.cell 1
      have k2 : W0.cell? ⟨kb, 2, none⟩ = some (.int .i64 a3) := HK.out.cell 2
      have k3 : W0.cell? ⟨kb, 3, none⟩ = some (.string a4) := HK.out.cell 3
      go_enter Try.func3, Try.ntmps3
      go_wp2_with fail
      try rw [hW0]
      try rw [hkb]
      refine (HSH.out _).mono ?_
      rintro e w1 ⟨rfl, hb1⟩
      have HK := Lib.hid (HK.out.below hb1)
      have HB := Lib.hid (HB.out.trans (hb1.mono HB.out.size))
      clear hb1 hW0 hkb
      clear k0 k1 k2 k3
      have k0 : w1.cell? ⟨kb, 0, none⟩ = some (.string a1) := HK.out.cell 0
      have k1 : w1.cell? ⟨kb, 1, none⟩ = some (.string a2) := HK.out.cell 1
      have k2 : w1.cell? ⟨kb, 2, none⟩ = some (.int .i64 a3) := HK.out.cell 2
      have k3 : w1.cell? ⟨kb, 3, none⟩ = some (.string a4) := HK.out.cell 3
      go_wp2_with fail
      refine (HPA.out _).mono ?_
      rintro e w2 ⟨rfl, hb2⟩
      have HB := Lib.hid (HB.out.trans (hb2.mono HB.out.size))
      have HK := Lib.hid (HK.out.below hb2)
      clear hb2 HPA
      clear k0 k1 k2 k3
      obtain ⟨W7, hW7⟩ : ∃ W, w2.alloc (.cells #[.string p1, .string p2, .int .i64 p3, .string p4] 23) = W := ⟨_, rfl⟩
      obtain ⟨pb, hpb⟩ : ∃ b, w2.heap.size = b := ⟨_, rfl⟩
      have hbz : Below w2.heap.size w2 W7 := by rw [← hW7]; exact (Below.refl _ _).alloc (Nat.le_refl _) _
      have HB := Lib.hid (HB.out.trans (hbz.mono HB.out.size))
      have HK := Lib.hid (HK.out.below hbz)
      have HP := Lib.hid (show Bk W7 pb 23 (kC (p1, p2, p3, p4)) by rw [← hW7, ← hpb]; exact Bk.new _ _ _)
      clear hbz
      have k0 : W7.cell? ⟨kb, 0, none⟩ = some (.string a1) := HK.out.cell 0
      have k1 : W7.cell? ⟨kb, 1, none⟩ = some (.string a2) := HK.out.cell 1
      have k2 : W7.cell? ⟨kb, 2, none⟩ = some (.int .i64 a3) := HK.out.cell 2
      have k3 : W7.cell? ⟨kb, 3, none⟩ = some (.string a4) := HK.out.cell 3
      have g0 : W7.cell? ⟨pb, 0, none⟩ = some (.string p1) := HP.out.cell 0
      have g1 : W7.cell? ⟨pb, 1, none⟩ = some (.string p2) := HP.out.cell 1
      have g2 : W7.cell? ⟨pb, 2, none⟩ = some (.int .i64 p3) := HP.out.cell 2
      have g3 : W7.cell? ⟨pb, 3, none⟩ = some (.string p4) := HP.out.cell 3
      go_wp2_with fail
      try rw [hW7]
      try rw [hpb]
      refine (HRPA.out _).mono ?_
      rintro e w3 ⟨rfl, hb3⟩
      have HB := Lib.hid (HB.out.trans (hb3.mono HB.out.size))
      have HK := Lib.hid (HK.out.below hb3)
      have HP := Lib.hid (HP.out.below hb3)
      clear hb3 HRPA hW7 hpb
      clear k0 k1 k2 k3 g0 g1 g2 g3
      obtain ⟨W9, hW9⟩ : ∃ W, w3.alloc (.cells #[.string p1, .string p2, .int .i64 p3, .string p4] 28) = W := ⟨_, rfl⟩
      obtain ⟨qb, hqb⟩ : ∃ b, w3.heap.size = b := ⟨_, rfl⟩
      have hbz : Below w3.heap.size w3 W9 := by rw [← hW9]; exact (Below.refl _ _).alloc (Nat.le_refl _) _
      have HB := Lib.hid (HB.out.trans (hbz.mono HB.out.size))
      have HK := Lib.hid (HK.out.below hbz)
      have HP := Lib.hid (HP.out.below hbz)
      have HQ := Lib.hid (show Bk W9 qb 28 (kC (p1, p2, p3, p4)) by rw [← hW9, ← hqb]; exact Bk.new _ _ _)
      clear hbz
      have k0 : W9.cell? ⟨kb, 0, none⟩ = some (.string a1) := HK.out.cell 0
      have k1 : W9.cell? ⟨kb, 1, none⟩ = some (.string a2) := HK.out.cell 1
      have k2 : W9.cell? ⟨kb, 2, none⟩ = some (.int .i64 a3) := HK.out.cell 2
      have k3 : W9.cell? ⟨kb, 3, none⟩ = some (.string a4) := HK.out.cell 3
      have g0 : W9.cell? ⟨pb, 0, none⟩ = some (.string p1) := HP.out.cell 0
      have g1 : W9.cell? ⟨pb, 1, none⟩ = some (.string p2) := HP.out.cell 1
      have g2 : W9.cell? ⟨pb, 2, none⟩ = some (.int .i64 p3) := HP.out.cell 2
      have g3 : W9.cell? ⟨pb, 3, none⟩ = some (.string p4) := HP.out.cell 3
      have q0 : W9.cell? ⟨qb, 0, none⟩ = some (.string p1) := HQ.out.cell 0
      have q1 : W9.cell? ⟨qb, 1, none⟩ = some (.string p2) := HQ.out.cell 1
      have q2 : W9.cell? ⟨qb, 2, none⟩ = some (.int .i64 p3) := HQ.out.cell 2
      have q3 : W9.cell? ⟨qb, 3, none⟩ = some (.string p4) := HQ.out.cell 3
      go_wp2_with fail
      try rw [hW9]
      try rw [hqb]
      have HLK := Lib.hid HK.out.lt
      have HLP := Lib.hid HP.out.lt
      have HLQ := Lib.hid HQ.out.lt
      clear hW9 hqb
      refine wp_region_held_drew (S := (fun w' => Below W9.heap.size W9 w')) (by kernel_rfl) ?_ (fun hS => ?_)
      · exact (Below.refl _ _).drew
      refine tkY 0 ?_ rfl hS ?_ ?_
      rotate_left
      · intro wz hz
        have zk0 := (hz.cell (p := ⟨kb, 0, none⟩) HLK.out).trans k0
        have zk1 := (hz.cell (p := ⟨kb, 1, none⟩) HLK.out).trans k1
        have zk2 := (hz.cell (p := ⟨kb, 2, none⟩) HLK.out).trans k2
        have zk3 := (hz.cell (p := ⟨kb, 3, none⟩) HLK.out).trans k3
        have zg0 := (hz.cell (p := ⟨pb, 0, none⟩) HLP.out).trans g0
        have zg1 := (hz.cell (p := ⟨pb, 1, none⟩) HLP.out).trans g1
        have zg2 := (hz.cell (p := ⟨pb, 2, none⟩) HLP.out).trans g2
        have zg3 := (hz.cell (p := ⟨pb, 3, none⟩) HLP.out).trans g3
        have zq0 := (hz.cell (p := ⟨qb, 0, none⟩) HLQ.out).trans q0
        have zq1 := (hz.cell (p := ⟨qb, 1, none⟩) HLQ.out).trans q1
        have zq2 := (hz.cell (p := ⟨qb, 2, none⟩) HLQ.out).trans q2
        have zq3 := (hz.cell (p := ⟨qb, 3, none⟩) HLQ.out).trans q3
        go_simp
        all_goals first | with_reducible rfl | omega
      try simp only [Act.put, pu]
      refine tkY 2 ?_ rfl hS ?_ ?_
      rotate_left
      · intro wz hz
        have zk0 := (hz.cell (p := ⟨kb, 0, none⟩) HLK.out).trans k0
        have zk1 := (hz.cell (p := ⟨kb, 1, none⟩) HLK.out).trans k1
        have zk2 := (hz.cell (p := ⟨kb, 2, none⟩) HLK.out).trans k2
        have zk3 := (hz.cell (p := ⟨kb, 3, none⟩) HLK.out).trans k3
        have zg0 := (hz.cell (p := ⟨pb, 0, none⟩) HLP.out).trans g0
        have zg1 := (hz.cell (p := ⟨pb, 1, none⟩) HLP.out).trans g1
        have zg2 := (hz.cell (p := ⟨pb, 2, none⟩) HLP.out).trans g2
        have zg3 := (hz.cell (p := ⟨pb, 3, none⟩) HLP.out).trans g3
        have zq0 := (hz.cell (p := ⟨qb, 0, none⟩) HLQ.out).trans q0
        have zq1 := (hz.cell (p := ⟨qb, 1, none⟩) HLQ.out).trans q1
        have zq2 := (hz.cell (p := ⟨qb, 2, none⟩) HLQ.out).trans q2
        have zq3 := (hz.cell (p := ⟨qb, 3, none⟩) HLQ.out).trans q3
        go_simp
        all_goals first | with_reducible rfl | omega
      try simp only [Act.put, pu]
      refine wpAnyH_ready (rs := [1]) (by kernel_rfl) (by simp) (AllReadyH.cons rfl (fun K' hK' => ?_) AllReadyH.nil)
      go_simp
      have hbd : Below W9.heap.size W9 W9.drew := (Below.refl _ _).drew
      refine (HT.out _).mono ?_
      rintro e u1 ⟨rfl, b4⟩
      have HU := Lib.hid (hbd.trans (b4.mono hbd.size))
      clear b4 hbd
      refine hK'.out _ _ ?_ (fun hSn => ?_)
      · exact HU.out
      clear hK' K' hS
      have hS := hSn
      clear hSn
      try simp only [Act.put, pu]
      refine wpAnyH_ready (rs := [3]) (by kernel_rfl) (by simp) (AllReadyH.cons rfl (fun K' hK' => ?_) AllReadyH.nil)
      go_simp
      refine (HPL.out (a1, a2, a3, a4) _).mono ?_
      rintro e u2 ⟨rfl, b4⟩
      have HU := Lib.hid (HU.out.trans (b4.mono HU.out.size))
      clear b4
      refine hK'.out _ _ ?_ (fun hSn => ?_)
      · exact HU.out
      clear hK' K' hS
      have hS := hSn
      clear hSn
      try simp only [Act.put, pu]
      refine wpAnyH_ready (rs := [4]) (by kernel_rfl) (by simp) (AllReadyH.cons rfl (fun K' hK' => ?_) AllReadyH.nil)
      go_simp
      refine (HRT.out _).mono ?_
      rintro e u3 ⟨rfl, b4⟩
      have HU := Lib.hid (HU.out.trans (b4.mono HU.out.size))
      clear b4
      refine hK'.out _ _ ?_ (fun hSn => ?_)
      · exact HU.out
      clear hK' K' hS
      have hS := hSn
      clear hSn
      try simp only [Act.put, pu]
      refine tkY 5 ?_ rfl hS ?_ ?_
      rotate_left
      · intro wz hz
        have zk0 := (hz.cell (p := ⟨kb, 0, none⟩) HLK.out).trans k0
        have zk1 := (hz.cell (p := ⟨kb, 1, none⟩) HLK.out).trans k1
        have zk2 := (hz.cell (p := ⟨kb, 2, none⟩) HLK.out).trans k2
        have zk3 := (hz.cell (p := ⟨kb, 3, none⟩) HLK.out).trans k3
        have zg0 := (hz.cell (p := ⟨pb, 0, none⟩) HLP.out).trans g0
        have zg1 := (hz.cell (p := ⟨pb, 1, none⟩) HLP.out).trans g1
        have zg2 := (hz.cell (p := ⟨pb, 2, none⟩) HLP.out).trans g2
        have zg3 := (hz.cell (p := ⟨pb, 3, none⟩) HLP.out).trans g3
        have zq0 := (hz.cell (p := ⟨qb, 0, none⟩) HLQ.out).trans q0
        have zq1 := (hz.cell (p := ⟨qb, 1, none⟩) HLQ.out).trans q1
        have zq2 := (hz.cell (p := ⟨qb, 2, none⟩) HLQ.out).trans q2
        have zq3 := (hz.cell (p := ⟨qb, 3, none⟩) HLQ.out).trans q3
        go_simp
        all_goals first | with_reducible rfl | omega
      try simp only [Act.put, pu]
      refine tkY 6 ?_ rfl hS ?_ ?_
      rotate_left
      · intro wz hz
        have zk0 := (hz.cell (p := ⟨kb, 0, none⟩) HLK.out).trans k0
        have zk1 := (hz.cell (p := ⟨kb, 1, none⟩) HLK.out).trans k1
        have zk2 := (hz.cell (p := ⟨kb, 2, none⟩) HLK.out).trans k2
        have zk3 := (hz.cell (p := ⟨kb, 3, none⟩) HLK.out).trans k3
        have zg0 := (hz.cell (p := ⟨pb, 0, none⟩) HLP.out).trans g0
        have zg1 := (hz.cell (p := ⟨pb, 1, none⟩) HLP.out).trans g1
        have zg2 := (hz.cell (p := ⟨pb, 2, none⟩) HLP.out).trans g2
        have zg3 := (hz.cell (p := ⟨pb, 3, none⟩) HLP.out).trans g3
        have zq0 := (hz.cell (p := ⟨qb, 0, none⟩) HLQ.out).trans q0
        have zq1 := (hz.cell (p := ⟨qb, 1, none⟩) HLQ.out).trans q1
        have zq2 := (hz.cell (p := ⟨qb, 2, none⟩) HLQ.out).trans q2
        have zq3 := (hz.cell (p := ⟨qb, 3, none⟩) HLQ.out).trans q3
        go_simp
        all_goals first | with_reducible rfl | omega
      try simp only [Act.put, pu]
      refine tkY 7 ?_ rfl hS ?_ ?_
      rotate_left
      · intro wz hz
        have zk0 := (hz.cell (p := ⟨kb, 0, none⟩) HLK.out).trans k0
        have zk1 := (hz.cell (p := ⟨kb, 1, none⟩) HLK.out).trans k1
        have zk2 := (hz.cell (p := ⟨kb, 2, none⟩) HLK.out).trans k2
        have zk3 := (hz.cell (p := ⟨kb, 3, none⟩) HLK.out).trans k3
        have zg0 := (hz.cell (p := ⟨pb, 0, none⟩) HLP.out).trans g0
        have zg1 := (hz.cell (p := ⟨pb, 1, none⟩) HLP.out).trans g1
        have zg2 := (hz.cell (p := ⟨pb, 2, none⟩) HLP.out).trans g2
        have zg3 := (hz.cell (p := ⟨pb, 3, none⟩) HLP.out).trans g3
        have zq0 := (hz.cell (p := ⟨qb, 0, none⟩) HLQ.out).trans q0
        have zq1 := (hz.cell (p := ⟨qb, 1, none⟩) HLQ.out).trans q1
        have zq2 := (hz.cell (p := ⟨qb, 2, none⟩) HLQ.out).trans q2
        have zq3 := (hz.cell (p := ⟨qb, 3, none⟩) HLQ.out).trans q3
        go_simp
        all_goals first | with_reducible rfl | omega
      try simp only [Act.put, pu]
      refine tkY 9 ?_ rfl hS ?_ ?_
      rotate_left
      · intro wz hz
        have zk0 := (hz.cell (p := ⟨kb, 0, none⟩) HLK.out).trans k0
        have zk1 := (hz.cell (p := ⟨kb, 1, none⟩) HLK.out).trans k1
        have zk2 := (hz.cell (p := ⟨kb, 2, none⟩) HLK.out).trans k2
        have zk3 := (hz.cell (p := ⟨kb, 3, none⟩) HLK.out).trans k3
        have zg0 := (hz.cell (p := ⟨pb, 0, none⟩) HLP.out).trans g0
        have zg1 := (hz.cell (p := ⟨pb, 1, none⟩) HLP.out).trans g1
        have zg2 := (hz.cell (p := ⟨pb, 2, none⟩) HLP.out).trans g2
        have zg3 := (hz.cell (p := ⟨pb, 3, none⟩) HLP.out).trans g3
        have zq0 := (hz.cell (p := ⟨qb, 0, none⟩) HLQ.out).trans q0
        have zq1 := (hz.cell (p := ⟨qb, 1, none⟩) HLQ.out).trans q1
        have zq2 := (hz.cell (p := ⟨qb, 2, none⟩) HLQ.out).trans q2
        have zq3 := (hz.cell (p := ⟨qb, 3, none⟩) HLQ.out).trans q3
        go_simp
        all_goals first | with_reducible rfl | omega
      try simp only [Act.put, pu]
      refine wpAnyH_ready (rs := [8]) (by kernel_rfl) (by simp) (AllReadyH.cons rfl (fun K' hK' => ?_) AllReadyH.nil)
      go_simp
      refine (HPL.out (p1, p2, p3, p4) _).mono ?_
      rintro e u4 ⟨rfl, b4⟩
      have HU := Lib.hid (HU.out.trans (b4.mono HU.out.size))
      clear b4
      refine hK'.out _ _ ?_ (fun hSn => ?_)
      · exact HU.out
      clear hK' K' hS
      have hS := hSn
      clear hSn
      try simp only [Act.put, pu]
      have hn := HNP.out
      refine tkY 10 ?_ rfl hS ?_ ?_
      rotate_left
      · intro wz hz
        have zk0 := (hz.cell (p := ⟨kb, 0, none⟩) HLK.out).trans k0
        have zk1 := (hz.cell (p := ⟨kb, 1, none⟩) HLK.out).trans k1
        have zk2 := (hz.cell (p := ⟨kb, 2, none⟩) HLK.out).trans k2
        have zk3 := (hz.cell (p := ⟨kb, 3, none⟩) HLK.out).trans k3
        have zg0 := (hz.cell (p := ⟨pb, 0, none⟩) HLP.out).trans g0
        have zg1 := (hz.cell (p := ⟨pb, 1, none⟩) HLP.out).trans g1
        have zg2 := (hz.cell (p := ⟨pb, 2, none⟩) HLP.out).trans g2
        have zg3 := (hz.cell (p := ⟨pb, 3, none⟩) HLP.out).trans g3
        have zq0 := (hz.cell (p := ⟨qb, 0, none⟩) HLQ.out).trans q0
        have zq1 := (hz.cell (p := ⟨qb, 1, none⟩) HLQ.out).trans q1
        have zq2 := (hz.cell (p := ⟨qb, 2, none⟩) HLQ.out).trans q2
        have zq3 := (hz.cell (p := ⟨qb, 3, none⟩) HLQ.out).trans q3
        go_simp
        all_goals first | with_reducible rfl | omega
      try simp only [Act.put, pu]
      clear hn
      refine tkY 11 ?_ rfl hS ?_ ?_
      rotate_left
      · intro wz hz
        have zk0 := (hz.cell (p := ⟨kb, 0, none⟩) HLK.out).trans k0
        have zk1 := (hz.cell (p := ⟨kb, 1, none⟩) HLK.out).trans k1
        have zk2 := (hz.cell (p := ⟨kb, 2, none⟩) HLK.out).trans k2
        have zk3 := (hz.cell (p := ⟨kb, 3, none⟩) HLK.out).trans k3
        have zg0 := (hz.cell (p := ⟨pb, 0, none⟩) HLP.out).trans g0
        have zg1 := (hz.cell (p := ⟨pb, 1, none⟩) HLP.out).trans g1
        have zg2 := (hz.cell (p := ⟨pb, 2, none⟩) HLP.out).trans g2
        have zg3 := (hz.cell (p := ⟨pb, 3, none⟩) HLP.out).trans g3
        have zq0 := (hz.cell (p := ⟨qb, 0, none⟩) HLQ.out).trans q0
        have zq1 := (hz.cell (p := ⟨qb, 1, none⟩) HLQ.out).trans q1
        have zq2 := (hz.cell (p := ⟨qb, 2, none⟩) HLQ.out).trans q2
        have zq3 := (hz.cell (p := ⟨qb, 3, none⟩) HLQ.out).trans q3
        go_simp
        all_goals first | with_reducible rfl | omega
      try simp only [Act.put, pu]
      refine tkY 12 ?_ rfl hS ?_ ?_
      rotate_left
      · intro wz hz
        have zk0 := (hz.cell (p := ⟨kb, 0, none⟩) HLK.out).trans k0
        have zk1 := (hz.cell (p := ⟨kb, 1, none⟩) HLK.out).trans k1
        have zk2 := (hz.cell (p := ⟨kb, 2, none⟩) HLK.out).trans k2
        have zk3 := (hz.cell (p := ⟨kb, 3, none⟩) HLK.out).trans k3
        have zg0 := (hz.cell (p := ⟨pb, 0, none⟩) HLP.out).trans g0
        have zg1 := (hz.cell (p := ⟨pb, 1, none⟩) HLP.out).trans g1
        have zg2 := (hz.cell (p := ⟨pb, 2, none⟩) HLP.out).trans g2
        have zg3 := (hz.cell (p := ⟨pb, 3, none⟩) HLP.out).trans g3
        have zq0 := (hz.cell (p := ⟨qb, 0, none⟩) HLQ.out).trans q0
        have zq1 := (hz.cell (p := ⟨qb, 1, none⟩) HLQ.out).trans q1
        have zq2 := (hz.cell (p := ⟨qb, 2, none⟩) HLQ.out).trans q2
        have zq3 := (hz.cell (p := ⟨qb, 3, none⟩) HLQ.out).trans q3
        go_simp
        all_goals first | with_reducible rfl | omega
      try simp only [Act.put, pu]
      refine tkY 13 ?_ rfl hS ?_ ?_
      rotate_left
      · intro wz hz
        have zk0 := (hz.cell (p := ⟨kb, 0, none⟩) HLK.out).trans k0
        have zk1 := (hz.cell (p := ⟨kb, 1, none⟩) HLK.out).trans k1
        have zk2 := (hz.cell (p := ⟨kb, 2, none⟩) HLK.out).trans k2
        have zk3 := (hz.cell (p := ⟨kb, 3, none⟩) HLK.out).trans k3
        have zg0 := (hz.cell (p := ⟨pb, 0, none⟩) HLP.out).trans g0
        have zg1 := (hz.cell (p := ⟨pb, 1, none⟩) HLP.out).trans g1
        have zg2 := (hz.cell (p := ⟨pb, 2, none⟩) HLP.out).trans g2
        have zg3 := (hz.cell (p := ⟨pb, 3, none⟩) HLP.out).trans g3
        have zq0 := (hz.cell (p := ⟨qb, 0, none⟩) HLQ.out).trans q0
        have zq1 := (hz.cell (p := ⟨qb, 1, none⟩) HLQ.out).trans q1
        have zq2 := (hz.cell (p := ⟨qb, 2, none⟩) HLQ.out).trans q2
        have zq3 := (hz.cell (p := ⟨qb, 3, none⟩) HLQ.out).trans q3
        go_simp
        all_goals first | with_reducible rfl | omega
      try simp only [Act.put, pu]
      refine tkY 14 ?_ rfl hS ?_ ?_
      rotate_left
      · intro wz hz
        have zk0 := (hz.cell (p := ⟨kb, 0, none⟩) HLK.out).trans k0
        have zk1 := (hz.cell (p := ⟨kb, 1, none⟩) HLK.out).trans k1
        have zk2 := (hz.cell (p := ⟨kb, 2, none⟩) HLK.out).trans k2
        have zk3 := (hz.cell (p := ⟨kb, 3, none⟩) HLK.out).trans k3
        have zg0 := (hz.cell (p := ⟨pb, 0, none⟩) HLP.out).trans g0
        have zg1 := (hz.cell (p := ⟨pb, 1, none⟩) HLP.out).trans g1
        have zg2 := (hz.cell (p := ⟨pb, 2, none⟩) HLP.out).trans g2
        have zg3 := (hz.cell (p := ⟨pb, 3, none⟩) HLP.out).trans g3
        have zq0 := (hz.cell (p := ⟨qb, 0, none⟩) HLQ.out).trans q0
        have zq1 := (hz.cell (p := ⟨qb, 1, none⟩) HLQ.out).trans q1
        have zq2 := (hz.cell (p := ⟨qb, 2, none⟩) HLQ.out).trans q2
        have zq3 := (hz.cell (p := ⟨qb, 3, none⟩) HLQ.out).trans q3
        go_simp
        all_goals first | with_reducible rfl | omega
      try simp only [Act.put, pu]
      refine tkY 15 ?_ rfl hS ?_ ?_
      rotate_left
      · intro wz hz
        have zk0 := (hz.cell (p := ⟨kb, 0, none⟩) HLK.out).trans k0
        have zk1 := (hz.cell (p := ⟨kb, 1, none⟩) HLK.out).trans k1
        have zk2 := (hz.cell (p := ⟨kb, 2, none⟩) HLK.out).trans k2
        have zk3 := (hz.cell (p := ⟨kb, 3, none⟩) HLK.out).trans k3
        have zg0 := (hz.cell (p := ⟨pb, 0, none⟩) HLP.out).trans g0
        have zg1 := (hz.cell (p := ⟨pb, 1, none⟩) HLP.out).trans g1
        have zg2 := (hz.cell (p := ⟨pb, 2, none⟩) HLP.out).trans g2
        have zg3 := (hz.cell (p := ⟨pb, 3, none⟩) HLP.out).trans g3
        have zq0 := (hz.cell (p := ⟨qb, 0, none⟩) HLQ.out).trans q0
        have zq1 := (hz.cell (p := ⟨qb, 1, none⟩) HLQ.out).trans q1
        have zq2 := (hz.cell (p := ⟨qb, 2, none⟩) HLQ.out).trans q2
        have zq3 := (hz.cell (p := ⟨qb, 3, none⟩) HLQ.out).trans q3
        go_simp
        all_goals first | with_reducible rfl | omega
      try simp only [Act.put, pu]
      refine tkY 16 ?_ rfl hS ?_ ?_
      rotate_left
      · intro wz hz
        have zk0 := (hz.cell (p := ⟨kb, 0, none⟩) HLK.out).trans k0
        have zk1 := (hz.cell (p := ⟨kb, 1, none⟩) HLK.out).trans k1
        have zk2 := (hz.cell (p := ⟨kb, 2, none⟩) HLK.out).trans k2
        have zk3 := (hz.cell (p := ⟨kb, 3, none⟩) HLK.out).trans k3
        have zg0 := (hz.cell (p := ⟨pb, 0, none⟩) HLP.out).trans g0
        have zg1 := (hz.cell (p := ⟨pb, 1, none⟩) HLP.out).trans g1
        have zg2 := (hz.cell (p := ⟨pb, 2, none⟩) HLP.out).trans g2
        have zg3 := (hz.cell (p := ⟨pb, 3, none⟩) HLP.out).trans g3
        have zq0 := (hz.cell (p := ⟨qb, 0, none⟩) HLQ.out).trans q0
        have zq1 := (hz.cell (p := ⟨qb, 1, none⟩) HLQ.out).trans q1
        have zq2 := (hz.cell (p := ⟨qb, 2, none⟩) HLQ.out).trans q2
        have zq3 := (hz.cell (p := ⟨qb, 3, none⟩) HLQ.out).trans q3
        go_simp
        all_goals first | with_reducible rfl | omega
      try simp only [Act.put, pu]
      refine tkY 17 ?_ rfl hS ?_ ?_
      rotate_left
      · intro wz hz
        have zk0 := (hz.cell (p := ⟨kb, 0, none⟩) HLK.out).trans k0
        have zk1 := (hz.cell (p := ⟨kb, 1, none⟩) HLK.out).trans k1
        have zk2 := (hz.cell (p := ⟨kb, 2, none⟩) HLK.out).trans k2
        have zk3 := (hz.cell (p := ⟨kb, 3, none⟩) HLK.out).trans k3
        have zg0 := (hz.cell (p := ⟨pb, 0, none⟩) HLP.out).trans g0
        have zg1 := (hz.cell (p := ⟨pb, 1, none⟩) HLP.out).trans g1
        have zg2 := (hz.cell (p := ⟨pb, 2, none⟩) HLP.out).trans g2
        have zg3 := (hz.cell (p := ⟨pb, 3, none⟩) HLP.out).trans g3
        have zq0 := (hz.cell (p := ⟨qb, 0, none⟩) HLQ.out).trans q0
        have zq1 := (hz.cell (p := ⟨qb, 1, none⟩) HLQ.out).trans q1
        have zq2 := (hz.cell (p := ⟨qb, 2, none⟩) HLQ.out).trans q2
        have zq3 := (hz.cell (p := ⟨qb, 3, none⟩) HLQ.out).trans q3
        go_simp
        all_goals first | with_reducible rfl | omega
      try simp only [Act.put, pu]
      refine tkY 18 ?_ rfl hS ?_ ?_
      rotate_left
      · intro wz hz
        have zk0 := (hz.cell (p := ⟨kb, 0, none⟩) HLK.out).trans k0
        have zk1 := (hz.cell (p := ⟨kb, 1, none⟩) HLK.out).trans k1
        have zk2 := (hz.cell (p := ⟨kb, 2, none⟩) HLK.out).trans k2
        have zk3 := (hz.cell (p := ⟨kb, 3, none⟩) HLK.out).trans k3
        have zg0 := (hz.cell (p := ⟨pb, 0, none⟩) HLP.out).trans g0
        have zg1 := (hz.cell (p := ⟨pb, 1, none⟩) HLP.out).trans g1
        have zg2 := (hz.cell (p := ⟨pb, 2, none⟩) HLP.out).trans g2
        have zg3 := (hz.cell (p := ⟨pb, 3, none⟩) HLP.out).trans g3
        have zq0 := (hz.cell (p := ⟨qb, 0, none⟩) HLQ.out).trans q0
        have zq1 := (hz.cell (p := ⟨qb, 1, none⟩) HLQ.out).trans q1
        have zq2 := (hz.cell (p := ⟨qb, 2, none⟩) HLQ.out).trans q2
        have zq3 := (hz.cell (p := ⟨qb, 3, none⟩) HLQ.out).trans q3
        go_simp
        all_goals first | with_reducible rfl | omega
      try simp only [Act.put, pu]
      refine tkY 19 ?_ rfl hS ?_ ?_
      rotate_left
      · intro wz hz
        have zk0 := (hz.cell (p := ⟨kb, 0, none⟩) HLK.out).trans k0
        have zk1 := (hz.cell (p := ⟨kb, 1, none⟩) HLK.out).trans k1
        have zk2 := (hz.cell (p := ⟨kb, 2, none⟩) HLK.out).trans k2
        have zk3 := (hz.cell (p := ⟨kb, 3, none⟩) HLK.out).trans k3
        have zg0 := (hz.cell (p := ⟨pb, 0, none⟩) HLP.out).trans g0
        have zg1 := (hz.cell (p := ⟨pb, 1, none⟩) HLP.out).trans g1
        have zg2 := (hz.cell (p := ⟨pb, 2, none⟩) HLP.out).trans g2
        have zg3 := (hz.cell (p := ⟨pb, 3, none⟩) HLP.out).trans g3
        have zq0 := (hz.cell (p := ⟨qb, 0, none⟩) HLQ.out).trans q0
        have zq1 := (hz.cell (p := ⟨qb, 1, none⟩) HLQ.out).trans q1
        have zq2 := (hz.cell (p := ⟨qb, 2, none⟩) HLQ.out).trans q2
        have zq3 := (hz.cell (p := ⟨qb, 3, none⟩) HLQ.out).trans q3
        go_simp
        all_goals first | with_reducible rfl | omega
      try simp only [Act.put, pu]
      refine tkY 21 ?_ rfl hS ?_ ?_
      rotate_left
      · intro wz hz
        have zk0 := (hz.cell (p := ⟨kb, 0, none⟩) HLK.out).trans k0
        have zk1 := (hz.cell (p := ⟨kb, 1, none⟩) HLK.out).trans k1
        have zk2 := (hz.cell (p := ⟨kb, 2, none⟩) HLK.out).trans k2
        have zk3 := (hz.cell (p := ⟨kb, 3, none⟩) HLK.out).trans k3
        have zg0 := (hz.cell (p := ⟨pb, 0, none⟩) HLP.out).trans g0
        have zg1 := (hz.cell (p := ⟨pb, 1, none⟩) HLP.out).trans g1
        have zg2 := (hz.cell (p := ⟨pb, 2, none⟩) HLP.out).trans g2
        have zg3 := (hz.cell (p := ⟨pb, 3, none⟩) HLP.out).trans g3
        have zq0 := (hz.cell (p := ⟨qb, 0, none⟩) HLQ.out).trans q0
        have zq1 := (hz.cell (p := ⟨qb, 1, none⟩) HLQ.out).trans q1
        have zq2 := (hz.cell (p := ⟨qb, 2, none⟩) HLQ.out).trans q2
        have zq3 := (hz.cell (p := ⟨qb, 3, none⟩) HLQ.out).trans q3
        go_simp
        all_goals first | with_reducible rfl | omega
      try simp only [Act.put, pu]
      refine tkY 23 ?_ rfl hS ?_ ?_
      rotate_left
      · intro wz hz
        have zk0 := (hz.cell (p := ⟨kb, 0, none⟩) HLK.out).trans k0
        have zk1 := (hz.cell (p := ⟨kb, 1, none⟩) HLK.out).trans k1
        have zk2 := (hz.cell (p := ⟨kb, 2, none⟩) HLK.out).trans k2
        have zk3 := (hz.cell (p := ⟨kb, 3, none⟩) HLK.out).trans k3
        have zg0 := (hz.cell (p := ⟨pb, 0, none⟩) HLP.out).trans g0
        have zg1 := (hz.cell (p := ⟨pb, 1, none⟩) HLP.out).trans g1
        have zg2 := (hz.cell (p := ⟨pb, 2, none⟩) HLP.out).trans g2
        have zg3 := (hz.cell (p := ⟨pb, 3, none⟩) HLP.out).trans g3
        have zq0 := (hz.cell (p := ⟨qb, 0, none⟩) HLQ.out).trans q0
        have zq1 := (hz.cell (p := ⟨qb, 1, none⟩) HLQ.out).trans q1
        have zq2 := (hz.cell (p := ⟨qb, 2, none⟩) HLQ.out).trans q2
        have zq3 := (hz.cell (p := ⟨qb, 3, none⟩) HLQ.out).trans q3
        go_simp
        all_goals first | with_reducible rfl | omega
      try simp only [Act.put, pu]
      refine wpAnyH_ready (rs := [20]) (by kernel_rfl) (by simp) (AllReadyH.cons rfl (fun K' hK' => ?_) AllReadyH.nil)
      go_simp
      refine (HSZ.out _).mono ?_
      rintro e u5 ⟨rfl, b4⟩
      have HU := Lib.hid (HU.out.trans (b4.mono HU.out.size))
      clear b4
      refine hK'.out _ _ ?_ (fun hSn => ?_)
      · exact HU.out
      clear hK' K' hS
      have hS := hSn
      clear hSn
      try simp only [Act.put, pu]
      refine wpAnyH_ready (rs := [22]) (by kernel_rfl) (by simp) (AllReadyH.cons rfl (fun K' hK' => ?_) AllReadyH.nil)
      go_simp
      refine (HPL.out (a1, a2, a3, a4) _).mono ?_
      rintro e u6 ⟨rfl, b4⟩
      have HU := Lib.hid (HU.out.trans (b4.mono HU.out.size))
      clear b4
      refine hK'.out _ _ ?_ (fun hSn => ?_)
      · exact HU.out
      clear hK' K' hS
      have hS := hSn
      clear hSn
      try simp only [Act.put, pu]
      refine wpAnyH_ready (rs := [24]) (by kernel_rfl) (by simp) (AllReadyH.cons rfl (fun K' hK' => ?_) AllReadyH.nil)
      go_simp
      refine (HRS.out _).mono ?_
      rintro e u7 ⟨rfl, b4⟩
      have HU := Lib.hid (HU.out.trans (b4.mono HU.out.size))
      clear b4
      refine hK'.out _ _ ?_ (fun hSn => ?_)
      · exact HU.out
      clear hK' K' hS
      have hS := hSn
      clear hSn
      try simp only [Act.put, pu]
      refine tkY 25 ?_ rfl hS ?_ ?_
      rotate_left
      · intro wz hz
        have zk0 := (hz.cell (p := ⟨kb, 0, none⟩) HLK.out).trans k0
        have zk1 := (hz.cell (p := ⟨kb, 1, none⟩) HLK.out).trans k1
        have zk2 := (hz.cell (p := ⟨kb, 2, none⟩) HLK.out).trans k2
        have zk3 := (hz.cell (p := ⟨kb, 3, none⟩) HLK.out).trans k3
        have zg0 := (hz.cell (p := ⟨pb, 0, none⟩) HLP.out).trans g0
        have zg1 := (hz.cell (p := ⟨pb, 1, none⟩) HLP.out).trans g1
        have zg2 := (hz.cell (p := ⟨pb, 2, none⟩) HLP.out).trans g2
        have zg3 := (hz.cell (p := ⟨pb, 3, none⟩) HLP.out).trans g3
        have zq0 := (hz.cell (p := ⟨qb, 0, none⟩) HLQ.out).trans q0
        have zq1 := (hz.cell (p := ⟨qb, 1, none⟩) HLQ.out).trans q1
        have zq2 := (hz.cell (p := ⟨qb, 2, none⟩) HLQ.out).trans q2
        have zq3 := (hz.cell (p := ⟨qb, 3, none⟩) HLQ.out).trans q3
        go_simp
        all_goals first | with_reducible rfl | omega
      try simp only [Act.put, pu]
      refine tkY 26 ?_ rfl hS ?_ ?_
      rotate_left
      · intro wz hz
        have zk0 := (hz.cell (p := ⟨kb, 0, none⟩) HLK.out).trans k0
        have zk1 := (hz.cell (p := ⟨kb, 1, none⟩) HLK.out).trans k1
        have zk2 := (hz.cell (p := ⟨kb, 2, none⟩) HLK.out).trans k2
        have zk3 := (hz.cell (p := ⟨kb, 3, none⟩) HLK.out).trans k3
        have zg0 := (hz.cell (p := ⟨pb, 0, none⟩) HLP.out).trans g0
        have zg1 := (hz.cell (p := ⟨pb, 1, none⟩) HLP.out).trans g1
        have zg2 := (hz.cell (p := ⟨pb, 2, none⟩) HLP.out).trans g2
        have zg3 := (hz.cell (p := ⟨pb, 3, none⟩) HLP.out).trans g3
        have zq0 := (hz.cell (p := ⟨qb, 0, none⟩) HLQ.out).trans q0
        have zq1 := (hz.cell (p := ⟨qb, 1, none⟩) HLQ.out).trans q1
        have zq2 := (hz.cell (p := ⟨qb, 2, none⟩) HLQ.out).trans q2
        have zq3 := (hz.cell (p := ⟨qb, 3, none⟩) HLQ.out).trans q3
        go_simp
        all_goals first | with_reducible rfl | omega
      try simp only [Act.put, pu]
      refine wpAnyH_done (by kernel_rfl) ?_ _
      clear hS
      have HB := Lib.hid (HB.out.trans (HU.out.mono HB.out.size))
      have HK := Lib.hid (HK.out.below HU.out)
      have HP := Lib.hid (HP.out.below HU.out)
      clear HQ HLK HLP HLQ
      clear k0 k1 k2 k3 g0 g1 g2 g3 q0 q1 q2 q3
      have k0 : u7.cell? ⟨kb, 0, none⟩ = some (.string a1) := HK.out.cell 0
      have k1 : u7.cell? ⟨kb, 1, none⟩ = some (.string a2) := HK.out.cell 1
      have k2 : u7.cell? ⟨kb, 2, none⟩ = some (.int .i64 a3) := HK.out.cell 2
      have k3 : u7.cell? ⟨kb, 3, none⟩ = some (.string a4) := HK.out.cell 3
      have g0 : u7.cell? ⟨pb, 0, none⟩ = some (.string p1) := HP.out.cell 0
      have g1 : u7.cell? ⟨pb, 1, none⟩ = some (.string p2) := HP.out.cell 1
      have g2 : u7.cell? ⟨pb, 2, none⟩ = some (.int .i64 p3) := HP.out.cell 2
      have g3 : u7.cell? ⟨pb, 3, none⟩ = some (.string p4) := HP.out.cell 3
      go_wp2_with fail
      refine (HT.out _).mono ?_
      rintro e y1 ⟨rfl, hbx⟩
      have HB := Lib.hid (HB.out.trans (hbx.mono HB.out.size))
      have HK := Lib.hid (HK.out.below hbx)
      have HP := Lib.hid (HP.out.below hbx)
      clear hbx
      clear k0 k1 k2 k3 g0 g1 g2 g3
      have k0 : y1.cell? ⟨kb, 0, none⟩ = some (.string a1) := HK.out.cell 0
      have k1 : y1.cell? ⟨kb, 1, none⟩ = some (.string a2) := HK.out.cell 1
      have k2 : y1.cell? ⟨kb, 2, none⟩ = some (.int .i64 a3) := HK.out.cell 2
      have k3 : y1.cell? ⟨kb, 3, none⟩ = some (.string a4) := HK.out.cell 3
      have g0 : y1.cell? ⟨pb, 0, none⟩ = some (.string p1) := HP.out.cell 0
      have g1 : y1.cell? ⟨pb, 1, none⟩ = some (.string p2) := HP.out.cell 1
      have g2 : y1.cell? ⟨pb, 2, none⟩ = some (.int .i64 p3) := HP.out.cell 2
      have g3 : y1.cell? ⟨pb, 3, none⟩ = some (.string p4) := HP.out.cell 3
      go_wp2_with fail
      refine (HPT.out _).mono ?_
      rintro e y2 ⟨rfl, hbx⟩
      have HB := Lib.hid (HB.out.trans (hbx.mono HB.out.size))
      have HK := Lib.hid (HK.out.below hbx)
      have HP := Lib.hid (HP.out.below hbx)
      clear hbx
      clear k0 k1 k2 k3 g0 g1 g2 g3
      obtain ⟨W8, hW8⟩ : ∃ W, y2.alloc (.cells #[.string a1, .string a2, .int .i64 a3, .string a4] 23) = W := ⟨_, rfl⟩
      obtain ⟨cb, hcb⟩ : ∃ b, y2.heap.size = b := ⟨_, rfl⟩
      have hbz : Below y2.heap.size y2 W8 := by rw [← hW8]; exact (Below.refl _ _).alloc (Nat.le_refl _) _
      have HB := Lib.hid (HB.out.trans (hbz.mono HB.out.size))
      have HK := Lib.hid (HK.out.below hbz)
      have HP := Lib.hid (HP.out.below hbz)
      have HC := Lib.hid (show Bk W8 cb 23 (kC (a1, a2, a3, a4)) by rw [← hW8, ← hcb]; exact Bk.new _ _ _)
      clear hbz
      have k0 : W8.cell? ⟨kb, 0, none⟩ = some (.string a1) := HK.out.cell 0
      have k1 : W8.cell? ⟨kb, 1, none⟩ = some (.string a2) := HK.out.cell 1
      have k2 : W8.cell? ⟨kb, 2, none⟩ = some (.int .i64 a3) := HK.out.cell 2
      have k3 : W8.cell? ⟨kb, 3, none⟩ = some (.string a4) := HK.out.cell 3
      have g0 : W8.cell? ⟨pb, 0, none⟩ = some (.string p1) := HP.out.cell 0
      have g1 : W8.cell? ⟨pb, 1, none⟩ = some (.string p2) := HP.out.cell 1
      have g2 : W8.cell? ⟨pb, 2, none⟩ = some (.int .i64 p3) := HP.out.cell 2
      have g3 : W8.cell? ⟨pb, 3, none⟩ = some (.string p4) := HP.out.cell 3
      have c0 : W8.cell? ⟨cb, 0, none⟩ = some (.string a1) := HC.out.cell 0
      have c1 : W8.cell? ⟨cb, 1, none⟩ = some (.string a2) := HC.out.cell 1
      have c2 : W8.cell? ⟨cb, 2, none⟩ = some (.int .i64 a3) := HC.out.cell 2
      have c3 : W8.cell? ⟨cb, 3, none⟩ = some (.string a4) := HC.out.cell 3
      go_wp2_with fail
      try rw [hW8]
      try rw [hcb]
      clear hcb hW8
      refine (HT.out _).mono ?_
      rintro e y3 ⟨rfl, hbx⟩
      have HB := Lib.hid (HB.out.trans (hbx.mono HB.out.size))
      have HK := Lib.hid (HK.out.below hbx)
      have HP := Lib.hid (HP.out.below hbx)
      have HC := Lib.hid (HC.out.below hbx)
      clear hbx
      clear k0 k1 k2 k3 g0 g1 g2 g3 c0 c1 c2 c3
      have k0 : y3.cell? ⟨kb, 0, none⟩ = some (.string a1) := HK.out.cell 0
      have k1 : y3.cell? ⟨kb, 1, none⟩ = some (.string a2) := HK.out.cell 1
      have k2 : y3.cell? ⟨kb, 2, none⟩ = some (.int .i64 a3) := HK.out.cell 2
      have k3 : y3.cell? ⟨kb, 3, none⟩ = some (.string a4) := HK.out.cell 3
      have g0 : y3.cell? ⟨pb, 0, none⟩ = some (.string p1) := HP.out.cell 0
      have g1 : y3.cell? ⟨pb, 1, none⟩ = some (.string p2) := HP.out.cell 1
      have g2 : y3.cell? ⟨pb, 2, none⟩ = some (.int .i64 p3) := HP.out.cell 2
      have g3 : y3.cell? ⟨pb, 3, none⟩ = some (.string p4) := HP.out.cell 3
      have c0 : y3.cell? ⟨cb, 0, none⟩ = some (.string a1) := HC.out.cell 0
      have c1 : y3.cell? ⟨cb, 1, none⟩ = some (.string a2) := HC.out.cell 1
      have c2 : y3.cell? ⟨cb, 2, none⟩ = some (.int .i64 a3) := HC.out.cell 2
      have c3 : y3.cell? ⟨cb, 3, none⟩ = some (.string a4) := HC.out.cell 3
      have he := HE.out
      go_wp2_with fail
      refine (CA.known_any _).mono ?_
      rintro e wk ⟨rfl, hk⟩
      have HB := Lib.hid (HB.out.trans (hk.mono HB.out.size))
      clear hk
      go_wp2
      go_ret
      exact ⟨rfl, HB.out⟩
  | false =>
    have HPT := Lib.hid (fun W => parse_any ⟨#[]⟩ (by decide) W)
    unfold ParP at HPT
    have ho : okP ⟨#[]⟩ = false := by
      cases h : okP ⟨#[]⟩ with
      | false => rfl
      | true => exact absurd rfl (ok_ne h)
    rw [show parK ⟨#[]⟩ = zK by unfold parK; rw [ho]; rfl, ho] at HPT
    obtain ⟨Kz, hKz⟩ : ∃ K, zK = K := ⟨_, rfl⟩
    rw [hKz] at HPT
    obtain ⟨c1, c2, c3, c4⟩ := Kz
    clear hKz
    rw [txt_not hr] at HT HRT
    cases hO : okP s with
    | true =>
      rw [hO] at HPA HRPA
      have HTP := Lib.hid (HTP.out hO)
      obtain ⟨p1, p2, p3, p4⟩ := P
      clear ho hO hr hP hz fa sa ba s1 s2 HE
      obtain ⟨a1, a2, a3, a4⟩ := a
      have k0 : W0.cell? ⟨kb, 0, none⟩ = some (.string a1) := HK.out.cell 0
      have k1 : W0.cell? ⟨kb, 1, none⟩ = some (.string a2) := HK.out.cell 1
      have k2 : W0.cell? ⟨kb, 2, none⟩ = some (.int .i64 a3) := HK.out.cell 2
      have k3 : W0.cell? ⟨kb, 3, none⟩ = some (.string a4) := HK.out.cell 3
      go_enter Try.func3, Try.ntmps3
      go_wp2_with fail
      try rw [hW0]
      try rw [hkb]
      refine (HSH.out _).mono ?_
      rintro e w1 ⟨rfl, hb1⟩
      have HK := Lib.hid (HK.out.below hb1)
      have HB := Lib.hid (HB.out.trans (hb1.mono HB.out.size))
      clear hb1 hW0 hkb
      clear k0 k1 k2 k3
      have k0 : w1.cell? ⟨kb, 0, none⟩ = some (.string a1) := HK.out.cell 0
      have k1 : w1.cell? ⟨kb, 1, none⟩ = some (.string a2) := HK.out.cell 1
      have k2 : w1.cell? ⟨kb, 2, none⟩ = some (.int .i64 a3) := HK.out.cell 2
      have k3 : w1.cell? ⟨kb, 3, none⟩ = some (.string a4) := HK.out.cell 3
      go_wp2_with fail
      refine (HPA.out _).mono ?_
      rintro e w2 ⟨rfl, hb2⟩
      have HB := Lib.hid (HB.out.trans (hb2.mono HB.out.size))
      have HK := Lib.hid (HK.out.below hb2)
      clear hb2 HPA
      clear k0 k1 k2 k3
      obtain ⟨W7, hW7⟩ : ∃ W, w2.alloc (.cells #[.string p1, .string p2, .int .i64 p3, .string p4] 23) = W := ⟨_, rfl⟩
      obtain ⟨pb, hpb⟩ : ∃ b, w2.heap.size = b := ⟨_, rfl⟩
      have hbz : Below w2.heap.size w2 W7 := by rw [← hW7]; exact (Below.refl _ _).alloc (Nat.le_refl _) _
      have HB := Lib.hid (HB.out.trans (hbz.mono HB.out.size))
      have HK := Lib.hid (HK.out.below hbz)
      have HP := Lib.hid (show Bk W7 pb 23 (kC (p1, p2, p3, p4)) by rw [← hW7, ← hpb]; exact Bk.new _ _ _)
      clear hbz
      have k0 : W7.cell? ⟨kb, 0, none⟩ = some (.string a1) := HK.out.cell 0
      have k1 : W7.cell? ⟨kb, 1, none⟩ = some (.string a2) := HK.out.cell 1
      have k2 : W7.cell? ⟨kb, 2, none⟩ = some (.int .i64 a3) := HK.out.cell 2
      have k3 : W7.cell? ⟨kb, 3, none⟩ = some (.string a4) := HK.out.cell 3
      have g0 : W7.cell? ⟨pb, 0, none⟩ = some (.string p1) := HP.out.cell 0
      have g1 : W7.cell? ⟨pb, 1, none⟩ = some (.string p2) := HP.out.cell 1
      have g2 : W7.cell? ⟨pb, 2, none⟩ = some (.int .i64 p3) := HP.out.cell 2
      have g3 : W7.cell? ⟨pb, 3, none⟩ = some (.string p4) := HP.out.cell 3
      go_wp2_with fail
      try rw [hW7]
      try rw [hpb]
      refine (HRPA.out _).mono ?_
      rintro e w3 ⟨rfl, hb3⟩
      have HB := Lib.hid (HB.out.trans (hb3.mono HB.out.size))
      have HK := Lib.hid (HK.out.below hb3)
      have HP := Lib.hid (HP.out.below hb3)
      clear hb3 HRPA hW7 hpb
      clear k0 k1 k2 k3 g0 g1 g2 g3
      obtain ⟨W9, hW9⟩ : ∃ W, w3.alloc (.cells #[.string p1, .string p2, .int .i64 p3, .string p4] 28) = W := ⟨_, rfl⟩
      obtain ⟨qb, hqb⟩ : ∃ b, w3.heap.size = b := ⟨_, rfl⟩
      have hbz : Below w3.heap.size w3 W9 := by rw [← hW9]; exact (Below.refl _ _).alloc (Nat.le_refl _) _
      have HB := Lib.hid (HB.out.trans (hbz.mono HB.out.size))
      have HK := Lib.hid (HK.out.below hbz)
      have HP := Lib.hid (HP.out.below hbz)
      have HQ := Lib.hid (show Bk W9 qb 28 (kC (p1, p2, p3, p4)) by rw [← hW9, ← hqb]; exact Bk.new _ _ _)
      clear hbz
      have k0 : W9.cell? ⟨kb, 0, none⟩ = some (.string a1) := HK.out.cell 0
      have k1 : W9.cell? ⟨kb, 1, none⟩ = some (.string a2) := HK.out.cell 1
      have k2 : W9.cell? ⟨kb, 2, none⟩ = some (.int .i64 a3) := HK.out.cell 2
      have k3 : W9.cell? ⟨kb, 3, none⟩ = some (.string a4) := HK.out.cell 3
      have g0 : W9.cell? ⟨pb, 0, none⟩ = some (.string p1) := HP.out.cell 0
      have g1 : W9.cell? ⟨pb, 1, none⟩ = some (.string p2) := HP.out.cell 1
      have g2 : W9.cell? ⟨pb, 2, none⟩ = some (.int .i64 p3) := HP.out.cell 2
      have g3 : W9.cell? ⟨pb, 3, none⟩ = some (.string p4) := HP.out.cell 3
      have q0 : W9.cell? ⟨qb, 0, none⟩ = some (.string p1) := HQ.out.cell 0
      have q1 : W9.cell? ⟨qb, 1, none⟩ = some (.string p2) := HQ.out.cell 1
      have q2 : W9.cell? ⟨qb, 2, none⟩ = some (.int .i64 p3) := HQ.out.cell 2
      have q3 : W9.cell? ⟨qb, 3, none⟩ = some (.string p4) := HQ.out.cell 3
      go_wp2_with fail
      try rw [hW9]
      try rw [hqb]
      have HLK := Lib.hid HK.out.lt
      have HLP := Lib.hid HP.out.lt
      have HLQ := Lib.hid HQ.out.lt
      clear hW9 hqb
      refine wp_region_held_drew (S := (fun w' => Below W9.heap.size W9 w')) (by kernel_rfl) ?_ (fun hS => ?_)
      · exact (Below.refl _ _).drew
      refine tkY 0 ?_ rfl hS ?_ ?_
      rotate_left
      · intro wz hz
        have zk0 := (hz.cell (p := ⟨kb, 0, none⟩) HLK.out).trans k0
        have zk1 := (hz.cell (p := ⟨kb, 1, none⟩) HLK.out).trans k1
        have zk2 := (hz.cell (p := ⟨kb, 2, none⟩) HLK.out).trans k2
        have zk3 := (hz.cell (p := ⟨kb, 3, none⟩) HLK.out).trans k3
        have zg0 := (hz.cell (p := ⟨pb, 0, none⟩) HLP.out).trans g0
        have zg1 := (hz.cell (p := ⟨pb, 1, none⟩) HLP.out).trans g1
        have zg2 := (hz.cell (p := ⟨pb, 2, none⟩) HLP.out).trans g2
        have zg3 := (hz.cell (p := ⟨pb, 3, none⟩) HLP.out).trans g3
        have zq0 := (hz.cell (p := ⟨qb, 0, none⟩) HLQ.out).trans q0
        have zq1 := (hz.cell (p := ⟨qb, 1, none⟩) HLQ.out).trans q1
        have zq2 := (hz.cell (p := ⟨qb, 2, none⟩) HLQ.out).trans q2
        have zq3 := (hz.cell (p := ⟨qb, 3, none⟩) HLQ.out).trans q3
        go_simp
        all_goals first | with_reducible rfl | omega
      try simp only [Act.put, pu]
      refine tkY 2 ?_ rfl hS ?_ ?_
      rotate_left
      · intro wz hz
        have zk0 := (hz.cell (p := ⟨kb, 0, none⟩) HLK.out).trans k0
        have zk1 := (hz.cell (p := ⟨kb, 1, none⟩) HLK.out).trans k1
        have zk2 := (hz.cell (p := ⟨kb, 2, none⟩) HLK.out).trans k2
        have zk3 := (hz.cell (p := ⟨kb, 3, none⟩) HLK.out).trans k3
        have zg0 := (hz.cell (p := ⟨pb, 0, none⟩) HLP.out).trans g0
        have zg1 := (hz.cell (p := ⟨pb, 1, none⟩) HLP.out).trans g1
        have zg2 := (hz.cell (p := ⟨pb, 2, none⟩) HLP.out).trans g2
        have zg3 := (hz.cell (p := ⟨pb, 3, none⟩) HLP.out).trans g3
        have zq0 := (hz.cell (p := ⟨qb, 0, none⟩) HLQ.out).trans q0
        have zq1 := (hz.cell (p := ⟨qb, 1, none⟩) HLQ.out).trans q1
        have zq2 := (hz.cell (p := ⟨qb, 2, none⟩) HLQ.out).trans q2
        have zq3 := (hz.cell (p := ⟨qb, 3, none⟩) HLQ.out).trans q3
        go_simp
        all_goals first | with_reducible rfl | omega
      try simp only [Act.put, pu]
      refine wpAnyH_ready (rs := [1]) (by kernel_rfl) (by simp) (AllReadyH.cons rfl (fun K' hK' => ?_) AllReadyH.nil)
      go_simp
      have hbd : Below W9.heap.size W9 W9.drew := (Below.refl _ _).drew
      refine (HT.out _).mono ?_
      rintro e u1 ⟨rfl, b4⟩
      have HU := Lib.hid (hbd.trans (b4.mono hbd.size))
      clear b4 hbd
      refine hK'.out _ _ ?_ (fun hSn => ?_)
      · exact HU.out
      clear hK' K' hS
      have hS := hSn
      clear hSn
      try simp only [Act.put, pu]
      refine wpAnyH_ready (rs := [3]) (by kernel_rfl) (by simp) (AllReadyH.cons rfl (fun K' hK' => ?_) AllReadyH.nil)
      go_simp
      refine (HPL.out (a1, a2, a3, a4) _).mono ?_
      rintro e u2 ⟨rfl, b4⟩
      have HU := Lib.hid (HU.out.trans (b4.mono HU.out.size))
      clear b4
      refine hK'.out _ _ ?_ (fun hSn => ?_)
      · exact HU.out
      clear hK' K' hS
      have hS := hSn
      clear hSn
      try simp only [Act.put, pu]
      refine wpAnyH_ready (rs := [4]) (by kernel_rfl) (by simp) (AllReadyH.cons rfl (fun K' hK' => ?_) AllReadyH.nil)
      go_simp
      refine (HRT.out _).mono ?_
      rintro e u3 ⟨rfl, b4⟩
      have HU := Lib.hid (HU.out.trans (b4.mono HU.out.size))
      clear b4
      refine hK'.out _ _ ?_ (fun hSn => ?_)
      · exact HU.out
      clear hK' K' hS
      have hS := hSn
      clear hSn
      try simp only [Act.put, pu]
      refine tkY 5 ?_ rfl hS ?_ ?_
      rotate_left
      · intro wz hz
        have zk0 := (hz.cell (p := ⟨kb, 0, none⟩) HLK.out).trans k0
        have zk1 := (hz.cell (p := ⟨kb, 1, none⟩) HLK.out).trans k1
        have zk2 := (hz.cell (p := ⟨kb, 2, none⟩) HLK.out).trans k2
        have zk3 := (hz.cell (p := ⟨kb, 3, none⟩) HLK.out).trans k3
        have zg0 := (hz.cell (p := ⟨pb, 0, none⟩) HLP.out).trans g0
        have zg1 := (hz.cell (p := ⟨pb, 1, none⟩) HLP.out).trans g1
        have zg2 := (hz.cell (p := ⟨pb, 2, none⟩) HLP.out).trans g2
        have zg3 := (hz.cell (p := ⟨pb, 3, none⟩) HLP.out).trans g3
        have zq0 := (hz.cell (p := ⟨qb, 0, none⟩) HLQ.out).trans q0
        have zq1 := (hz.cell (p := ⟨qb, 1, none⟩) HLQ.out).trans q1
        have zq2 := (hz.cell (p := ⟨qb, 2, none⟩) HLQ.out).trans q2
        have zq3 := (hz.cell (p := ⟨qb, 3, none⟩) HLQ.out).trans q3
        go_simp
        all_goals first | with_reducible rfl | omega
      try simp only [Act.put, pu]
      refine tkY 6 ?_ rfl hS ?_ ?_
      rotate_left
      · intro wz hz
        have zk0 := (hz.cell (p := ⟨kb, 0, none⟩) HLK.out).trans k0
        have zk1 := (hz.cell (p := ⟨kb, 1, none⟩) HLK.out).trans k1
        have zk2 := (hz.cell (p := ⟨kb, 2, none⟩) HLK.out).trans k2
        have zk3 := (hz.cell (p := ⟨kb, 3, none⟩) HLK.out).trans k3
        have zg0 := (hz.cell (p := ⟨pb, 0, none⟩) HLP.out).trans g0
        have zg1 := (hz.cell (p := ⟨pb, 1, none⟩) HLP.out).trans g1
        have zg2 := (hz.cell (p := ⟨pb, 2, none⟩) HLP.out).trans g2
        have zg3 := (hz.cell (p := ⟨pb, 3, none⟩) HLP.out).trans g3
        have zq0 := (hz.cell (p := ⟨qb, 0, none⟩) HLQ.out).trans q0
        have zq1 := (hz.cell (p := ⟨qb, 1, none⟩) HLQ.out).trans q1
        have zq2 := (hz.cell (p := ⟨qb, 2, none⟩) HLQ.out).trans q2
        have zq3 := (hz.cell (p := ⟨qb, 3, none⟩) HLQ.out).trans q3
        go_simp
        all_goals first | with_reducible rfl | omega
      try simp only [Act.put, pu]
      refine tkY 7 ?_ rfl hS ?_ ?_
      rotate_left
      · intro wz hz
        have zk0 := (hz.cell (p := ⟨kb, 0, none⟩) HLK.out).trans k0
        have zk1 := (hz.cell (p := ⟨kb, 1, none⟩) HLK.out).trans k1
        have zk2 := (hz.cell (p := ⟨kb, 2, none⟩) HLK.out).trans k2
        have zk3 := (hz.cell (p := ⟨kb, 3, none⟩) HLK.out).trans k3
        have zg0 := (hz.cell (p := ⟨pb, 0, none⟩) HLP.out).trans g0
        have zg1 := (hz.cell (p := ⟨pb, 1, none⟩) HLP.out).trans g1
        have zg2 := (hz.cell (p := ⟨pb, 2, none⟩) HLP.out).trans g2
        have zg3 := (hz.cell (p := ⟨pb, 3, none⟩) HLP.out).trans g3
        have zq0 := (hz.cell (p := ⟨qb, 0, none⟩) HLQ.out).trans q0
        have zq1 := (hz.cell (p := ⟨qb, 1, none⟩) HLQ.out).trans q1
        have zq2 := (hz.cell (p := ⟨qb, 2, none⟩) HLQ.out).trans q2
        have zq3 := (hz.cell (p := ⟨qb, 3, none⟩) HLQ.out).trans q3
        go_simp
        all_goals first | with_reducible rfl | omega
      try simp only [Act.put, pu]
      refine tkY 9 ?_ rfl hS ?_ ?_
      rotate_left
      · intro wz hz
        have zk0 := (hz.cell (p := ⟨kb, 0, none⟩) HLK.out).trans k0
        have zk1 := (hz.cell (p := ⟨kb, 1, none⟩) HLK.out).trans k1
        have zk2 := (hz.cell (p := ⟨kb, 2, none⟩) HLK.out).trans k2
        have zk3 := (hz.cell (p := ⟨kb, 3, none⟩) HLK.out).trans k3
        have zg0 := (hz.cell (p := ⟨pb, 0, none⟩) HLP.out).trans g0
        have zg1 := (hz.cell (p := ⟨pb, 1, none⟩) HLP.out).trans g1
        have zg2 := (hz.cell (p := ⟨pb, 2, none⟩) HLP.out).trans g2
        have zg3 := (hz.cell (p := ⟨pb, 3, none⟩) HLP.out).trans g3
        have zq0 := (hz.cell (p := ⟨qb, 0, none⟩) HLQ.out).trans q0
        have zq1 := (hz.cell (p := ⟨qb, 1, none⟩) HLQ.out).trans q1
        have zq2 := (hz.cell (p := ⟨qb, 2, none⟩) HLQ.out).trans q2
        have zq3 := (hz.cell (p := ⟨qb, 3, none⟩) HLQ.out).trans q3
        go_simp
        all_goals first | with_reducible rfl | omega
      try simp only [Act.put, pu]
      refine wpAnyH_ready (rs := [8]) (by kernel_rfl) (by simp) (AllReadyH.cons rfl (fun K' hK' => ?_) AllReadyH.nil)
      go_simp
      refine (HPL.out (p1, p2, p3, p4) _).mono ?_
      rintro e u4 ⟨rfl, b4⟩
      have HU := Lib.hid (HU.out.trans (b4.mono HU.out.size))
      clear b4
      refine hK'.out _ _ ?_ (fun hSn => ?_)
      · exact HU.out
      clear hK' K' hS
      have hS := hSn
      clear hSn
      try simp only [Act.put, pu]
      have hn := HNP.out
      refine tkY 10 ?_ rfl hS ?_ ?_
      rotate_left
      · intro wz hz
        have zk0 := (hz.cell (p := ⟨kb, 0, none⟩) HLK.out).trans k0
        have zk1 := (hz.cell (p := ⟨kb, 1, none⟩) HLK.out).trans k1
        have zk2 := (hz.cell (p := ⟨kb, 2, none⟩) HLK.out).trans k2
        have zk3 := (hz.cell (p := ⟨kb, 3, none⟩) HLK.out).trans k3
        have zg0 := (hz.cell (p := ⟨pb, 0, none⟩) HLP.out).trans g0
        have zg1 := (hz.cell (p := ⟨pb, 1, none⟩) HLP.out).trans g1
        have zg2 := (hz.cell (p := ⟨pb, 2, none⟩) HLP.out).trans g2
        have zg3 := (hz.cell (p := ⟨pb, 3, none⟩) HLP.out).trans g3
        have zq0 := (hz.cell (p := ⟨qb, 0, none⟩) HLQ.out).trans q0
        have zq1 := (hz.cell (p := ⟨qb, 1, none⟩) HLQ.out).trans q1
        have zq2 := (hz.cell (p := ⟨qb, 2, none⟩) HLQ.out).trans q2
        have zq3 := (hz.cell (p := ⟨qb, 3, none⟩) HLQ.out).trans q3
        go_simp
        all_goals first | with_reducible rfl | omega
      try simp only [Act.put, pu]
      clear hn
      refine tkY 11 ?_ rfl hS ?_ ?_
      rotate_left
      · intro wz hz
        have zk0 := (hz.cell (p := ⟨kb, 0, none⟩) HLK.out).trans k0
        have zk1 := (hz.cell (p := ⟨kb, 1, none⟩) HLK.out).trans k1
        have zk2 := (hz.cell (p := ⟨kb, 2, none⟩) HLK.out).trans k2
        have zk3 := (hz.cell (p := ⟨kb, 3, none⟩) HLK.out).trans k3
        have zg0 := (hz.cell (p := ⟨pb, 0, none⟩) HLP.out).trans g0
        have zg1 := (hz.cell (p := ⟨pb, 1, none⟩) HLP.out).trans g1
        have zg2 := (hz.cell (p := ⟨pb, 2, none⟩) HLP.out).trans g2
        have zg3 := (hz.cell (p := ⟨pb, 3, none⟩) HLP.out).trans g3
        have zq0 := (hz.cell (p := ⟨qb, 0, none⟩) HLQ.out).trans q0
        have zq1 := (hz.cell (p := ⟨qb, 1, none⟩) HLQ.out).trans q1
        have zq2 := (hz.cell (p := ⟨qb, 2, none⟩) HLQ.out).trans q2
        have zq3 := (hz.cell (p := ⟨qb, 3, none⟩) HLQ.out).trans q3
        go_simp
        all_goals first | with_reducible rfl | omega
      try simp only [Act.put, pu]
      refine tkY 12 ?_ rfl hS ?_ ?_
      rotate_left
      · intro wz hz
        have zk0 := (hz.cell (p := ⟨kb, 0, none⟩) HLK.out).trans k0
        have zk1 := (hz.cell (p := ⟨kb, 1, none⟩) HLK.out).trans k1
        have zk2 := (hz.cell (p := ⟨kb, 2, none⟩) HLK.out).trans k2
        have zk3 := (hz.cell (p := ⟨kb, 3, none⟩) HLK.out).trans k3
        have zg0 := (hz.cell (p := ⟨pb, 0, none⟩) HLP.out).trans g0
        have zg1 := (hz.cell (p := ⟨pb, 1, none⟩) HLP.out).trans g1
        have zg2 := (hz.cell (p := ⟨pb, 2, none⟩) HLP.out).trans g2
        have zg3 := (hz.cell (p := ⟨pb, 3, none⟩) HLP.out).trans g3
        have zq0 := (hz.cell (p := ⟨qb, 0, none⟩) HLQ.out).trans q0
        have zq1 := (hz.cell (p := ⟨qb, 1, none⟩) HLQ.out).trans q1
        have zq2 := (hz.cell (p := ⟨qb, 2, none⟩) HLQ.out).trans q2
        have zq3 := (hz.cell (p := ⟨qb, 3, none⟩) HLQ.out).trans q3
        go_simp
        all_goals first | with_reducible rfl | omega
      try simp only [Act.put, pu]
      refine tkY 13 ?_ rfl hS ?_ ?_
      rotate_left
      · intro wz hz
        have zk0 := (hz.cell (p := ⟨kb, 0, none⟩) HLK.out).trans k0
        have zk1 := (hz.cell (p := ⟨kb, 1, none⟩) HLK.out).trans k1
        have zk2 := (hz.cell (p := ⟨kb, 2, none⟩) HLK.out).trans k2
        have zk3 := (hz.cell (p := ⟨kb, 3, none⟩) HLK.out).trans k3
        have zg0 := (hz.cell (p := ⟨pb, 0, none⟩) HLP.out).trans g0
        have zg1 := (hz.cell (p := ⟨pb, 1, none⟩) HLP.out).trans g1
        have zg2 := (hz.cell (p := ⟨pb, 2, none⟩) HLP.out).trans g2
        have zg3 := (hz.cell (p := ⟨pb, 3, none⟩) HLP.out).trans g3
        have zq0 := (hz.cell (p := ⟨qb, 0, none⟩) HLQ.out).trans q0
        have zq1 := (hz.cell (p := ⟨qb, 1, none⟩) HLQ.out).trans q1
        have zq2 := (hz.cell (p := ⟨qb, 2, none⟩) HLQ.out).trans q2
        have zq3 := (hz.cell (p := ⟨qb, 3, none⟩) HLQ.out).trans q3
        go_simp
        all_goals first | with_reducible rfl | omega
      try simp only [Act.put, pu]
      refine tkY 14 ?_ rfl hS ?_ ?_
      rotate_left
      · intro wz hz
        have zk0 := (hz.cell (p := ⟨kb, 0, none⟩) HLK.out).trans k0
        have zk1 := (hz.cell (p := ⟨kb, 1, none⟩) HLK.out).trans k1
        have zk2 := (hz.cell (p := ⟨kb, 2, none⟩) HLK.out).trans k2
        have zk3 := (hz.cell (p := ⟨kb, 3, none⟩) HLK.out).trans k3
        have zg0 := (hz.cell (p := ⟨pb, 0, none⟩) HLP.out).trans g0
        have zg1 := (hz.cell (p := ⟨pb, 1, none⟩) HLP.out).trans g1
        have zg2 := (hz.cell (p := ⟨pb, 2, none⟩) HLP.out).trans g2
        have zg3 := (hz.cell (p := ⟨pb, 3, none⟩) HLP.out).trans g3
        have zq0 := (hz.cell (p := ⟨qb, 0, none⟩) HLQ.out).trans q0
        have zq1 := (hz.cell (p := ⟨qb, 1, none⟩) HLQ.out).trans q1
        have zq2 := (hz.cell (p := ⟨qb, 2, none⟩) HLQ.out).trans q2
        have zq3 := (hz.cell (p := ⟨qb, 3, none⟩) HLQ.out).trans q3
        go_simp
        all_goals first | with_reducible rfl | omega
      try simp only [Act.put, pu]
      refine tkY 15 ?_ rfl hS ?_ ?_
      rotate_left
      · intro wz hz
        have zk0 := (hz.cell (p := ⟨kb, 0, none⟩) HLK.out).trans k0
        have zk1 := (hz.cell (p := ⟨kb, 1, none⟩) HLK.out).trans k1
        have zk2 := (hz.cell (p := ⟨kb, 2, none⟩) HLK.out).trans k2
        have zk3 := (hz.cell (p := ⟨kb, 3, none⟩) HLK.out).trans k3
        have zg0 := (hz.cell (p := ⟨pb, 0, none⟩) HLP.out).trans g0
        have zg1 := (hz.cell (p := ⟨pb, 1, none⟩) HLP.out).trans g1
        have zg2 := (hz.cell (p := ⟨pb, 2, none⟩) HLP.out).trans g2
        have zg3 := (hz.cell (p := ⟨pb, 3, none⟩) HLP.out).trans g3
        have zq0 := (hz.cell (p := ⟨qb, 0, none⟩) HLQ.out).trans q0
        have zq1 := (hz.cell (p := ⟨qb, 1, none⟩) HLQ.out).trans q1
        have zq2 := (hz.cell (p := ⟨qb, 2, none⟩) HLQ.out).trans q2
        have zq3 := (hz.cell (p := ⟨qb, 3, none⟩) HLQ.out).trans q3
        go_simp
        all_goals first | with_reducible rfl | omega
      try simp only [Act.put, pu]
      refine tkY 16 ?_ rfl hS ?_ ?_
      rotate_left
      · intro wz hz
        have zk0 := (hz.cell (p := ⟨kb, 0, none⟩) HLK.out).trans k0
        have zk1 := (hz.cell (p := ⟨kb, 1, none⟩) HLK.out).trans k1
        have zk2 := (hz.cell (p := ⟨kb, 2, none⟩) HLK.out).trans k2
        have zk3 := (hz.cell (p := ⟨kb, 3, none⟩) HLK.out).trans k3
        have zg0 := (hz.cell (p := ⟨pb, 0, none⟩) HLP.out).trans g0
        have zg1 := (hz.cell (p := ⟨pb, 1, none⟩) HLP.out).trans g1
        have zg2 := (hz.cell (p := ⟨pb, 2, none⟩) HLP.out).trans g2
        have zg3 := (hz.cell (p := ⟨pb, 3, none⟩) HLP.out).trans g3
        have zq0 := (hz.cell (p := ⟨qb, 0, none⟩) HLQ.out).trans q0
        have zq1 := (hz.cell (p := ⟨qb, 1, none⟩) HLQ.out).trans q1
        have zq2 := (hz.cell (p := ⟨qb, 2, none⟩) HLQ.out).trans q2
        have zq3 := (hz.cell (p := ⟨qb, 3, none⟩) HLQ.out).trans q3
        go_simp
        all_goals first | with_reducible rfl | omega
      try simp only [Act.put, pu]
      refine tkY 17 ?_ rfl hS ?_ ?_
      rotate_left
      · intro wz hz
        have zk0 := (hz.cell (p := ⟨kb, 0, none⟩) HLK.out).trans k0
        have zk1 := (hz.cell (p := ⟨kb, 1, none⟩) HLK.out).trans k1
        have zk2 := (hz.cell (p := ⟨kb, 2, none⟩) HLK.out).trans k2
        have zk3 := (hz.cell (p := ⟨kb, 3, none⟩) HLK.out).trans k3
        have zg0 := (hz.cell (p := ⟨pb, 0, none⟩) HLP.out).trans g0
        have zg1 := (hz.cell (p := ⟨pb, 1, none⟩) HLP.out).trans g1
        have zg2 := (hz.cell (p := ⟨pb, 2, none⟩) HLP.out).trans g2
        have zg3 := (hz.cell (p := ⟨pb, 3, none⟩) HLP.out).trans g3
        have zq0 := (hz.cell (p := ⟨qb, 0, none⟩) HLQ.out).trans q0
        have zq1 := (hz.cell (p := ⟨qb, 1, none⟩) HLQ.out).trans q1
        have zq2 := (hz.cell (p := ⟨qb, 2, none⟩) HLQ.out).trans q2
        have zq3 := (hz.cell (p := ⟨qb, 3, none⟩) HLQ.out).trans q3
        go_simp
        all_goals first | with_reducible rfl | omega
      try simp only [Act.put, pu]
      refine tkY 18 ?_ rfl hS ?_ ?_
      rotate_left
      · intro wz hz
        have zk0 := (hz.cell (p := ⟨kb, 0, none⟩) HLK.out).trans k0
        have zk1 := (hz.cell (p := ⟨kb, 1, none⟩) HLK.out).trans k1
        have zk2 := (hz.cell (p := ⟨kb, 2, none⟩) HLK.out).trans k2
        have zk3 := (hz.cell (p := ⟨kb, 3, none⟩) HLK.out).trans k3
        have zg0 := (hz.cell (p := ⟨pb, 0, none⟩) HLP.out).trans g0
        have zg1 := (hz.cell (p := ⟨pb, 1, none⟩) HLP.out).trans g1
        have zg2 := (hz.cell (p := ⟨pb, 2, none⟩) HLP.out).trans g2
        have zg3 := (hz.cell (p := ⟨pb, 3, none⟩) HLP.out).trans g3
        have zq0 := (hz.cell (p := ⟨qb, 0, none⟩) HLQ.out).trans q0
        have zq1 := (hz.cell (p := ⟨qb, 1, none⟩) HLQ.out).trans q1
        have zq2 := (hz.cell (p := ⟨qb, 2, none⟩) HLQ.out).trans q2
        have zq3 := (hz.cell (p := ⟨qb, 3, none⟩) HLQ.out).trans q3
        go_simp
        all_goals first | with_reducible rfl | omega
      try simp only [Act.put, pu]
      refine tkY 19 ?_ rfl hS ?_ ?_
      rotate_left
      · intro wz hz
        have zk0 := (hz.cell (p := ⟨kb, 0, none⟩) HLK.out).trans k0
        have zk1 := (hz.cell (p := ⟨kb, 1, none⟩) HLK.out).trans k1
        have zk2 := (hz.cell (p := ⟨kb, 2, none⟩) HLK.out).trans k2
        have zk3 := (hz.cell (p := ⟨kb, 3, none⟩) HLK.out).trans k3
        have zg0 := (hz.cell (p := ⟨pb, 0, none⟩) HLP.out).trans g0
        have zg1 := (hz.cell (p := ⟨pb, 1, none⟩) HLP.out).trans g1
        have zg2 := (hz.cell (p := ⟨pb, 2, none⟩) HLP.out).trans g2
        have zg3 := (hz.cell (p := ⟨pb, 3, none⟩) HLP.out).trans g3
        have zq0 := (hz.cell (p := ⟨qb, 0, none⟩) HLQ.out).trans q0
        have zq1 := (hz.cell (p := ⟨qb, 1, none⟩) HLQ.out).trans q1
        have zq2 := (hz.cell (p := ⟨qb, 2, none⟩) HLQ.out).trans q2
        have zq3 := (hz.cell (p := ⟨qb, 3, none⟩) HLQ.out).trans q3
        go_simp
        all_goals first | with_reducible rfl | omega
      try simp only [Act.put, pu]
      refine tkY 21 ?_ rfl hS ?_ ?_
      rotate_left
      · intro wz hz
        have zk0 := (hz.cell (p := ⟨kb, 0, none⟩) HLK.out).trans k0
        have zk1 := (hz.cell (p := ⟨kb, 1, none⟩) HLK.out).trans k1
        have zk2 := (hz.cell (p := ⟨kb, 2, none⟩) HLK.out).trans k2
        have zk3 := (hz.cell (p := ⟨kb, 3, none⟩) HLK.out).trans k3
        have zg0 := (hz.cell (p := ⟨pb, 0, none⟩) HLP.out).trans g0
        have zg1 := (hz.cell (p := ⟨pb, 1, none⟩) HLP.out).trans g1
        have zg2 := (hz.cell (p := ⟨pb, 2, none⟩) HLP.out).trans g2
        have zg3 := (hz.cell (p := ⟨pb, 3, none⟩) HLP.out).trans g3
        have zq0 := (hz.cell (p := ⟨qb, 0, none⟩) HLQ.out).trans q0
        have zq1 := (hz.cell (p := ⟨qb, 1, none⟩) HLQ.out).trans q1
        have zq2 := (hz.cell (p := ⟨qb, 2, none⟩) HLQ.out).trans q2
        have zq3 := (hz.cell (p := ⟨qb, 3, none⟩) HLQ.out).trans q3
        go_simp
        all_goals first | with_reducible rfl | omega
      try simp only [Act.put, pu]
      refine tkY 23 ?_ rfl hS ?_ ?_
      rotate_left
      · intro wz hz
        have zk0 := (hz.cell (p := ⟨kb, 0, none⟩) HLK.out).trans k0
        have zk1 := (hz.cell (p := ⟨kb, 1, none⟩) HLK.out).trans k1
        have zk2 := (hz.cell (p := ⟨kb, 2, none⟩) HLK.out).trans k2
        have zk3 := (hz.cell (p := ⟨kb, 3, none⟩) HLK.out).trans k3
        have zg0 := (hz.cell (p := ⟨pb, 0, none⟩) HLP.out).trans g0
        have zg1 := (hz.cell (p := ⟨pb, 1, none⟩) HLP.out).trans g1
        have zg2 := (hz.cell (p := ⟨pb, 2, none⟩) HLP.out).trans g2
        have zg3 := (hz.cell (p := ⟨pb, 3, none⟩) HLP.out).trans g3
        have zq0 := (hz.cell (p := ⟨qb, 0, none⟩) HLQ.out).trans q0
        have zq1 := (hz.cell (p := ⟨qb, 1, none⟩) HLQ.out).trans q1
        have zq2 := (hz.cell (p := ⟨qb, 2, none⟩) HLQ.out).trans q2
        have zq3 := (hz.cell (p := ⟨qb, 3, none⟩) HLQ.out).trans q3
        go_simp
        all_goals first | with_reducible rfl | omega
      try simp only [Act.put, pu]
      refine wpAnyH_ready (rs := [20]) (by kernel_rfl) (by simp) (AllReadyH.cons rfl (fun K' hK' => ?_) AllReadyH.nil)
      go_simp
      refine (HSZ.out _).mono ?_
      rintro e u5 ⟨rfl, b4⟩
      have HU := Lib.hid (HU.out.trans (b4.mono HU.out.size))
      clear b4
      refine hK'.out _ _ ?_ (fun hSn => ?_)
      · exact HU.out
      clear hK' K' hS
      have hS := hSn
      clear hSn
      try simp only [Act.put, pu]
      refine wpAnyH_ready (rs := [22]) (by kernel_rfl) (by simp) (AllReadyH.cons rfl (fun K' hK' => ?_) AllReadyH.nil)
      go_simp
      refine (HPL.out (a1, a2, a3, a4) _).mono ?_
      rintro e u6 ⟨rfl, b4⟩
      have HU := Lib.hid (HU.out.trans (b4.mono HU.out.size))
      clear b4
      refine hK'.out _ _ ?_ (fun hSn => ?_)
      · exact HU.out
      clear hK' K' hS
      have hS := hSn
      clear hSn
      try simp only [Act.put, pu]
      refine wpAnyH_ready (rs := [24]) (by kernel_rfl) (by simp) (AllReadyH.cons rfl (fun K' hK' => ?_) AllReadyH.nil)
      go_simp
      refine (HRS.out _).mono ?_
      rintro e u7 ⟨rfl, b4⟩
      have HU := Lib.hid (HU.out.trans (b4.mono HU.out.size))
      clear b4
      refine hK'.out _ _ ?_ (fun hSn => ?_)
      · exact HU.out
      clear hK' K' hS
      have hS := hSn
      clear hSn
      try simp only [Act.put, pu]
      refine tkY 25 ?_ rfl hS ?_ ?_
      rotate_left
      · intro wz hz
        have zk0 := (hz.cell (p := ⟨kb, 0, none⟩) HLK.out).trans k0
        have zk1 := (hz.cell (p := ⟨kb, 1, none⟩) HLK.out).trans k1
        have zk2 := (hz.cell (p := ⟨kb, 2, none⟩) HLK.out).trans k2
        have zk3 := (hz.cell (p := ⟨kb, 3, none⟩) HLK.out).trans k3
        have zg0 := (hz.cell (p := ⟨pb, 0, none⟩) HLP.out).trans g0
        have zg1 := (hz.cell (p := ⟨pb, 1, none⟩) HLP.out).trans g1
        have zg2 := (hz.cell (p := ⟨pb, 2, none⟩) HLP.out).trans g2
        have zg3 := (hz.cell (p := ⟨pb, 3, none⟩) HLP.out).trans g3
        have zq0 := (hz.cell (p := ⟨qb, 0, none⟩) HLQ.out).trans q0
        have zq1 := (hz.cell (p := ⟨qb, 1, none⟩) HLQ.out).trans q1
        have zq2 := (hz.cell (p := ⟨qb, 2, none⟩) HLQ.out).trans q2
        have zq3 := (hz.cell (p := ⟨qb, 3, none⟩) HLQ.out).trans q3
        go_simp
        all_goals first | with_reducible rfl | omega
      try simp only [Act.put, pu]
      refine tkY 26 ?_ rfl hS ?_ ?_
      rotate_left
      · intro wz hz
        have zk0 := (hz.cell (p := ⟨kb, 0, none⟩) HLK.out).trans k0
        have zk1 := (hz.cell (p := ⟨kb, 1, none⟩) HLK.out).trans k1
        have zk2 := (hz.cell (p := ⟨kb, 2, none⟩) HLK.out).trans k2
        have zk3 := (hz.cell (p := ⟨kb, 3, none⟩) HLK.out).trans k3
        have zg0 := (hz.cell (p := ⟨pb, 0, none⟩) HLP.out).trans g0
        have zg1 := (hz.cell (p := ⟨pb, 1, none⟩) HLP.out).trans g1
        have zg2 := (hz.cell (p := ⟨pb, 2, none⟩) HLP.out).trans g2
        have zg3 := (hz.cell (p := ⟨pb, 3, none⟩) HLP.out).trans g3
        have zq0 := (hz.cell (p := ⟨qb, 0, none⟩) HLQ.out).trans q0
        have zq1 := (hz.cell (p := ⟨qb, 1, none⟩) HLQ.out).trans q1
        have zq2 := (hz.cell (p := ⟨qb, 2, none⟩) HLQ.out).trans q2
        have zq3 := (hz.cell (p := ⟨qb, 3, none⟩) HLQ.out).trans q3
        go_simp
        all_goals first | with_reducible rfl | omega
      try simp only [Act.put, pu]
      refine wpAnyH_done (by kernel_rfl) ?_ _
      clear hS
      have HB := Lib.hid (HB.out.trans (HU.out.mono HB.out.size))
      have HK := Lib.hid (HK.out.below HU.out)
      have HP := Lib.hid (HP.out.below HU.out)
      clear HQ HLK HLP HLQ
      clear k0 k1 k2 k3 g0 g1 g2 g3 q0 q1 q2 q3
      have k0 : u7.cell? ⟨kb, 0, none⟩ = some (.string a1) := HK.out.cell 0
      have k1 : u7.cell? ⟨kb, 1, none⟩ = some (.string a2) := HK.out.cell 1
      have k2 : u7.cell? ⟨kb, 2, none⟩ = some (.int .i64 a3) := HK.out.cell 2
      have k3 : u7.cell? ⟨kb, 3, none⟩ = some (.string a4) := HK.out.cell 3
      have g0 : u7.cell? ⟨pb, 0, none⟩ = some (.string p1) := HP.out.cell 0
      have g1 : u7.cell? ⟨pb, 1, none⟩ = some (.string p2) := HP.out.cell 1
      have g2 : u7.cell? ⟨pb, 2, none⟩ = some (.int .i64 p3) := HP.out.cell 2
      have g3 : u7.cell? ⟨pb, 3, none⟩ = some (.string p4) := HP.out.cell 3
      go_wp2_with fail
      refine (HT.out _).mono ?_
      rintro e y1 ⟨rfl, hbx⟩
      have HB := Lib.hid (HB.out.trans (hbx.mono HB.out.size))
      have HK := Lib.hid (HK.out.below hbx)
      have HP := Lib.hid (HP.out.below hbx)
      clear hbx
      clear k0 k1 k2 k3 g0 g1 g2 g3
      have k0 : y1.cell? ⟨kb, 0, none⟩ = some (.string a1) := HK.out.cell 0
      have k1 : y1.cell? ⟨kb, 1, none⟩ = some (.string a2) := HK.out.cell 1
      have k2 : y1.cell? ⟨kb, 2, none⟩ = some (.int .i64 a3) := HK.out.cell 2
      have k3 : y1.cell? ⟨kb, 3, none⟩ = some (.string a4) := HK.out.cell 3
      have g0 : y1.cell? ⟨pb, 0, none⟩ = some (.string p1) := HP.out.cell 0
      have g1 : y1.cell? ⟨pb, 1, none⟩ = some (.string p2) := HP.out.cell 1
      have g2 : y1.cell? ⟨pb, 2, none⟩ = some (.int .i64 p3) := HP.out.cell 2
      have g3 : y1.cell? ⟨pb, 3, none⟩ = some (.string p4) := HP.out.cell 3
      go_wp2_with fail
      refine (HPT.out _).mono ?_
      rintro e y2 ⟨rfl, hbx⟩
      have HB := Lib.hid (HB.out.trans (hbx.mono HB.out.size))
      have HK := Lib.hid (HK.out.below hbx)
      have HP := Lib.hid (HP.out.below hbx)
      clear hbx
      clear k0 k1 k2 k3 g0 g1 g2 g3
      obtain ⟨W8, hW8⟩ : ∃ W, y2.alloc (.cells #[.string c1, .string c2, .int .i64 c3, .string c4] 23) = W := ⟨_, rfl⟩
      obtain ⟨cb, hcb⟩ : ∃ b, y2.heap.size = b := ⟨_, rfl⟩
      have hbz : Below y2.heap.size y2 W8 := by rw [← hW8]; exact (Below.refl _ _).alloc (Nat.le_refl _) _
      have HB := Lib.hid (HB.out.trans (hbz.mono HB.out.size))
      have HK := Lib.hid (HK.out.below hbz)
      have HP := Lib.hid (HP.out.below hbz)
      clear hbz
      have k0 : W8.cell? ⟨kb, 0, none⟩ = some (.string a1) := HK.out.cell 0
      have k1 : W8.cell? ⟨kb, 1, none⟩ = some (.string a2) := HK.out.cell 1
      have k2 : W8.cell? ⟨kb, 2, none⟩ = some (.int .i64 a3) := HK.out.cell 2
      have k3 : W8.cell? ⟨kb, 3, none⟩ = some (.string a4) := HK.out.cell 3
      have g0 : W8.cell? ⟨pb, 0, none⟩ = some (.string p1) := HP.out.cell 0
      have g1 : W8.cell? ⟨pb, 1, none⟩ = some (.string p2) := HP.out.cell 1
      have g2 : W8.cell? ⟨pb, 2, none⟩ = some (.int .i64 p3) := HP.out.cell 2
      have g3 : W8.cell? ⟨pb, 3, none⟩ = some (.string p4) := HP.out.cell 3
      go_wp2_with fail
      try rw [hW8]
      try rw [hcb]
      clear hcb hW8
      refine (HT.out _).mono ?_
      rintro e y3 ⟨rfl, hbx⟩
      have HB := Lib.hid (HB.out.trans (hbx.mono HB.out.size))
      have HK := Lib.hid (HK.out.below hbx)
      have HP := Lib.hid (HP.out.below hbx)
      clear hbx
      clear k0 k1 k2 k3 g0 g1 g2 g3
      have k0 : y3.cell? ⟨kb, 0, none⟩ = some (.string a1) := HK.out.cell 0
      have k1 : y3.cell? ⟨kb, 1, none⟩ = some (.string a2) := HK.out.cell 1
      have k2 : y3.cell? ⟨kb, 2, none⟩ = some (.int .i64 a3) := HK.out.cell 2
      have k3 : y3.cell? ⟨kb, 3, none⟩ = some (.string a4) := HK.out.cell 3
      have g0 : y3.cell? ⟨pb, 0, none⟩ = some (.string p1) := HP.out.cell 0
      have g1 : y3.cell? ⟨pb, 1, none⟩ = some (.string p2) := HP.out.cell 1
      have g2 : y3.cell? ⟨pb, 2, none⟩ = some (.int .i64 p3) := HP.out.cell 2
      have g3 : y3.cell? ⟨pb, 3, none⟩ = some (.string p4) := HP.out.cell 3
      go_wp2_with fail
      refine (HTP.out _).mono ?_
      rintro e y4 ⟨rfl, hbx⟩
      have HB := Lib.hid (HB.out.trans (hbx.mono HB.out.size))
      clear hbx HK HP
      clear k0 k1 k2 k3 g0 g1 g2 g3
      go_wp2_with fail
      refine (CA.known_any _).mono ?_
      rintro e wk ⟨rfl, hk⟩
      have HB := Lib.hid (HB.out.trans (hk.mono HB.out.size))
      clear hk
      go_wp2
      go_ret
      exact ⟨rfl, HB.out⟩
    | false =>
      rw [hO] at HPA HRPA
      obtain ⟨p1, p2, p3, p4⟩ := P
      clear ho hO hr hP hz fa sa ba s1 s2 HTP HE
      obtain ⟨a1, a2, a3, a4⟩ := a
      have k0 : W0.cell? ⟨kb, 0, none⟩ = some (.string a1) := HK.out.cell 0
      have k1 : W0.cell? ⟨kb, 1, none⟩ = some (.string a2) := HK.out.cell 1
      have k2 : W0.cell? ⟨kb, 2, none⟩ = some (.int .i64 a3) := HK.out.cell 2
      have k3 : W0.cell? ⟨kb, 3, none⟩ = some (.string a4) := HK.out.cell 3
      go_enter Try.func3, Try.ntmps3
      go_wp2_with fail
      try rw [hW0]
      try rw [hkb]
      refine (HSH.out _).mono ?_
      rintro e w1 ⟨rfl, hb1⟩
      have HK := Lib.hid (HK.out.below hb1)
      have HB := Lib.hid (HB.out.trans (hb1.mono HB.out.size))
      clear hb1 hW0 hkb
      clear k0 k1 k2 k3
      have k0 : w1.cell? ⟨kb, 0, none⟩ = some (.string a1) := HK.out.cell 0
      have k1 : w1.cell? ⟨kb, 1, none⟩ = some (.string a2) := HK.out.cell 1
      have k2 : w1.cell? ⟨kb, 2, none⟩ = some (.int .i64 a3) := HK.out.cell 2
      have k3 : w1.cell? ⟨kb, 3, none⟩ = some (.string a4) := HK.out.cell 3
      go_wp2_with fail
      refine (HPA.out _).mono ?_
      rintro e w2 ⟨rfl, hb2⟩
      have HB := Lib.hid (HB.out.trans (hb2.mono HB.out.size))
      have HK := Lib.hid (HK.out.below hb2)
      clear hb2 HPA
      clear k0 k1 k2 k3
      obtain ⟨W7, hW7⟩ : ∃ W, w2.alloc (.cells #[.string p1, .string p2, .int .i64 p3, .string p4] 23) = W := ⟨_, rfl⟩
      obtain ⟨pb, hpb⟩ : ∃ b, w2.heap.size = b := ⟨_, rfl⟩
      have hbz : Below w2.heap.size w2 W7 := by rw [← hW7]; exact (Below.refl _ _).alloc (Nat.le_refl _) _
      have HB := Lib.hid (HB.out.trans (hbz.mono HB.out.size))
      have HK := Lib.hid (HK.out.below hbz)
      have HP := Lib.hid (show Bk W7 pb 23 (kC (p1, p2, p3, p4)) by rw [← hW7, ← hpb]; exact Bk.new _ _ _)
      clear hbz
      have k0 : W7.cell? ⟨kb, 0, none⟩ = some (.string a1) := HK.out.cell 0
      have k1 : W7.cell? ⟨kb, 1, none⟩ = some (.string a2) := HK.out.cell 1
      have k2 : W7.cell? ⟨kb, 2, none⟩ = some (.int .i64 a3) := HK.out.cell 2
      have k3 : W7.cell? ⟨kb, 3, none⟩ = some (.string a4) := HK.out.cell 3
      have g0 : W7.cell? ⟨pb, 0, none⟩ = some (.string p1) := HP.out.cell 0
      have g1 : W7.cell? ⟨pb, 1, none⟩ = some (.string p2) := HP.out.cell 1
      have g2 : W7.cell? ⟨pb, 2, none⟩ = some (.int .i64 p3) := HP.out.cell 2
      have g3 : W7.cell? ⟨pb, 3, none⟩ = some (.string p4) := HP.out.cell 3
      go_wp2_with fail
      try rw [hW7]
      try rw [hpb]
      refine (HRPA.out _).mono ?_
      rintro e w3 ⟨rfl, hb3⟩
      have HB := Lib.hid (HB.out.trans (hb3.mono HB.out.size))
      have HK := Lib.hid (HK.out.below hb3)
      have HP := Lib.hid (HP.out.below hb3)
      clear hb3 HRPA hW7 hpb
      clear k0 k1 k2 k3 g0 g1 g2 g3
      obtain ⟨W9, hW9⟩ : ∃ W, w3.alloc (.cells #[.string p1, .string p2, .int .i64 p3, .string p4] 28) = W := ⟨_, rfl⟩
      obtain ⟨qb, hqb⟩ : ∃ b, w3.heap.size = b := ⟨_, rfl⟩
      have hbz : Below w3.heap.size w3 W9 := by rw [← hW9]; exact (Below.refl _ _).alloc (Nat.le_refl _) _
      have HB := Lib.hid (HB.out.trans (hbz.mono HB.out.size))
      have HK := Lib.hid (HK.out.below hbz)
      have HP := Lib.hid (HP.out.below hbz)
      have HQ := Lib.hid (show Bk W9 qb 28 (kC (p1, p2, p3, p4)) by rw [← hW9, ← hqb]; exact Bk.new _ _ _)
      clear hbz
      have k0 : W9.cell? ⟨kb, 0, none⟩ = some (.string a1) := HK.out.cell 0
      have k1 : W9.cell? ⟨kb, 1, none⟩ = some (.string a2) := HK.out.cell 1
      have k2 : W9.cell? ⟨kb, 2, none⟩ = some (.int .i64 a3) := HK.out.cell 2
      have k3 : W9.cell? ⟨kb, 3, none⟩ = some (.string a4) := HK.out.cell 3
      have g0 : W9.cell? ⟨pb, 0, none⟩ = some (.string p1) := HP.out.cell 0
      have g1 : W9.cell? ⟨pb, 1, none⟩ = some (.string p2) := HP.out.cell 1
      have g2 : W9.cell? ⟨pb, 2, none⟩ = some (.int .i64 p3) := HP.out.cell 2
      have g3 : W9.cell? ⟨pb, 3, none⟩ = some (.string p4) := HP.out.cell 3
      have q0 : W9.cell? ⟨qb, 0, none⟩ = some (.string p1) := HQ.out.cell 0
      have q1 : W9.cell? ⟨qb, 1, none⟩ = some (.string p2) := HQ.out.cell 1
      have q2 : W9.cell? ⟨qb, 2, none⟩ = some (.int .i64 p3) := HQ.out.cell 2
      have q3 : W9.cell? ⟨qb, 3, none⟩ = some (.string p4) := HQ.out.cell 3
      go_wp2_with fail
      try rw [hW9]
      try rw [hqb]
      have HLK := Lib.hid HK.out.lt
      have HLP := Lib.hid HP.out.lt
      have HLQ := Lib.hid HQ.out.lt
      clear hW9 hqb
      refine wp_region_held_drew (S := (fun w' => Below W9.heap.size W9 w')) (by kernel_rfl) ?_ (fun hS => ?_)
      · exact (Below.refl _ _).drew
      refine tkY 0 ?_ rfl hS ?_ ?_
      rotate_left
      · intro wz hz
        have zk0 := (hz.cell (p := ⟨kb, 0, none⟩) HLK.out).trans k0
        have zk1 := (hz.cell (p := ⟨kb, 1, none⟩) HLK.out).trans k1
        have zk2 := (hz.cell (p := ⟨kb, 2, none⟩) HLK.out).trans k2
        have zk3 := (hz.cell (p := ⟨kb, 3, none⟩) HLK.out).trans k3
        have zg0 := (hz.cell (p := ⟨pb, 0, none⟩) HLP.out).trans g0
        have zg1 := (hz.cell (p := ⟨pb, 1, none⟩) HLP.out).trans g1
        have zg2 := (hz.cell (p := ⟨pb, 2, none⟩) HLP.out).trans g2
        have zg3 := (hz.cell (p := ⟨pb, 3, none⟩) HLP.out).trans g3
        have zq0 := (hz.cell (p := ⟨qb, 0, none⟩) HLQ.out).trans q0
        have zq1 := (hz.cell (p := ⟨qb, 1, none⟩) HLQ.out).trans q1
        have zq2 := (hz.cell (p := ⟨qb, 2, none⟩) HLQ.out).trans q2
        have zq3 := (hz.cell (p := ⟨qb, 3, none⟩) HLQ.out).trans q3
        go_simp
        all_goals first | with_reducible rfl | omega
      try simp only [Act.put, pu]
      refine tkY 2 ?_ rfl hS ?_ ?_
      rotate_left
      · intro wz hz
        have zk0 := (hz.cell (p := ⟨kb, 0, none⟩) HLK.out).trans k0
        have zk1 := (hz.cell (p := ⟨kb, 1, none⟩) HLK.out).trans k1
        have zk2 := (hz.cell (p := ⟨kb, 2, none⟩) HLK.out).trans k2
        have zk3 := (hz.cell (p := ⟨kb, 3, none⟩) HLK.out).trans k3
        have zg0 := (hz.cell (p := ⟨pb, 0, none⟩) HLP.out).trans g0
        have zg1 := (hz.cell (p := ⟨pb, 1, none⟩) HLP.out).trans g1
        have zg2 := (hz.cell (p := ⟨pb, 2, none⟩) HLP.out).trans g2
        have zg3 := (hz.cell (p := ⟨pb, 3, none⟩) HLP.out).trans g3
        have zq0 := (hz.cell (p := ⟨qb, 0, none⟩) HLQ.out).trans q0
        have zq1 := (hz.cell (p := ⟨qb, 1, none⟩) HLQ.out).trans q1
        have zq2 := (hz.cell (p := ⟨qb, 2, none⟩) HLQ.out).trans q2
        have zq3 := (hz.cell (p := ⟨qb, 3, none⟩) HLQ.out).trans q3
        go_simp
        all_goals first | with_reducible rfl | omega
      try simp only [Act.put, pu]
      refine wpAnyH_ready (rs := [1]) (by kernel_rfl) (by simp) (AllReadyH.cons rfl (fun K' hK' => ?_) AllReadyH.nil)
      go_simp
      have hbd : Below W9.heap.size W9 W9.drew := (Below.refl _ _).drew
      refine (HT.out _).mono ?_
      rintro e u1 ⟨rfl, b4⟩
      have HU := Lib.hid (hbd.trans (b4.mono hbd.size))
      clear b4 hbd
      refine hK'.out _ _ ?_ (fun hSn => ?_)
      · exact HU.out
      clear hK' K' hS
      have hS := hSn
      clear hSn
      try simp only [Act.put, pu]
      refine wpAnyH_ready (rs := [3]) (by kernel_rfl) (by simp) (AllReadyH.cons rfl (fun K' hK' => ?_) AllReadyH.nil)
      go_simp
      refine (HPL.out (a1, a2, a3, a4) _).mono ?_
      rintro e u2 ⟨rfl, b4⟩
      have HU := Lib.hid (HU.out.trans (b4.mono HU.out.size))
      clear b4
      refine hK'.out _ _ ?_ (fun hSn => ?_)
      · exact HU.out
      clear hK' K' hS
      have hS := hSn
      clear hSn
      try simp only [Act.put, pu]
      refine wpAnyH_ready (rs := [4]) (by kernel_rfl) (by simp) (AllReadyH.cons rfl (fun K' hK' => ?_) AllReadyH.nil)
      go_simp
      refine (HRT.out _).mono ?_
      rintro e u3 ⟨rfl, b4⟩
      have HU := Lib.hid (HU.out.trans (b4.mono HU.out.size))
      clear b4
      refine hK'.out _ _ ?_ (fun hSn => ?_)
      · exact HU.out
      clear hK' K' hS
      have hS := hSn
      clear hSn
      try simp only [Act.put, pu]
      refine tkY 5 ?_ rfl hS ?_ ?_
      rotate_left
      · intro wz hz
        have zk0 := (hz.cell (p := ⟨kb, 0, none⟩) HLK.out).trans k0
        have zk1 := (hz.cell (p := ⟨kb, 1, none⟩) HLK.out).trans k1
        have zk2 := (hz.cell (p := ⟨kb, 2, none⟩) HLK.out).trans k2
        have zk3 := (hz.cell (p := ⟨kb, 3, none⟩) HLK.out).trans k3
        have zg0 := (hz.cell (p := ⟨pb, 0, none⟩) HLP.out).trans g0
        have zg1 := (hz.cell (p := ⟨pb, 1, none⟩) HLP.out).trans g1
        have zg2 := (hz.cell (p := ⟨pb, 2, none⟩) HLP.out).trans g2
        have zg3 := (hz.cell (p := ⟨pb, 3, none⟩) HLP.out).trans g3
        have zq0 := (hz.cell (p := ⟨qb, 0, none⟩) HLQ.out).trans q0
        have zq1 := (hz.cell (p := ⟨qb, 1, none⟩) HLQ.out).trans q1
        have zq2 := (hz.cell (p := ⟨qb, 2, none⟩) HLQ.out).trans q2
        have zq3 := (hz.cell (p := ⟨qb, 3, none⟩) HLQ.out).trans q3
        go_simp
        all_goals first | with_reducible rfl | omega
      try simp only [Act.put, pu]
      refine tkY 6 ?_ rfl hS ?_ ?_
      rotate_left
      · intro wz hz
        have zk0 := (hz.cell (p := ⟨kb, 0, none⟩) HLK.out).trans k0
        have zk1 := (hz.cell (p := ⟨kb, 1, none⟩) HLK.out).trans k1
        have zk2 := (hz.cell (p := ⟨kb, 2, none⟩) HLK.out).trans k2
        have zk3 := (hz.cell (p := ⟨kb, 3, none⟩) HLK.out).trans k3
        have zg0 := (hz.cell (p := ⟨pb, 0, none⟩) HLP.out).trans g0
        have zg1 := (hz.cell (p := ⟨pb, 1, none⟩) HLP.out).trans g1
        have zg2 := (hz.cell (p := ⟨pb, 2, none⟩) HLP.out).trans g2
        have zg3 := (hz.cell (p := ⟨pb, 3, none⟩) HLP.out).trans g3
        have zq0 := (hz.cell (p := ⟨qb, 0, none⟩) HLQ.out).trans q0
        have zq1 := (hz.cell (p := ⟨qb, 1, none⟩) HLQ.out).trans q1
        have zq2 := (hz.cell (p := ⟨qb, 2, none⟩) HLQ.out).trans q2
        have zq3 := (hz.cell (p := ⟨qb, 3, none⟩) HLQ.out).trans q3
        go_simp
        all_goals first | with_reducible rfl | omega
      try simp only [Act.put, pu]
      refine tkY 7 ?_ rfl hS ?_ ?_
      rotate_left
      · intro wz hz
        have zk0 := (hz.cell (p := ⟨kb, 0, none⟩) HLK.out).trans k0
        have zk1 := (hz.cell (p := ⟨kb, 1, none⟩) HLK.out).trans k1
        have zk2 := (hz.cell (p := ⟨kb, 2, none⟩) HLK.out).trans k2
        have zk3 := (hz.cell (p := ⟨kb, 3, none⟩) HLK.out).trans k3
        have zg0 := (hz.cell (p := ⟨pb, 0, none⟩) HLP.out).trans g0
        have zg1 := (hz.cell (p := ⟨pb, 1, none⟩) HLP.out).trans g1
        have zg2 := (hz.cell (p := ⟨pb, 2, none⟩) HLP.out).trans g2
        have zg3 := (hz.cell (p := ⟨pb, 3, none⟩) HLP.out).trans g3
        have zq0 := (hz.cell (p := ⟨qb, 0, none⟩) HLQ.out).trans q0
        have zq1 := (hz.cell (p := ⟨qb, 1, none⟩) HLQ.out).trans q1
        have zq2 := (hz.cell (p := ⟨qb, 2, none⟩) HLQ.out).trans q2
        have zq3 := (hz.cell (p := ⟨qb, 3, none⟩) HLQ.out).trans q3
        go_simp
        all_goals first | with_reducible rfl | omega
      try simp only [Act.put, pu]
      refine tkY 9 ?_ rfl hS ?_ ?_
      rotate_left
      · intro wz hz
        have zk0 := (hz.cell (p := ⟨kb, 0, none⟩) HLK.out).trans k0
        have zk1 := (hz.cell (p := ⟨kb, 1, none⟩) HLK.out).trans k1
        have zk2 := (hz.cell (p := ⟨kb, 2, none⟩) HLK.out).trans k2
        have zk3 := (hz.cell (p := ⟨kb, 3, none⟩) HLK.out).trans k3
        have zg0 := (hz.cell (p := ⟨pb, 0, none⟩) HLP.out).trans g0
        have zg1 := (hz.cell (p := ⟨pb, 1, none⟩) HLP.out).trans g1
        have zg2 := (hz.cell (p := ⟨pb, 2, none⟩) HLP.out).trans g2
        have zg3 := (hz.cell (p := ⟨pb, 3, none⟩) HLP.out).trans g3
        have zq0 := (hz.cell (p := ⟨qb, 0, none⟩) HLQ.out).trans q0
        have zq1 := (hz.cell (p := ⟨qb, 1, none⟩) HLQ.out).trans q1
        have zq2 := (hz.cell (p := ⟨qb, 2, none⟩) HLQ.out).trans q2
        have zq3 := (hz.cell (p := ⟨qb, 3, none⟩) HLQ.out).trans q3
        go_simp
        all_goals first | with_reducible rfl | omega
      try simp only [Act.put, pu]
      refine wpAnyH_ready (rs := [8]) (by kernel_rfl) (by simp) (AllReadyH.cons rfl (fun K' hK' => ?_) AllReadyH.nil)
      go_simp
      refine (HPL.out (p1, p2, p3, p4) _).mono ?_
      rintro e u4 ⟨rfl, b4⟩
      have HU := Lib.hid (HU.out.trans (b4.mono HU.out.size))
      clear b4
      refine hK'.out _ _ ?_ (fun hSn => ?_)
      · exact HU.out
      clear hK' K' hS
      have hS := hSn
      clear hSn
      try simp only [Act.put, pu]
      have hn := HNP.out
      refine tkY 10 ?_ rfl hS ?_ ?_
      rotate_left
      · intro wz hz
        have zk0 := (hz.cell (p := ⟨kb, 0, none⟩) HLK.out).trans k0
        have zk1 := (hz.cell (p := ⟨kb, 1, none⟩) HLK.out).trans k1
        have zk2 := (hz.cell (p := ⟨kb, 2, none⟩) HLK.out).trans k2
        have zk3 := (hz.cell (p := ⟨kb, 3, none⟩) HLK.out).trans k3
        have zg0 := (hz.cell (p := ⟨pb, 0, none⟩) HLP.out).trans g0
        have zg1 := (hz.cell (p := ⟨pb, 1, none⟩) HLP.out).trans g1
        have zg2 := (hz.cell (p := ⟨pb, 2, none⟩) HLP.out).trans g2
        have zg3 := (hz.cell (p := ⟨pb, 3, none⟩) HLP.out).trans g3
        have zq0 := (hz.cell (p := ⟨qb, 0, none⟩) HLQ.out).trans q0
        have zq1 := (hz.cell (p := ⟨qb, 1, none⟩) HLQ.out).trans q1
        have zq2 := (hz.cell (p := ⟨qb, 2, none⟩) HLQ.out).trans q2
        have zq3 := (hz.cell (p := ⟨qb, 3, none⟩) HLQ.out).trans q3
        go_simp
        all_goals first | with_reducible rfl | omega
      try simp only [Act.put, pu]
      clear hn
      refine tkY 11 ?_ rfl hS ?_ ?_
      rotate_left
      · intro wz hz
        have zk0 := (hz.cell (p := ⟨kb, 0, none⟩) HLK.out).trans k0
        have zk1 := (hz.cell (p := ⟨kb, 1, none⟩) HLK.out).trans k1
        have zk2 := (hz.cell (p := ⟨kb, 2, none⟩) HLK.out).trans k2
        have zk3 := (hz.cell (p := ⟨kb, 3, none⟩) HLK.out).trans k3
        have zg0 := (hz.cell (p := ⟨pb, 0, none⟩) HLP.out).trans g0
        have zg1 := (hz.cell (p := ⟨pb, 1, none⟩) HLP.out).trans g1
        have zg2 := (hz.cell (p := ⟨pb, 2, none⟩) HLP.out).trans g2
        have zg3 := (hz.cell (p := ⟨pb, 3, none⟩) HLP.out).trans g3
        have zq0 := (hz.cell (p := ⟨qb, 0, none⟩) HLQ.out).trans q0
        have zq1 := (hz.cell (p := ⟨qb, 1, none⟩) HLQ.out).trans q1
        have zq2 := (hz.cell (p := ⟨qb, 2, none⟩) HLQ.out).trans q2
        have zq3 := (hz.cell (p := ⟨qb, 3, none⟩) HLQ.out).trans q3
        go_simp
        all_goals first | with_reducible rfl | omega
      try simp only [Act.put, pu]
      refine tkY 12 ?_ rfl hS ?_ ?_
      rotate_left
      · intro wz hz
        have zk0 := (hz.cell (p := ⟨kb, 0, none⟩) HLK.out).trans k0
        have zk1 := (hz.cell (p := ⟨kb, 1, none⟩) HLK.out).trans k1
        have zk2 := (hz.cell (p := ⟨kb, 2, none⟩) HLK.out).trans k2
        have zk3 := (hz.cell (p := ⟨kb, 3, none⟩) HLK.out).trans k3
        have zg0 := (hz.cell (p := ⟨pb, 0, none⟩) HLP.out).trans g0
        have zg1 := (hz.cell (p := ⟨pb, 1, none⟩) HLP.out).trans g1
        have zg2 := (hz.cell (p := ⟨pb, 2, none⟩) HLP.out).trans g2
        have zg3 := (hz.cell (p := ⟨pb, 3, none⟩) HLP.out).trans g3
        have zq0 := (hz.cell (p := ⟨qb, 0, none⟩) HLQ.out).trans q0
        have zq1 := (hz.cell (p := ⟨qb, 1, none⟩) HLQ.out).trans q1
        have zq2 := (hz.cell (p := ⟨qb, 2, none⟩) HLQ.out).trans q2
        have zq3 := (hz.cell (p := ⟨qb, 3, none⟩) HLQ.out).trans q3
        go_simp
        all_goals first | with_reducible rfl | omega
      try simp only [Act.put, pu]
      refine tkY 13 ?_ rfl hS ?_ ?_
      rotate_left
      · intro wz hz
        have zk0 := (hz.cell (p := ⟨kb, 0, none⟩) HLK.out).trans k0
        have zk1 := (hz.cell (p := ⟨kb, 1, none⟩) HLK.out).trans k1
        have zk2 := (hz.cell (p := ⟨kb, 2, none⟩) HLK.out).trans k2
        have zk3 := (hz.cell (p := ⟨kb, 3, none⟩) HLK.out).trans k3
        have zg0 := (hz.cell (p := ⟨pb, 0, none⟩) HLP.out).trans g0
        have zg1 := (hz.cell (p := ⟨pb, 1, none⟩) HLP.out).trans g1
        have zg2 := (hz.cell (p := ⟨pb, 2, none⟩) HLP.out).trans g2
        have zg3 := (hz.cell (p := ⟨pb, 3, none⟩) HLP.out).trans g3
        have zq0 := (hz.cell (p := ⟨qb, 0, none⟩) HLQ.out).trans q0
        have zq1 := (hz.cell (p := ⟨qb, 1, none⟩) HLQ.out).trans q1
        have zq2 := (hz.cell (p := ⟨qb, 2, none⟩) HLQ.out).trans q2
        have zq3 := (hz.cell (p := ⟨qb, 3, none⟩) HLQ.out).trans q3
        go_simp
        all_goals first | with_reducible rfl | omega
      try simp only [Act.put, pu]
      refine tkY 14 ?_ rfl hS ?_ ?_
      rotate_left
      · intro wz hz
        have zk0 := (hz.cell (p := ⟨kb, 0, none⟩) HLK.out).trans k0
        have zk1 := (hz.cell (p := ⟨kb, 1, none⟩) HLK.out).trans k1
        have zk2 := (hz.cell (p := ⟨kb, 2, none⟩) HLK.out).trans k2
        have zk3 := (hz.cell (p := ⟨kb, 3, none⟩) HLK.out).trans k3
        have zg0 := (hz.cell (p := ⟨pb, 0, none⟩) HLP.out).trans g0
        have zg1 := (hz.cell (p := ⟨pb, 1, none⟩) HLP.out).trans g1
        have zg2 := (hz.cell (p := ⟨pb, 2, none⟩) HLP.out).trans g2
        have zg3 := (hz.cell (p := ⟨pb, 3, none⟩) HLP.out).trans g3
        have zq0 := (hz.cell (p := ⟨qb, 0, none⟩) HLQ.out).trans q0
        have zq1 := (hz.cell (p := ⟨qb, 1, none⟩) HLQ.out).trans q1
        have zq2 := (hz.cell (p := ⟨qb, 2, none⟩) HLQ.out).trans q2
        have zq3 := (hz.cell (p := ⟨qb, 3, none⟩) HLQ.out).trans q3
        go_simp
        all_goals first | with_reducible rfl | omega
      try simp only [Act.put, pu]
      refine tkY 15 ?_ rfl hS ?_ ?_
      rotate_left
      · intro wz hz
        have zk0 := (hz.cell (p := ⟨kb, 0, none⟩) HLK.out).trans k0
        have zk1 := (hz.cell (p := ⟨kb, 1, none⟩) HLK.out).trans k1
        have zk2 := (hz.cell (p := ⟨kb, 2, none⟩) HLK.out).trans k2
        have zk3 := (hz.cell (p := ⟨kb, 3, none⟩) HLK.out).trans k3
        have zg0 := (hz.cell (p := ⟨pb, 0, none⟩) HLP.out).trans g0
        have zg1 := (hz.cell (p := ⟨pb, 1, none⟩) HLP.out).trans g1
        have zg2 := (hz.cell (p := ⟨pb, 2, none⟩) HLP.out).trans g2
        have zg3 := (hz.cell (p := ⟨pb, 3, none⟩) HLP.out).trans g3
        have zq0 := (hz.cell (p := ⟨qb, 0, none⟩) HLQ.out).trans q0
        have zq1 := (hz.cell (p := ⟨qb, 1, none⟩) HLQ.out).trans q1
        have zq2 := (hz.cell (p := ⟨qb, 2, none⟩) HLQ.out).trans q2
        have zq3 := (hz.cell (p := ⟨qb, 3, none⟩) HLQ.out).trans q3
        go_simp
        all_goals first | with_reducible rfl | omega
      try simp only [Act.put, pu]
      refine tkY 16 ?_ rfl hS ?_ ?_
      rotate_left
      · intro wz hz
        have zk0 := (hz.cell (p := ⟨kb, 0, none⟩) HLK.out).trans k0
        have zk1 := (hz.cell (p := ⟨kb, 1, none⟩) HLK.out).trans k1
        have zk2 := (hz.cell (p := ⟨kb, 2, none⟩) HLK.out).trans k2
        have zk3 := (hz.cell (p := ⟨kb, 3, none⟩) HLK.out).trans k3
        have zg0 := (hz.cell (p := ⟨pb, 0, none⟩) HLP.out).trans g0
        have zg1 := (hz.cell (p := ⟨pb, 1, none⟩) HLP.out).trans g1
        have zg2 := (hz.cell (p := ⟨pb, 2, none⟩) HLP.out).trans g2
        have zg3 := (hz.cell (p := ⟨pb, 3, none⟩) HLP.out).trans g3
        have zq0 := (hz.cell (p := ⟨qb, 0, none⟩) HLQ.out).trans q0
        have zq1 := (hz.cell (p := ⟨qb, 1, none⟩) HLQ.out).trans q1
        have zq2 := (hz.cell (p := ⟨qb, 2, none⟩) HLQ.out).trans q2
        have zq3 := (hz.cell (p := ⟨qb, 3, none⟩) HLQ.out).trans q3
        go_simp
        all_goals first | with_reducible rfl | omega
      try simp only [Act.put, pu]
      refine tkY 17 ?_ rfl hS ?_ ?_
      rotate_left
      · intro wz hz
        have zk0 := (hz.cell (p := ⟨kb, 0, none⟩) HLK.out).trans k0
        have zk1 := (hz.cell (p := ⟨kb, 1, none⟩) HLK.out).trans k1
        have zk2 := (hz.cell (p := ⟨kb, 2, none⟩) HLK.out).trans k2
        have zk3 := (hz.cell (p := ⟨kb, 3, none⟩) HLK.out).trans k3
        have zg0 := (hz.cell (p := ⟨pb, 0, none⟩) HLP.out).trans g0
        have zg1 := (hz.cell (p := ⟨pb, 1, none⟩) HLP.out).trans g1
        have zg2 := (hz.cell (p := ⟨pb, 2, none⟩) HLP.out).trans g2
        have zg3 := (hz.cell (p := ⟨pb, 3, none⟩) HLP.out).trans g3
        have zq0 := (hz.cell (p := ⟨qb, 0, none⟩) HLQ.out).trans q0
        have zq1 := (hz.cell (p := ⟨qb, 1, none⟩) HLQ.out).trans q1
        have zq2 := (hz.cell (p := ⟨qb, 2, none⟩) HLQ.out).trans q2
        have zq3 := (hz.cell (p := ⟨qb, 3, none⟩) HLQ.out).trans q3
        go_simp
        all_goals first | with_reducible rfl | omega
      try simp only [Act.put, pu]
      refine tkY 18 ?_ rfl hS ?_ ?_
      rotate_left
      · intro wz hz
        have zk0 := (hz.cell (p := ⟨kb, 0, none⟩) HLK.out).trans k0
        have zk1 := (hz.cell (p := ⟨kb, 1, none⟩) HLK.out).trans k1
        have zk2 := (hz.cell (p := ⟨kb, 2, none⟩) HLK.out).trans k2
        have zk3 := (hz.cell (p := ⟨kb, 3, none⟩) HLK.out).trans k3
        have zg0 := (hz.cell (p := ⟨pb, 0, none⟩) HLP.out).trans g0
        have zg1 := (hz.cell (p := ⟨pb, 1, none⟩) HLP.out).trans g1
        have zg2 := (hz.cell (p := ⟨pb, 2, none⟩) HLP.out).trans g2
        have zg3 := (hz.cell (p := ⟨pb, 3, none⟩) HLP.out).trans g3
        have zq0 := (hz.cell (p := ⟨qb, 0, none⟩) HLQ.out).trans q0
        have zq1 := (hz.cell (p := ⟨qb, 1, none⟩) HLQ.out).trans q1
        have zq2 := (hz.cell (p := ⟨qb, 2, none⟩) HLQ.out).trans q2
        have zq3 := (hz.cell (p := ⟨qb, 3, none⟩) HLQ.out).trans q3
        go_simp
        all_goals first | with_reducible rfl | omega
      try simp only [Act.put, pu]
      refine tkY 19 ?_ rfl hS ?_ ?_
      rotate_left
      · intro wz hz
        have zk0 := (hz.cell (p := ⟨kb, 0, none⟩) HLK.out).trans k0
        have zk1 := (hz.cell (p := ⟨kb, 1, none⟩) HLK.out).trans k1
        have zk2 := (hz.cell (p := ⟨kb, 2, none⟩) HLK.out).trans k2
        have zk3 := (hz.cell (p := ⟨kb, 3, none⟩) HLK.out).trans k3
        have zg0 := (hz.cell (p := ⟨pb, 0, none⟩) HLP.out).trans g0
        have zg1 := (hz.cell (p := ⟨pb, 1, none⟩) HLP.out).trans g1
        have zg2 := (hz.cell (p := ⟨pb, 2, none⟩) HLP.out).trans g2
        have zg3 := (hz.cell (p := ⟨pb, 3, none⟩) HLP.out).trans g3
        have zq0 := (hz.cell (p := ⟨qb, 0, none⟩) HLQ.out).trans q0
        have zq1 := (hz.cell (p := ⟨qb, 1, none⟩) HLQ.out).trans q1
        have zq2 := (hz.cell (p := ⟨qb, 2, none⟩) HLQ.out).trans q2
        have zq3 := (hz.cell (p := ⟨qb, 3, none⟩) HLQ.out).trans q3
        go_simp
        all_goals first | with_reducible rfl | omega
      try simp only [Act.put, pu]
      refine tkY 21 ?_ rfl hS ?_ ?_
      rotate_left
      · intro wz hz
        have zk0 := (hz.cell (p := ⟨kb, 0, none⟩) HLK.out).trans k0
        have zk1 := (hz.cell (p := ⟨kb, 1, none⟩) HLK.out).trans k1
        have zk2 := (hz.cell (p := ⟨kb, 2, none⟩) HLK.out).trans k2
        have zk3 := (hz.cell (p := ⟨kb, 3, none⟩) HLK.out).trans k3
        have zg0 := (hz.cell (p := ⟨pb, 0, none⟩) HLP.out).trans g0
        have zg1 := (hz.cell (p := ⟨pb, 1, none⟩) HLP.out).trans g1
        have zg2 := (hz.cell (p := ⟨pb, 2, none⟩) HLP.out).trans g2
        have zg3 := (hz.cell (p := ⟨pb, 3, none⟩) HLP.out).trans g3
        have zq0 := (hz.cell (p := ⟨qb, 0, none⟩) HLQ.out).trans q0
        have zq1 := (hz.cell (p := ⟨qb, 1, none⟩) HLQ.out).trans q1
        have zq2 := (hz.cell (p := ⟨qb, 2, none⟩) HLQ.out).trans q2
        have zq3 := (hz.cell (p := ⟨qb, 3, none⟩) HLQ.out).trans q3
        go_simp
        all_goals first | with_reducible rfl | omega
      try simp only [Act.put, pu]
      refine tkY 23 ?_ rfl hS ?_ ?_
      rotate_left
      · intro wz hz
        have zk0 := (hz.cell (p := ⟨kb, 0, none⟩) HLK.out).trans k0
        have zk1 := (hz.cell (p := ⟨kb, 1, none⟩) HLK.out).trans k1
        have zk2 := (hz.cell (p := ⟨kb, 2, none⟩) HLK.out).trans k2
        have zk3 := (hz.cell (p := ⟨kb, 3, none⟩) HLK.out).trans k3
        have zg0 := (hz.cell (p := ⟨pb, 0, none⟩) HLP.out).trans g0
        have zg1 := (hz.cell (p := ⟨pb, 1, none⟩) HLP.out).trans g1
        have zg2 := (hz.cell (p := ⟨pb, 2, none⟩) HLP.out).trans g2
        have zg3 := (hz.cell (p := ⟨pb, 3, none⟩) HLP.out).trans g3
        have zq0 := (hz.cell (p := ⟨qb, 0, none⟩) HLQ.out).trans q0
        have zq1 := (hz.cell (p := ⟨qb, 1, none⟩) HLQ.out).trans q1
        have zq2 := (hz.cell (p := ⟨qb, 2, none⟩) HLQ.out).trans q2
        have zq3 := (hz.cell (p := ⟨qb, 3, none⟩) HLQ.out).trans q3
        go_simp
        all_goals first | with_reducible rfl | omega
      try simp only [Act.put, pu]
      refine wpAnyH_ready (rs := [20]) (by kernel_rfl) (by simp) (AllReadyH.cons rfl (fun K' hK' => ?_) AllReadyH.nil)
      go_simp
      refine (HSZ.out _).mono ?_
      rintro e u5 ⟨rfl, b4⟩
      have HU := Lib.hid (HU.out.trans (b4.mono HU.out.size))
      clear b4
      refine hK'.out _ _ ?_ (fun hSn => ?_)
      · exact HU.out
      clear hK' K' hS
      have hS := hSn
      clear hSn
      try simp only [Act.put, pu]
      refine wpAnyH_ready (rs := [22]) (by kernel_rfl) (by simp) (AllReadyH.cons rfl (fun K' hK' => ?_) AllReadyH.nil)
      go_simp
      refine (HPL.out (a1, a2, a3, a4) _).mono ?_
      rintro e u6 ⟨rfl, b4⟩
      have HU := Lib.hid (HU.out.trans (b4.mono HU.out.size))
      clear b4
      refine hK'.out _ _ ?_ (fun hSn => ?_)
      · exact HU.out
      clear hK' K' hS
      have hS := hSn
      clear hSn
      try simp only [Act.put, pu]
      refine wpAnyH_ready (rs := [24]) (by kernel_rfl) (by simp) (AllReadyH.cons rfl (fun K' hK' => ?_) AllReadyH.nil)
      go_simp
      refine (HRS.out _).mono ?_
      rintro e u7 ⟨rfl, b4⟩
      have HU := Lib.hid (HU.out.trans (b4.mono HU.out.size))
      clear b4
      refine hK'.out _ _ ?_ (fun hSn => ?_)
      · exact HU.out
      clear hK' K' hS
      have hS := hSn
      clear hSn
      try simp only [Act.put, pu]
      refine tkY 25 ?_ rfl hS ?_ ?_
      rotate_left
      · intro wz hz
        have zk0 := (hz.cell (p := ⟨kb, 0, none⟩) HLK.out).trans k0
        have zk1 := (hz.cell (p := ⟨kb, 1, none⟩) HLK.out).trans k1
        have zk2 := (hz.cell (p := ⟨kb, 2, none⟩) HLK.out).trans k2
        have zk3 := (hz.cell (p := ⟨kb, 3, none⟩) HLK.out).trans k3
        have zg0 := (hz.cell (p := ⟨pb, 0, none⟩) HLP.out).trans g0
        have zg1 := (hz.cell (p := ⟨pb, 1, none⟩) HLP.out).trans g1
        have zg2 := (hz.cell (p := ⟨pb, 2, none⟩) HLP.out).trans g2
        have zg3 := (hz.cell (p := ⟨pb, 3, none⟩) HLP.out).trans g3
        have zq0 := (hz.cell (p := ⟨qb, 0, none⟩) HLQ.out).trans q0
        have zq1 := (hz.cell (p := ⟨qb, 1, none⟩) HLQ.out).trans q1
        have zq2 := (hz.cell (p := ⟨qb, 2, none⟩) HLQ.out).trans q2
        have zq3 := (hz.cell (p := ⟨qb, 3, none⟩) HLQ.out).trans q3
        go_simp
        all_goals first | with_reducible rfl | omega
      try simp only [Act.put, pu]
      refine tkY 26 ?_ rfl hS ?_ ?_
      rotate_left
      · intro wz hz
        have zk0 := (hz.cell (p := ⟨kb, 0, none⟩) HLK.out).trans k0
        have zk1 := (hz.cell (p := ⟨kb, 1, none⟩) HLK.out).trans k1
        have zk2 := (hz.cell (p := ⟨kb, 2, none⟩) HLK.out).trans k2
        have zk3 := (hz.cell (p := ⟨kb, 3, none⟩) HLK.out).trans k3
        have zg0 := (hz.cell (p := ⟨pb, 0, none⟩) HLP.out).trans g0
        have zg1 := (hz.cell (p := ⟨pb, 1, none⟩) HLP.out).trans g1
        have zg2 := (hz.cell (p := ⟨pb, 2, none⟩) HLP.out).trans g2
        have zg3 := (hz.cell (p := ⟨pb, 3, none⟩) HLP.out).trans g3
        have zq0 := (hz.cell (p := ⟨qb, 0, none⟩) HLQ.out).trans q0
        have zq1 := (hz.cell (p := ⟨qb, 1, none⟩) HLQ.out).trans q1
        have zq2 := (hz.cell (p := ⟨qb, 2, none⟩) HLQ.out).trans q2
        have zq3 := (hz.cell (p := ⟨qb, 3, none⟩) HLQ.out).trans q3
        go_simp
        all_goals first | with_reducible rfl | omega
      try simp only [Act.put, pu]
      refine wpAnyH_done (by kernel_rfl) ?_ _
      clear hS
      have HB := Lib.hid (HB.out.trans (HU.out.mono HB.out.size))
      have HK := Lib.hid (HK.out.below HU.out)
      have HP := Lib.hid (HP.out.below HU.out)
      clear HQ HLK HLP HLQ
      clear k0 k1 k2 k3 g0 g1 g2 g3 q0 q1 q2 q3
      have k0 : u7.cell? ⟨kb, 0, none⟩ = some (.string a1) := HK.out.cell 0
      have k1 : u7.cell? ⟨kb, 1, none⟩ = some (.string a2) := HK.out.cell 1
      have k2 : u7.cell? ⟨kb, 2, none⟩ = some (.int .i64 a3) := HK.out.cell 2
      have k3 : u7.cell? ⟨kb, 3, none⟩ = some (.string a4) := HK.out.cell 3
      have g0 : u7.cell? ⟨pb, 0, none⟩ = some (.string p1) := HP.out.cell 0
      have g1 : u7.cell? ⟨pb, 1, none⟩ = some (.string p2) := HP.out.cell 1
      have g2 : u7.cell? ⟨pb, 2, none⟩ = some (.int .i64 p3) := HP.out.cell 2
      have g3 : u7.cell? ⟨pb, 3, none⟩ = some (.string p4) := HP.out.cell 3
      go_wp2_with fail
      refine (HT.out _).mono ?_
      rintro e y1 ⟨rfl, hbx⟩
      have HB := Lib.hid (HB.out.trans (hbx.mono HB.out.size))
      have HK := Lib.hid (HK.out.below hbx)
      have HP := Lib.hid (HP.out.below hbx)
      clear hbx
      clear k0 k1 k2 k3 g0 g1 g2 g3
      have k0 : y1.cell? ⟨kb, 0, none⟩ = some (.string a1) := HK.out.cell 0
      have k1 : y1.cell? ⟨kb, 1, none⟩ = some (.string a2) := HK.out.cell 1
      have k2 : y1.cell? ⟨kb, 2, none⟩ = some (.int .i64 a3) := HK.out.cell 2
      have k3 : y1.cell? ⟨kb, 3, none⟩ = some (.string a4) := HK.out.cell 3
      have g0 : y1.cell? ⟨pb, 0, none⟩ = some (.string p1) := HP.out.cell 0
      have g1 : y1.cell? ⟨pb, 1, none⟩ = some (.string p2) := HP.out.cell 1
      have g2 : y1.cell? ⟨pb, 2, none⟩ = some (.int .i64 p3) := HP.out.cell 2
      have g3 : y1.cell? ⟨pb, 3, none⟩ = some (.string p4) := HP.out.cell 3
      go_wp2_with fail
      refine (HPT.out _).mono ?_
      rintro e y2 ⟨rfl, hbx⟩
      have HB := Lib.hid (HB.out.trans (hbx.mono HB.out.size))
      have HK := Lib.hid (HK.out.below hbx)
      have HP := Lib.hid (HP.out.below hbx)
      clear hbx
      clear k0 k1 k2 k3 g0 g1 g2 g3
      obtain ⟨W8, hW8⟩ : ∃ W, y2.alloc (.cells #[.string c1, .string c2, .int .i64 c3, .string c4] 23) = W := ⟨_, rfl⟩
      obtain ⟨cb, hcb⟩ : ∃ b, y2.heap.size = b := ⟨_, rfl⟩
      have hbz : Below y2.heap.size y2 W8 := by rw [← hW8]; exact (Below.refl _ _).alloc (Nat.le_refl _) _
      have HB := Lib.hid (HB.out.trans (hbz.mono HB.out.size))
      have HK := Lib.hid (HK.out.below hbz)
      have HP := Lib.hid (HP.out.below hbz)
      clear hbz
      have k0 : W8.cell? ⟨kb, 0, none⟩ = some (.string a1) := HK.out.cell 0
      have k1 : W8.cell? ⟨kb, 1, none⟩ = some (.string a2) := HK.out.cell 1
      have k2 : W8.cell? ⟨kb, 2, none⟩ = some (.int .i64 a3) := HK.out.cell 2
      have k3 : W8.cell? ⟨kb, 3, none⟩ = some (.string a4) := HK.out.cell 3
      have g0 : W8.cell? ⟨pb, 0, none⟩ = some (.string p1) := HP.out.cell 0
      have g1 : W8.cell? ⟨pb, 1, none⟩ = some (.string p2) := HP.out.cell 1
      have g2 : W8.cell? ⟨pb, 2, none⟩ = some (.int .i64 p3) := HP.out.cell 2
      have g3 : W8.cell? ⟨pb, 3, none⟩ = some (.string p4) := HP.out.cell 3
      go_wp2_with fail
      try rw [hW8]
      try rw [hcb]
      clear hcb hW8
      refine (HT.out _).mono ?_
      rintro e y3 ⟨rfl, hbx⟩
      have HB := Lib.hid (HB.out.trans (hbx.mono HB.out.size))
      have HK := Lib.hid (HK.out.below hbx)
      have HP := Lib.hid (HP.out.below hbx)
      clear hbx
      clear k0 k1 k2 k3 g0 g1 g2 g3
      have k0 : y3.cell? ⟨kb, 0, none⟩ = some (.string a1) := HK.out.cell 0
      have k1 : y3.cell? ⟨kb, 1, none⟩ = some (.string a2) := HK.out.cell 1
      have k2 : y3.cell? ⟨kb, 2, none⟩ = some (.int .i64 a3) := HK.out.cell 2
      have k3 : y3.cell? ⟨kb, 3, none⟩ = some (.string a4) := HK.out.cell 3
      have g0 : y3.cell? ⟨pb, 0, none⟩ = some (.string p1) := HP.out.cell 0
      have g1 : y3.cell? ⟨pb, 1, none⟩ = some (.string p2) := HP.out.cell 1
      have g2 : y3.cell? ⟨pb, 2, none⟩ = some (.int .i64 p3) := HP.out.cell 2
      have g3 : y3.cell? ⟨pb, 3, none⟩ = some (.string p4) := HP.out.cell 3
      go_wp2_with fail
      refine (CA.known_any _).mono ?_
      rintro e wk ⟨rfl, hk⟩
      have HB := Lib.hid (HB.out.trans (hk.mono HB.out.size))
      clear hk
      go_wp2
      go_ret
      exact ⟨rfl, HB.out⟩
theorem keys_law (v0 : Value) (s val : ByteArray) (w : World) (f0 : FitsK w v0) (s1 : s.size ≤ 140737488351232) (s2 : val.size ≤ 140737488351232) :
    Calls Try.prog 3 #[v0, .string s, .string val] w fun e w' => e = .returned (.bool true) ∧ Below w.heap.size w w' := by
  obtain ⟨a, rfl, ba⟩ := f0
  by_cases h : shK a = true ∧ s.size ≤ 500 ∧ val.size ≤ 500
  · exact keys_main a ba s val w h.2.1 h.2.2 h.1
  · exact keys_early a ba s val w s1 s2 h
end Go.Proofs.Ytjngangojgjceaa.CA
namespace Go.Proofs.Ytjngangojgjceaa.CA
open Go.ChangeShapes Go.WideShapes Go.ChangeAt Go.RowKit Go.Maps Go.ChangeMaps
open Go.Proofs.Ytjngangojgjceaa.SL Go.Proofs.Ytjngangojgjceaa.EX Go.Proofs.Ytjngangojgjceaa.RW
set_option maxRecDepth 100000
set_option linter.unusedVariables false
set_option linter.unusedSimpArgs false

theorem opc7 (o : Opc) : (opcC o).length = 7 := rfl
def oRs (l : List Opc) : List Value := fz (l.map opcC)
theorem oUni (l : List Opc) : Uni 7 (l.map opcC) := fun r hr => by
  obtain ⟨k, _, rfl⟩ := List.mem_map.1 hr; rfl
theorem oRs_app (a b : List Opc) : oRs (a ++ b) = oRs a ++ oRs b := by unfold oRs; rw [List.map_append, fz_append]
theorem oRs_at {l : List Opc} {i : Nat} {o : Opc} (h : l[i]? = some o) (j : Nat) (hj : j < 7) : (oRs l)[i * 7 + j]? = (opcC o)[j]? := by
  unfold oRs
  exact fz_at (oUni l) (by rw [List.getElem?_map, h]; rfl) j hj
/-- the call owns the operations -/
def HO (B : Nat) (w : World) (v : Value) (l : List Opc) : Prop := w.ownsRow B 43 7 v l.length (oRs l)
section
variable {B : Nat} {w w' : World} {v : Value} {l : List Opc}
theorem HO.nil (B : Nat) (w : World) : HO B w (.slice none 0 0) [] := World.ownsRow_nil _ _ _ _
theorem HO.form (h : HO B w v l) : ∃ a cap, v = .slice a l.length cap := by
  rcases h.2 with ⟨rfl, hz⟩ | ⟨g, cap, cur, rfl, hb, hh, hc, hm, hs, ht⟩
  · rw [hz]; exact ⟨_, _, rfl⟩
  · exact ⟨_, _, rfl⟩
theorem HO.keepB (h : HO B w v l) (hk : ∀ b, v.ownBlock = some b → w'.heap[b]? = w.heap[b]?) : HO B w' v l := by
  refine ⟨h.1, ?_⟩
  rcases h.2 with h2 | ⟨q, cap, cur, rfl, hbb, hg, hr⟩
  · exact .inl h2
  · exact .inr ⟨q, cap, cur, rfl, hbb, (hk q rfl).trans hg, hr⟩
theorem HO.below (h : HO B w v l) (hb : Below w.heap.size w w') : HO B w' v l := h.keepB fun b hb2 => hb.block b (World.ownsRow.lt h b hb2).2
theorem HO.inv (h : HO B w v l) (hp : 0 < l.length) : ∃ g cap, v = .slice (some ⟨g, 0, none⟩) l.length cap ∧ l.length ≤ cap ∧ ∀ (i : Nat) (o : Opc), l[i]? = some o → ∀ j u, j < 7 → (opcC o)[j]? = some u → w.cell? ⟨g, i * 7 + j, none⟩ = some u := by
  rcases h.2 with ⟨rfl, hz⟩ | ⟨g, cap, cur, rfl, hb, hh, hc, hm, hs, ht⟩
  · omega
  · refine ⟨g, cap, rfl, hc, fun i k hi j u hj hu => ?_⟩
    have := World.ownsRow.cells h (g := g) rfl (i * 7 + j) u (by rw [oRs_at hi j hj]; exact hu)
    rw [Addr.add_lit, Nat.zero_add] at this
    exact this
theorem iOp : ∃ i z, Try.prog.info? 43 = some i ∧ i.zero = some z ∧ i.size = 7 ∧ i.bytes = 88 ∧ z.cells.size = 7 := by
  have h : (Try.prog.info? 43).bind (fun i => if i.size = 7 ∧ i.bytes = 88 then i.zero else none) = some (.agg #[.int .i64 0, .string ByteArray.empty, .string ByteArray.empty, .int .i64 0, .string ByteArray.empty, .string ByteArray.empty, .int .i64 0]) := by kernel_rfl
  cases hi : Try.prog.info? 43 with
  | none => rw [hi] at h; cases h
  | some j =>
    rw [hi] at h
    by_cases hc : j.size = 7 ∧ j.bytes = 88
    · simp only [Option.bind_some, if_pos hc] at h
      exact ⟨j, _, rfl, h, hc.1, hc.2, rfl⟩
    · simp [hc] at h
/-- an operation put behind a list of operations that the call owns -/
theorem wpList_app_op {ops : Array Oper} {rest : List Oper} {o : Oper} {a : Act} {Q : Exit → Act → World → Prop}
    (B : Nat) (v : Value) (d : List Opc) (k : Opc) (nb : Nat) (hgd : o.guard = none) (s x : Operand)
    (ho : o.op = .call { callee := .builtin .append, args := #[s, x], argTypes := #[37, 37] }) (hs : a.eval s = v) (hown : HO B w v d) (hx : a.eval x = .slice (some ⟨nb, 0, none⟩) 1 1) (h2 : Bk w nb 43 (opcC k).toArray)
    (hd : d.length ≤ 1099511627776) (hB : B ≤ w.heap.size)
    (hk : ∀ g c w', HO B w' (.slice (some ⟨g, 0, none⟩) (d ++ [k]).length c) (d ++ [k]) → w.grownBy w' v.ownBlock → (v.ownBlock = some g ∨ g = w.heap.size) → wpList Try.prog ops Q rest (a.put o.dst (.slice (some ⟨g, 0, none⟩) (d ++ [k]).length c)) w') : wpList Try.prog ops Q (o :: rest) a w := by
  obtain ⟨i, z, hi, hz, hsz, hby, hzs⟩ := iOp
  refine wpList_append_lies _ hgd s x 37 ho B 43 i z 7 88 Try.underlying37 hi hz hsz hby hzs (by decide) v d.length (oRs d) hs hown ⟨nb, 0, none⟩ 1 1 (opcC k) hx rfl ?_ ?_ (by omega) (by unfold maxLen; omega) (by omega) hB _ rfl ?_
  · intro j u hj
    have := h2.cell j
    rw [Addr.add_lit, Nat.zero_add, this]
    rw [List.getElem?_toArray]; exact hj
  · intro u hu
    simp only [opcC, kC, List.mem_cons, List.not_mem_nil, or_false, List.mem_append] at hu
    rcases hu with rfl | (hu | hu)
    · rfl
    · rcases hu with rfl | rfl | rfl | rfl <;> rfl
    · rcases hu with rfl | rfl <;> rfl
  · intro g' cap' w' o1 o2 o3 o4
    have e1 : d.length + 1 = (d ++ [k]).length := by rw [List.length_append]; rfl
    rw [e1] at o1 ⊢
    refine hk _ _ _ ?_ o2 o3
    unfold HO
    rw [oRs_app]
    have : oRs [k] = opcC k := by unfold oRs; rw [List.map_cons, List.map_nil]; show [opcC k].flatten = _; simp
    rw [this]; exact o1
end
section
variable {w0 w w' : World} {C : Cb} {N : Nat} {σ : Sg} {v v' : Value} {l l' : List Opc}
/-- what was put -/
def Kh (B : Nat) (v : Value) (l : List Opc) : Kp := .keep (fun w => HO B w v l) (fun b => v.ownBlock = some b)
theorem LC.addH (h : LC w0 w C N σ []) (hb : Below w.heap.size w w') {B : Nat} (hB : w.heap.size ≤ B) (hv : HO B w' v l) (hB0 : w0.heap.size ≤ B) : LC w0 w' C N σ [Kh B v l] :=
  h.addO hb hv (fun b hb2 => ⟨Nat.le_trans hB (World.ownsRow.lt hv b hb2).1, (World.ownsRow.lt hv b hb2).2⟩) fun w1 w2 h1 hk => h1.keepB hk
theorem LC.hist {B : Nat} (h : LC w0 w C N σ [Kh B v l]) : HO B w v l := h.kp (List.mem_cons_self ..)
theorem LC.histNil (h : LC w0 w C N σ []) : LC w0 w C N σ [Kh w0.heap.size (.slice none 0 0) []] := by
  obtain ⟨c, h1, h2, h3⟩ := h
  refine ⟨c, h1, h2, fun p hp => ?_⟩
  cases List.mem_singleton.1 hp
  refine ⟨HO.nil _ _, fun b hb => ?_, fun w1 w2 h1 hk => HO.keepB h1 hk⟩
  have hb : (Value.slice none 0 0).ownBlock = some b := hb
  cases hb
/-- the list grew -/
theorem LC.growH {B : Nat} (h : LC w0 w C N σ [Kh B v l]) (hg : w.grownBy w' v.ownBlock) (hv : HO B w' v' l') (hn : ∀ b, v'.ownBlock = some b → v.ownBlock = some b ∨ w.heap.size ≤ b) (hbel : Below w0.heap.size w0 w') : LC w0 w' C N σ [Kh B v' l'] := by
  obtain ⟨c, h1, h2, h3⟩ := h
  have h4 := h3 _ (List.mem_cons_self ..)
  refine ⟨c, h1.keep fun b hb => hg.block b (h1.lt hb) fun e => (h4.2.1 b e.symm).2 hb, hbel, fun p hp => ?_⟩
  cases List.mem_singleton.1 hp
  refine ⟨hv, fun b hb => ⟨(World.ownsRow.lt hv b hb).2, fun ho => ?_⟩, fun w1 w2 h1 hk => HO.keepB h1 hk⟩
  rcases hn b hb with e | e
  · exact (h4.2.1 b e).2 ho
  · have := h1.lt ho; omega
end
/-- what was put last under a key -/
def lastO (k : Ky) (l : List Opc) : Option Opc := l.foldl (fun a o => if eqK o.2.1 k = true then some o else a) none
theorem lastO_put (k : Ky) (l : List Opc) (o : Opc) : lastO k (l ++ [o]) = if eqK o.2.1 k = true then some o else lastO k l := by unfold lastO; rw [List.foldl_append]; rfl
/-- whatever is there was put last, and its time is by that -/
def Hist (ttl : Int) (l : List Opc) (s : Sg) : Prop := ∀ k, rightK k = true → ∀ v, s.V (textK k) = some v → ∃ o, lastO k l = some o ∧ o.2.2.1 = v ∧ (textK k, o.2.2.2 + ttl) ∈ s.I
theorem Hist.drops {ttl : Int} {l : List Opc} {s : Sg} (h : Hist ttl l s) (G : List ByteArray) : Hist ttl l (dropsS G s) := by
  intro k hr v hv
  rw [dropsS_V] at hv
  by_cases hx : textK k ∈ G
  · simp [hx] at hv
  · simp only [if_neg hx] at hv
    obtain ⟨o, h1, h2, h3⟩ := h k hr v hv
    refine ⟨o, h1, h2, ?_⟩
    rw [dropsS_I]
    exact List.mem_filter.2 ⟨h3, decide_eq_true hx⟩
theorem mem_set {t x : ByteArray} {a u : Int} {I : List It} (h : (x, u) ∈ I) (hx : x ≠ t) : (x, u) ∈ setI t a I := by
  unfold setI
  have hd : (x, u) ∈ dropI t I := List.mem_filter.2 ⟨h, decide_eq_true hx⟩
  by_cases hu : a < u
  · exact List.mem_append_right _ (List.mem_cons_of_mem _ (List.mem_filter.2 ⟨hd, decide_eq_true hu⟩))
  · exact List.mem_append_left _ (List.mem_filter.2 ⟨hd, by simpa using hu⟩)
theorem Hist.put {ttl : Int} {l : List Opc} {s : Sg} (h : Hist ttl l s) (o : Opc) (al : Int) (z : Int) (hr : rightK o.2.1 = true) :
    Hist ttl (l ++ [o]) (putS al (textK o.2.1) o.2.2.1 z (o.2.2.2 + ttl) s).1 := by
  unfold putS
  obtain ⟨R, hR⟩ : ∃ R, putE al (textK o.2.1) z s.T s.K = R := ⟨_, rfl⟩
  rw [hR]
  refine Hist.drops (s := ⟨R.1, R.2.1, setI (textK o.2.1) (o.2.2.2 + ttl) s.I, setV (textK o.2.1) o.2.2.1 s.V⟩) ?_ _
  intro k hk v hv
  rw [lastO_put]
  simp only at hv
  unfold setV at hv
  have hv' : (if textK k = textK o.2.1 then some o.2.2.1 else s.V (textK k)) = some v := hv
  by_cases he : textK k = textK o.2.1
  · have hko : k = o.2.1 := text_inj hk hr he
    rw [if_pos he] at hv'
    rw [if_pos (eqK_iff.2 hko.symm)]
    refine ⟨o, rfl, (Option.some.inj hv'), ?_⟩
    show (textK k, _) ∈ setI _ _ _
    rw [he]
    unfold setI
    exact List.mem_append_right _ (List.mem_cons_self ..)
  · rw [if_neg he] at hv'
    obtain ⟨p, h1, h2, h3⟩ := h k hk v hv'
    rw [if_neg fun e => he (by rw [eqK_iff.1 e])]
    exact ⟨p, h1, h2, mem_set h3 he⟩
theorem Hist.get {ttl ke : Int} {l : List Opc} {s : Sg} (h : Hist ttl l s) (k : Ky) (now : Int) : Hist ttl l (getR ke k now s).2 := by
  unfold getR
  cases hf : fV s.V k with
  | none => exact h
  | some e =>
    simp only
    split
    · exact h.drops [textK k]
    · exact h
theorem at_mem {x : ByteArray} {u : Int} : ∀ {I : List It}, (keysI I).Nodup → (x, u) ∈ I → atI x I = some u
  | [], _, h => by cases h
  | y :: I, hn, h => by
    unfold keysI at hn
    rw [List.map_cons, List.nodup_cons] at hn
    unfold atI
    by_cases hy : y.1 = x
    · rw [List.find?_cons_of_pos (by simpa using hy)]
      rcases List.mem_cons.1 h with e | h
      · rw [← e]; rfl
      · exact absurd (List.mem_map.2 ⟨_, h, rfl⟩) (by rw [hy] at hn; exact hn.1)
    · rw [List.find?_cons_of_neg (by simpa using hy)]
      rcases List.mem_cons.1 h with e | h
      · rw [← e] at hy; exact absurd rfl hy
      · exact at_mem (I := I) hn.2 h
/-- what is got was put last, and not too long ago -/
theorem Hist.got {ttl ke : Int} {l : List Opc} {s : Sg} (h : Hist ttl l s) (hn : (keysI s.I).Nodup) {k : Ky} {now : Int} {v : ByteArray} {s' : Sg} (hg : getR ke k now s = (some v, s')) : ∃ o, lastO k l = some o ∧ o.2.2.1 = v ∧ now < o.2.2.2 + ttl := by
  unfold getR at hg
  cases hf : fV s.V k with
  | none => rw [hf] at hg; cases hg
  | some e =>
    rw [hf] at hg
    simp only at hg
    obtain ⟨hr, _, hV⟩ := fV_some hf
    obtain ⟨o, h1, h2, h3⟩ := h k hr e.2 hV
    have ha := at_mem hn h3
    rw [ha] at hg
    simp only [Option.getD_some] at hg
    by_cases hc : o.2.2.2 + ttl ≤ now
    · rw [if_pos hc] at hg; cases hg
    · rw [if_neg hc] at hg
      injection hg with hg _
      injection hg with hg
      exact ⟨o, h1, h2.trans hg, by omega⟩
theorem Hist.nil (ttl : Int) (s : Sg) (hV : s.V = fun _ => none) : Hist ttl [] s := fun k _ v hv => by rw [hV] at hv; cases hv
/-- the law's truth, after so many puts -/
def okAt (k : Ky) (now ttl : Int) (r : Option ByteArray) (l : List Opc) : Bool :=
  match r with
  | none => true
  | some v => match lastO k l with
    | none => false
    | some p => (p.2.2.1.toList == v.toList) && decide (now < p.2.2.2 + ttl)
theorem okAt_nil (k : Ky) (now ttl : Int) (r : Option ByteArray) : okAt k now ttl r [] = !r.isSome := by cases r <;> rfl
end Go.Proofs.Ytjngangojgjceaa.CA
