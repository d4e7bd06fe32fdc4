/- Package sess, the document's: first, Step. Conditions: few keys. -/
import Derived.Test.YtpnjjllkbnmakaaDoorSyk
namespace Go.Proofs.YtpnjjllkbnmakaaDoor.SE
open Go.ChangeShapes Go.WideShapes Go.ChangeAt Go.RowKit
open Go.Proofs.YtpnjjllkbnmakaaDoor.SL
set_option maxRecDepth 100000
set_option linter.unusedVariables false
set_option linter.unusedSimpArgs false

theorem step_of (S : St) (a : Ak) (r : R4) (h : ruleP S.p (saidN a) = r) (hr : r.2.1 ≠ 1) : stepS S a = ⟨r.2.2.1.toNat, S.u, S.d⟩ ∧ stepD S a = r.2.1 ∧ stepE S a = r.2.2.2 := by
  unfold stepS stepD stepE
  rw [h, if_neg hr]
  exact ⟨rfl, rfl, rfl⟩
theorem fir_range (a : Ak) : firN a = 0 ∨ firN a = 1 ∨ firN a = 2 := by
  unfold firN
  split
  · exact .inr (.inr rfl)
  · split
    · exact .inl rfl
    · exact .inr (.inl rfl)
theorem knd_range (k : Int) : kndN k = 0 ∨ kndN k = 3 ∨ kndN k = 4 ∨ kndN k = 5 ∨ kndN k = 6 ∨ kndN k = 7 := by
  unfold kndN
  repeat' split
  all_goals simp
/-- what is said, by kinds -/
theorem said_3 {a : Ak} (h : a.k = 112) : saidN a = 3 := by unfold saidN kndN; rw [h]; rfl
theorem said_4 {a : Ak} (h : a.k = 81) : saidN a = 4 := by unfold saidN kndN; rw [h]; rfl
theorem said_5 {a : Ak} (h : a.k = 80 ∨ a.k = 66 ∨ a.k = 68 ∨ a.k = 69 ∨ a.k = 67 ∨ a.k = 72) : saidN a = 5 := by
  unfold saidN kndN
  rcases h with h | h | h | h | h | h <;> (rw [h]; rfl)
theorem said_6 {a : Ak} (h : a.k = 83) : saidN a = 6 := by unfold saidN kndN; rw [h]; rfl
theorem said_7 {a : Ak} (h : a.k = 88) : saidN a = 7 := by unfold saidN kndN; rw [h]; rfl
theorem said_no {a : Ak} (n : Int) (hn : 3 ≤ n) (h : saidN a = n) : (n = 3 ∧ a.k = 112) ∨ (n = 4 ∧ a.k = 81) ∨ (n = 5 ∧ (a.k = 80 ∨ a.k = 66 ∨ a.k = 68 ∨ a.k = 69 ∨ a.k = 67 ∨ a.k = 72)) ∨ (n = 6 ∧ a.k = 83) ∨ (n = 7 ∧ a.k = 88) := by
  unfold saidN at h
  split at h
  · rcases fir_range a with e | e | e <;> omega
  · unfold kndN at h
    repeat' split at h
    all_goals first | omega | (subst h; simp_all)
set_option maxHeartbeats 16000000 in
theorem rfirst_any {w : World} {z9 : Nat} {S : St} (h : Dx w z9 S) (hp : S.p = 0) (v : Value) (a : Ak) (hA : AkR z9 w v a) (hl : Lt a) :
    Calls Tryd.prog 29 #[ptr z9, v] w fun e w' => e = .returned (.tuple #[nV (stepD S a), nV (stepE S a)]) ∧ DtP z9 w w' (stepS S a) := by
  obtain ⟨n, po, sq, kv, vv, av, nv, fv, m, wh, pid, sec, rfl, hk, hv, hz, ⟨A3, n3, c3, rfl⟩, ⟨A4, n4, c4, rfl⟩, ⟨A5, n5, c5, rfl⟩⟩ := hA
  obtain ⟨A1, c1, rfl⟩ := hk.ts.form
  obtain ⟨A2, c2, rfl⟩ := hv.ts.form
  obtain ⟨ak, hak⟩ : ∃ x, a.k = x := ⟨_, rfl⟩
  obtain ⟨ac, hac⟩ : ∃ x, a.c = x := ⟨_, rfl⟩
  obtain ⟨n1, hn1⟩ : ∃ x, a.ks.length = x := ⟨_, rfl⟩
  obtain ⟨n2, hn2⟩ : ∃ x, a.vs.length = x := ⟨_, rfl⟩
  rw [hak, hac, hn1, hn2]
  rw [hn1] at hk
  rw [hn2] at hv
  obtain ⟨W1, hW1⟩ : ∃ W, w.alloc (.cells #[.int .u8 ak, .string n, .string po, .string sq, .slice A1 n1 c1, .slice A2 n2 c2, .slice A3 n3 c3, .slice A4 n4 c4, .slice A5 n5 c5, nV m, .int .u8 wh, .bool ac, nV pid, nV sec] 32) = W := ⟨_, rfl⟩
  obtain ⟨q, hq⟩ : ∃ b, w.heap.size = b := ⟨_, rfl⟩
  have hb1 : Below w.heap.size w W1 := by rw [← hW1]; exact (Below.refl _ _).alloc (Nat.le_refl _) _
  have k1 : Bk W1 q 32 #[.int .u8 ak, .string n, .string po, .string sq, .slice A1 n1 c1, .slice A2 n2 c2, .slice A3 n3 c3, .slice A4 n4 c4, .slice A5 n5 c5, nV m, .int .u8 wh, .bool ac, nV pid, nV sec] := by rw [← hW1, ← hq]; exact Bk.new _ _ _
  have x0 := k1.cell 0
  have x1 := k1.cell 1
  have x2 := k1.cell 2
  have x3 := k1.cell 3
  have x4 := k1.cell 4
  have x5 := k1.cell 5
  have x6 := k1.cell 6
  have x7 := k1.cell 7
  have x8 := k1.cell 8
  have x9 := k1.cell 9
  have x10 := k1.cell 10
  have x11 := k1.cell 11
  have x12 := k1.cell 12
  have x13 := k1.cell 13
  simp at x0 x1 x2 x3 x4 x5 x6 x7 x8 x9 x10 x11 x12 x13
  have hA1 : AkR z9 W1 (.agg #[.int .u8 ak, .string n, .string po, .string sq, .slice A1 n1 c1, .slice A2 n2 c2, .slice A3 n3 c3, .slice A4 n4 c4, .slice A5 n5 c5, nV m, .int .u8 wh, .bool ac, nV pid, nV sec]) a := ⟨n, po, sq, _, _, _, _, _, m, wh, pid, sec, by rw [hak, hac], hk.below hb1, hv.below hb1, hz, ⟨_, _, _, rfl⟩, ⟨_, _, _, rfl⟩, ⟨_, _, _, rfl⟩⟩
  have HB1 := Lib.hid hb1
  have hS1 := h.below hb1
  have HS1 : Hid (Dx W1 z9 S) := Lib.hid hS1
  have HKQ := Lib.hid k1
  have HA := Lib.hid hA1
  have HLT := Lib.hid hl
  have HV := Lib.hid (rval_any _ a userT W1 hA1 hl)
  have HG : Hid (∀ {w2 : World} {S2 : St}, DtP z9 W1 w2 S2 → DtP z9 w w2 S2) := Lib.hid fun k => ⟨(Chg.of_below HB1.out).trans k.1, k.2⟩
  have he := empty_tl a.user
  have HUD : Hid (valL userT a.ks a.vs = a.user) := Lib.hid rfl
  have hPU : ∀ n, ruleP S.p n = if (2 : Int) = n then (2, 8, 6, 0) else if (1 : Int) = n then (1, 1, 1, 0) else (0, 9, 6, 4) := fun n => by rw [hp]; rfl
  clear hA1 hk hv hz k1 hb1 hl hS1 h
  by_cases g0 : ak = 0
  · subst g0
    have hsa : saidN a = firN a := by unfold saidN; rw [if_pos hak]
    cases ac with
    | true =>
      have hr : ruleP S.p (saidN a) = (2, 8, 6, 0) := by rw [hPU, hsa]; unfold firN; rw [if_pos hac]; rfl
      obtain ⟨e1, e2, e3⟩ := step_of S a _ hr (by decide)
      rw [e1, e2, e3]
      clear e1 e2 e3 hr hPU hsa he HV
      go_enter Tryd.func29, Tryd.ntmps29
      go_wp2_with fail
      refine (to_any HS1.out 6 (by omega) 8 0).mono ?_
      rintro e w2 ⟨rfl, hs⟩
      have HF := Lib.hid (HG.out hs)
      clear hs
      go_wp2
      go_ret2
      exact ⟨rfl, HF.out⟩
    | false =>
      by_cases hu : a.user = e0
      · have hr : ruleP S.p (saidN a) = (0, 9, 6, 4) := by rw [hPU, hsa]; unfold firN; rw [hac, if_neg Bool.false_ne_true, if_pos hu]; rfl
        obtain ⟨e1, e2, e3⟩ := step_of S a _ hr (by decide)
        rw [e1, e2, e3]
        have h1 : a.user.toList.isEmpty = true := by rw [he]; simp [hu]
        rw [HUD.out] at HV
        generalize a.user = us at *
        clear e1 e2 e3 hr hPU hsa he hu HUD
        go_enter Tryd.func29, Tryd.ntmps29
        go_wp2_with fail
        refine HV.out.mono ?_
        rintro e w2 ⟨rfl, hb2⟩
        have HS2 := Lib.hid (HS1.out.below hb2)
        have HG2 : Hid (∀ {w3 : World} {S2 : St}, DtP z9 w2 w3 S2 → DtP z9 w w3 S2) := Lib.hid fun k => HG.out ⟨(Chg.of_below hb2).trans k.1, k.2⟩
        clear hb2 HV
        go_wp2_with fail
        refine (to_any HS2.out 6 (by omega) 9 4).mono ?_
        rintro e w3 ⟨rfl, hs⟩
        have HF := Lib.hid (HG2.out hs)
        clear hs
        go_wp2
        go_ret2
        exact ⟨rfl, HF.out⟩
      · have hr : ruleP S.p (saidN a) = (1, 1, 1, 0) := by rw [hPU, hsa]; unfold firN; rw [hac, if_neg Bool.false_ne_true, if_neg hu]; rfl
        have e1 : stepS S a = ⟨1, a.user, a.db⟩ := by unfold stepS; rw [hr]; rfl
        have e2 : stepD S a = 1 := by unfold stepD; rw [hr]
        have e3 : stepE S a = 0 := by unfold stepE; rw [hr]
        rw [e1, e2, e3]
        have h1 : a.user.toList.isEmpty = false := by rw [he]; simp [hu]
        have HDB : Hid (a.db = if valL dbT a.ks a.vs = e0 then a.user else valL dbT a.ks a.vs) := Lib.hid rfl
        obtain ⟨db, hdb⟩ : ∃ x, a.db = x := ⟨_, rfl⟩
        rw [hdb] at HDB ⊢
        obtain ⟨us, hus⟩ : ∃ x, a.user = x := ⟨_, rfl⟩
        rw [hus] at HDB h1 HUD ⊢
        rw [HUD.out] at HV
        clear e1 e2 e3 hr hPU hsa he hu hdb hus
        have HPS := Lib.hid hp
        go_enter Tryd.func29, Tryd.ntmps29
        go_wp2_with fail
        refine HV.out.mono ?_
        rintro e w2 ⟨rfl, hb2⟩
        have B2 := Lib.hid hb2
        have kq := HKQ.out.heap (hb2.block q HKQ.out.lt)
        clear hb2 HV x0 x1 x2 x3 x4 x5 x6 x7 x8 x9 x10 x11 x12 x13
        have x0 := kq.cell 0
        have x1 := kq.cell 1
        have x2 := kq.cell 2
        have x3 := kq.cell 3
        have x4 := kq.cell 4
        have x5 := kq.cell 5
        have x6 := kq.cell 6
        have x7 := kq.cell 7
        have x8 := kq.cell 8
        have x9 := kq.cell 9
        have x10 := kq.cell 10
        have x11 := kq.cell 11
        have x12 := kq.cell 12
        have x13 := kq.cell 13
        simp at x0 x1 x2 x3 x4 x5 x6 x7 x8 x9 x10 x11 x12 x13
        clear kq
        go_wp2_with fail
        refine (rval_any _ a userT w2 (HA.out.below B2.out) HLT.out).mono ?_
        rintro e w3 ⟨rfl, hb3⟩
        rw [HUD.out]
        have B3 : Hid (Below W1.heap.size W1 w3) := Lib.hid (B2.out.trans (hb3.mono B2.out.size))
        have hS3 := HS1.out.below B3.out
        have f1 := hS3.1.frozen 1
        have s1 := hS3.cells.2.1
        obtain ⟨W4, hW4⟩ : ∃ W, w3.setCell ⟨z9, 1, none⟩ (.string us) = W := ⟨_, rfl⟩
        have H4 : Hid (DtP z9 W1 W4 ⟨S.p, us, S.d⟩) := Lib.hid (by rw [← hW4]; exact ⟨(Chg.of_below (S := fun b => b = z9) B3.out).setCell (p := ⟨z9, 1, none⟩) rfl _, hS3.1.set_ 1 _, hS3.2⟩)
        have hqz : q ≠ z9 := HKQ.out.ne_ HS1.out.1 (by decide)
        have kq := HKQ.out.chg H4.out.1 hqz
        have A4 : Hid (AkR z9 W4 _ a) := Lib.hid (HA.out.chg H4.out.1)
        clear hb3 hS3 B2 x0 x1 x2 x3 x4 x5 x6 x7 x8 x9 x10 x11 x12 x13
        have x0 := kq.cell 0
        have x1 := kq.cell 1
        have x2 := kq.cell 2
        have x3 := kq.cell 3
        have x4 := kq.cell 4
        have x5 := kq.cell 5
        have x6 := kq.cell 6
        have x7 := kq.cell 7
        have x8 := kq.cell 8
        have x9 := kq.cell 9
        have x10 := kq.cell 10
        have x11 := kq.cell 11
        have x12 := kq.cell 12
        have x13 := kq.cell 13
        simp at x0 x1 x2 x3 x4 x5 x6 x7 x8 x9 x10 x11 x12 x13
        clear kq hqz
        go_wp2_with fail
        refine (rval_any _ a dbT W4 A4.out HLT.out).mono ?_
        rintro e w5 ⟨rfl, hb5⟩
        have hS5 := H4.out.2.below hb5
        have f2 := hS5.1.frozen 2
        have s2 := hS5.cells.2.2
        obtain ⟨ds, hds⟩ : ∃ x, valL dbT a.ks a.vs = x := ⟨_, rfl⟩
        rw [hds] at HDB
        try rw [hds]
        obtain ⟨W6, hW6⟩ : ∃ W, w5.setCell ⟨z9, 2, none⟩ (.string ds) = W := ⟨_, rfl⟩
        have H6 : Hid (DtP z9 W1 W6 ⟨S.p, us, ds⟩) := Lib.hid (H4.out.trans (by rw [← hW6]; exact ⟨(Chg.of_below (S := fun b => b = z9) hb5).setCell (p := ⟨z9, 2, none⟩) rfl _, hS5.1.set_ 2 _, hS5.2⟩))
        have d1 : W6.cell? ⟨z9, 1, none⟩ = some (.string us) := H6.out.2.cells.2.1
        have d2 : W6.cell? ⟨z9, 2, none⟩ = some (.string ds) := H6.out.2.cells.2.2
        have et := empty_tl ds
        clear hb5 hS5 hds A4 H4 f1 s1 x0 x1 x2 x3 x4 x5 x6 x7 x8 x9 x10 x11 x12 x13
        by_cases ed : ds = e0
        · have hdb := HDB.out
          rw [if_pos ed] at hdb
          have HD := Lib.hid hdb
          have et2 : ds.toList.isEmpty = true := by rw [et]; simp [ed]
          have f8 : W6.frozen? ⟨z9, 2, none⟩ = false := H6.out.2.1.frozen 2
          obtain ⟨W7, hW7⟩ : ∃ W, W6.setCell ⟨z9, 2, none⟩ (.string us) = W := ⟨_, rfl⟩
          have H7 : Hid (DtP z9 W1 W7 ⟨S.p, us, us⟩) := Lib.hid (H6.out.trans (by rw [← hW7]; exact ⟨(Chg.refl (fun b => b = z9) W6).setCell (p := ⟨z9, 2, none⟩) rfl _, H6.out.2.1.set_ 2 _, H6.out.2.2⟩))
          clear et ed hdb
          go_wp2_with fail
          refine (to_any H7.out.2 1 (by omega) 1 0).mono ?_
          rintro e w8 ⟨rfl, hs⟩
          have HF := Lib.hid (HG.out (H7.out.trans hs))
          clear hs
          go_wp2
          go_ret2
          rw [HD.out]
          exact ⟨rfl, HF.out⟩
        · have hdb := HDB.out
          rw [if_neg ed] at hdb
          have HD := Lib.hid hdb
          have et2 : ds.toList.isEmpty = false := by rw [et]; simp [ed]
          clear et ed hdb
          go_wp2_with fail
          refine (to_any H6.out.2 1 (by omega) 1 0).mono ?_
          rintro e w8 ⟨rfl, hs⟩
          have HF := Lib.hid (HG.out (H6.out.trans hs))
          clear hs
          go_wp2
          go_ret2
          rw [HD.out]
          exact ⟨rfl, HF.out⟩
  · have hsa : saidN a = kndN ak := by unfold saidN; rw [hak, if_neg g0]
    have hr : ruleP S.p (saidN a) = (0, 9, 6, 4) := by
      rw [hPU, hsa]
      rcases knd_range ak with e | e | e | e | e | e <;> (rw [e]; rfl)
    obtain ⟨e1, e2, e3⟩ := step_of S a _ hr (by decide)
    rw [e1, e2, e3]
    have g0b : (ak != 0) = true := by simp [g0]
    clear e1 e2 e3 hr hPU hsa he HV g0
    go_enter Tryd.func29, Tryd.ntmps29
    go_wp2_with fail
    refine (to_any HS1.out 6 (by omega) 9 4).mono ?_
    rintro e w2 ⟨rfl, hs⟩
    have HF := Lib.hid (HG.out hs)
    clear hs
    go_wp2
    go_ret2
    exact ⟨rfl, HF.out⟩
set_option maxHeartbeats 16000000 in
theorem rstep_any {w : World} {z9 : Nat} {S : St} (h : Dx w z9 S) (v : Value) (a : Ak) (hA : AkR z9 w v a) (hl : Lt a) :
    Calls Tryd.prog 10 #[ptr z9, v] w fun e w' => e = .returned (.tuple #[nV (stepD S a), nV (stepE S a)]) ∧ DtP z9 w w' (stepS S a) := by
  obtain ⟨p, us, ds⟩ := S
  obtain ⟨n, po, sq, kv, vv, av, nv, fv, m, wh, pid, sec, rfl, hk, hv, hz, ⟨A3, n3, c3, rfl⟩, ⟨A4, n4, c4, rfl⟩, ⟨A5, n5, c5, rfl⟩⟩ := hA
  obtain ⟨A1, c1, rfl⟩ := hk.ts.form
  obtain ⟨A2, c2, rfl⟩ := hv.ts.form
  obtain ⟨ak, hak⟩ : ∃ x, a.k = x := ⟨_, rfl⟩
  obtain ⟨ac, hac⟩ : ∃ x, a.c = x := ⟨_, rfl⟩
  obtain ⟨n1, hn1⟩ : ∃ x, a.ks.length = x := ⟨_, rfl⟩
  obtain ⟨n2, hn2⟩ : ∃ x, a.vs.length = x := ⟨_, rfl⟩
  rw [hak, hac, hn1, hn2]
  rw [hn1] at hk
  rw [hn2] at hv
  obtain ⟨W1, hW1⟩ : ∃ W, w.alloc (.cells #[.int .u8 ak, .string n, .string po, .string sq, .slice A1 n1 c1, .slice A2 n2 c2, .slice A3 n3 c3, .slice A4 n4 c4, .slice A5 n5 c5, nV m, .int .u8 wh, .bool ac, nV pid, nV sec] 32) = W := ⟨_, rfl⟩
  obtain ⟨q, hq⟩ : ∃ b, w.heap.size = b := ⟨_, rfl⟩
  have hb1 : Below w.heap.size w W1 := by rw [← hW1]; exact (Below.refl _ _).alloc (Nat.le_refl _) _
  have k1 : Bk W1 q 32 #[.int .u8 ak, .string n, .string po, .string sq, .slice A1 n1 c1, .slice A2 n2 c2, .slice A3 n3 c3, .slice A4 n4 c4, .slice A5 n5 c5, nV m, .int .u8 wh, .bool ac, nV pid, nV sec] := by rw [← hW1, ← hq]; exact Bk.new _ _ _
  have x0 := k1.cell 0
  have x1 := k1.cell 1
  have x2 := k1.cell 2
  have x3 := k1.cell 3
  have x4 := k1.cell 4
  have x5 := k1.cell 5
  have x6 := k1.cell 6
  have x7 := k1.cell 7
  have x8 := k1.cell 8
  have x9 := k1.cell 9
  have x10 := k1.cell 10
  have x11 := k1.cell 11
  have x12 := k1.cell 12
  have x13 := k1.cell 13
  simp at x0 x1 x2 x3 x4 x5 x6 x7 x8 x9 x10 x11 x12 x13
  have hA1 : AkR z9 W1 (.agg #[.int .u8 ak, .string n, .string po, .string sq, .slice A1 n1 c1, .slice A2 n2 c2, .slice A3 n3 c3, .slice A4 n4 c4, .slice A5 n5 c5, nV m, .int .u8 wh, .bool ac, nV pid, nV sec]) a := ⟨n, po, sq, _, _, _, _, _, m, wh, pid, sec, by rw [hak, hac], hk.below hb1, hv.below hb1, hz, ⟨_, _, _, rfl⟩, ⟨_, _, _, rfl⟩, ⟨_, _, _, rfl⟩⟩
  have HB1 := Lib.hid hb1
  have hS1 := h.below hb1
  obtain ⟨s0, _, _⟩ := hS1.cells
  have HS1 : Hid (Dx W1 z9 ⟨p, us, ds⟩) := Lib.hid hS1
  have HF1 : Hid (p = 0 → Calls Tryd.prog 29 #[ptr z9, .agg #[.int .u8 ak, .string n, .string po, .string sq, .slice A1 n1 c1, .slice A2 n2 c2, .slice A3 n3 c3, .slice A4 n4 c4, .slice A5 n5 c5, nV m, .int .u8 wh, .bool ac, nV pid, nV sec]] W1 fun e w' => e = .returned (.tuple #[nV (stepD ⟨p, us, ds⟩ a), nV (stepE ⟨p, us, ds⟩ a)]) ∧ DtP z9 W1 w' (stepS ⟨p, us, ds⟩ a)) := Lib.hid fun hp => rfirst_any hS1 hp _ a hA1 hl
  have HG : Hid (∀ {w2 : World} {S2 : St}, DtP z9 W1 w2 S2 → DtP z9 w w2 S2) := Lib.hid fun k => ⟨(Chg.of_below HB1.out).trans k.1, k.2⟩
  have HF0 : Hid (DtP z9 w W1 ⟨p, us, ds⟩) := Lib.hid (HG.out (DtP.refl hS1))
  have HKQ := Lib.hid k1
  have hp7 := h.2
  simp only at s0 hp7
  clear hA1 hk hv hz k1 hb1 hl hS1 h x1 x2 x3 x4 x5 x6 x7 x8 x9 x10 x11 x12 x13
  have hE : ∀ (r : R4), ruleP p (saidN a) = r → r.2.1 ≠ 1 → stepS ⟨p, us, ds⟩ a = ⟨r.2.2.1.toNat, us, ds⟩ ∧ stepD ⟨p, us, ds⟩ a = r.2.1 ∧ stepE ⟨p, us, ds⟩ a = r.2.2.2 := fun r h1 h2 => step_of ⟨p, us, ds⟩ a r h1 h2
  match p, hp7 with
  | 0, _ =>
    try simp only [Nat.cast_ofNat, Nat.cast_zero, Nat.cast_one] at s0
    have kq := HKQ.out
    have x1 := kq.cell 1
    have x2 := kq.cell 2
    have x3 := kq.cell 3
    have x4 := kq.cell 4
    have x5 := kq.cell 5
    have x6 := kq.cell 6
    have x7 := kq.cell 7
    have x8 := kq.cell 8
    have x9 := kq.cell 9
    have x10 := kq.cell 10
    have x11 := kq.cell 11
    have x12 := kq.cell 12
    have x13 := kq.cell 13
    simp at x1 x2 x3 x4 x5 x6 x7 x8 x9 x10 x11 x12 x13
    clear kq
    go_enter Tryd.func10, Tryd.ntmps10
    go_wp2_with fail
    refine (HF1.out (by first | rfl | trivial)).mono ?_
    rintro e w2 ⟨rfl, hs⟩
    have HF := Lib.hid (HG.out hs)
    clear hs
    go_wp2
    go_ret2
    exact ⟨rfl, HF.out⟩
  | 1, _ =>
    try simp only [Nat.cast_ofNat, Nat.cast_zero, Nat.cast_one] at s0
    have hP : ∀ n, ruleP 1 n = if (3 : Int) = n then (3, 2, 1, 0) else (0, 9, 6, 10) := fun n => rfl
    by_cases g3 : ak = 112
    · subst g3
      have hs := said_3 hak
      
      obtain ⟨e1, e2, e3⟩ := hE (3, 2, 1, 0) (by rw [hP, hs]; rfl) (by decide)
      rw [e1, e2, e3]
      clear e1 e2 e3 hE HF1
      go_enter Tryd.func10, Tryd.ntmps10
      go_wp2
      go_ret2
      exact ⟨rfl, HF0.out⟩
    have hs : ¬ (3 : Int) = saidN a := by
      skip
      all_goals
        intro e
        have := said_no _ (by omega) e.symm
        rw [hak] at this
        omega
    have g3b : (ak == 112) = false := by simp [g3]
    obtain ⟨e1, e2, e3⟩ := hE (0, 9, 6, 10) (by rw [hP, if_neg hs]) (by decide)
    rw [e1, e2, e3]
    clear e1 e2 e3 hE HF1
    clear hs hP hak g3
    go_enter Tryd.func10, Tryd.ntmps10
    go_wp2_with fail
    refine (to_any HS1.out 6 (by omega) 9 10).mono ?_
    rintro e w2 ⟨rfl, hs⟩
    have HF := Lib.hid (HG.out hs)
    clear hs
    go_wp2
    go_ret2
    exact ⟨rfl, HF.out⟩
  | 2, _ =>
    try simp only [Nat.cast_ofNat, Nat.cast_zero, Nat.cast_one] at s0
    have hP : ∀ n, ruleP 2 n = if (4 : Int) = n then (4, 3, 3, 0) else if (5 : Int) = n then (5, 4, 4, 0) else if (6 : Int) = n then (6, 5, 2, 0) else if (7 : Int) = n then (7, 9, 6, 0) else (0, 9, 6, 10) := fun n => rfl
    by_cases g7 : ak = 88
    · subst g7
      have hs := said_7 hak
      
      obtain ⟨e1, e2, e3⟩ := hE (7, 9, 6, 0) (by rw [hP, hs]; rfl) (by decide)
      rw [e1, e2, e3]
      clear e1 e2 e3 hE HF1
      go_enter Tryd.func10, Tryd.ntmps10
      go_wp2_with fail
      refine (to_any HS1.out 6 (by omega) 9 0).mono ?_
      rintro e w2 ⟨rfl, hs⟩
      have HF := Lib.hid (HG.out hs)
      clear hs
      go_wp2
      go_ret2
      exact ⟨rfl, HF.out⟩
    by_cases g6 : ak = 83
    · subst g6
      have hs := said_6 hak
      
      obtain ⟨e1, e2, e3⟩ := hE (6, 5, 2, 0) (by rw [hP, hs]; rfl) (by decide)
      rw [e1, e2, e3]
      clear e1 e2 e3 hE HF1
      go_enter Tryd.func10, Tryd.ntmps10
      go_wp2_with fail
      refine (to_any HS1.out 2 (by omega) 5 0).mono ?_
      rintro e w2 ⟨rfl, hs⟩
      have HF := Lib.hid (HG.out hs)
      clear hs
      go_wp2
      go_ret2
      exact ⟨rfl, HF.out⟩
    by_cases g4 : ak = 81
    · subst g4
      have hs := said_4 hak
      
      obtain ⟨e1, e2, e3⟩ := hE (4, 3, 3, 0) (by rw [hP, hs]; rfl) (by decide)
      rw [e1, e2, e3]
      clear e1 e2 e3 hE HF1
      go_enter Tryd.func10, Tryd.ntmps10
      go_wp2_with fail
      refine (to_any HS1.out 3 (by omega) 3 0).mono ?_
      rintro e w2 ⟨rfl, hs⟩
      have HF := Lib.hid (HG.out hs)
      clear hs
      go_wp2
      go_ret2
      exact ⟨rfl, HF.out⟩
    by_cases g5 : ak = 80 ∨ ak = 66 ∨ ak = 68 ∨ ak = 69 ∨ ak = 67 ∨ ak = 72
    · have hs := said_5 (a := a) (by rw [hak]; exact g5)
      obtain ⟨e1, e2, e3⟩ := hE (5, 4, 4, 0) (by rw [hP, hs]; rfl) (by decide)
      rw [e1, e2, e3]
      clear e1 e2 e3 hE HF1 hs hP
      clear g4 g6 g7
      rcases g5 with rfl | rfl | rfl | rfl | rfl | rfl
      · skip
        go_enter Tryd.func10, Tryd.ntmps10
        go_wp2_with fail
        refine (to_any HS1.out 4 (by omega) 4 0).mono ?_
        rintro e w2 ⟨rfl, hs⟩
        have HF := Lib.hid (HG.out hs)
        clear hs
        go_wp2
        go_ret2
        exact ⟨rfl, HF.out⟩
      · skip
        go_enter Tryd.func10, Tryd.ntmps10
        go_wp2_with fail
        refine (to_any HS1.out 4 (by omega) 4 0).mono ?_
        rintro e w2 ⟨rfl, hs⟩
        have HF := Lib.hid (HG.out hs)
        clear hs
        go_wp2
        go_ret2
        exact ⟨rfl, HF.out⟩
      · skip
        go_enter Tryd.func10, Tryd.ntmps10
        go_wp2_with fail
        refine (to_any HS1.out 4 (by omega) 4 0).mono ?_
        rintro e w2 ⟨rfl, hs⟩
        have HF := Lib.hid (HG.out hs)
        clear hs
        go_wp2
        go_ret2
        exact ⟨rfl, HF.out⟩
      · skip
        go_enter Tryd.func10, Tryd.ntmps10
        go_wp2_with fail
        refine (to_any HS1.out 4 (by omega) 4 0).mono ?_
        rintro e w2 ⟨rfl, hs⟩
        have HF := Lib.hid (HG.out hs)
        clear hs
        go_wp2
        go_ret2
        exact ⟨rfl, HF.out⟩
      · skip
        go_enter Tryd.func10, Tryd.ntmps10
        go_wp2_with fail
        refine (to_any HS1.out 4 (by omega) 4 0).mono ?_
        rintro e w2 ⟨rfl, hs⟩
        have HF := Lib.hid (HG.out hs)
        clear hs
        go_wp2
        go_ret2
        exact ⟨rfl, HF.out⟩
      · skip
        go_enter Tryd.func10, Tryd.ntmps10
        go_wp2_with fail
        refine (to_any HS1.out 4 (by omega) 4 0).mono ?_
        rintro e w2 ⟨rfl, hs⟩
        have HF := Lib.hid (HG.out hs)
        clear hs
        go_wp2
        go_ret2
        exact ⟨rfl, HF.out⟩
    have hs : ¬ (4 : Int) = saidN a ∧ ¬ (5 : Int) = saidN a ∧ ¬ (6 : Int) = saidN a ∧ ¬ (7 : Int) = saidN a := by
      refine ⟨?_, ?_, ?_, ?_⟩
      all_goals
        intro e
        have := said_no _ (by omega) e.symm
        rw [hak] at this
        omega
    have g7b : (ak == 88) = false := by simp [g7]
    have g6b : (ak == 83) = false := by simp [g6]
    have g4b : (ak == 81) = false := by simp [g4]
    have h80b : (ak == 80) = false := by rw [beq_eq_false_iff_ne]; omega
    have h66b : (ak == 66) = false := by rw [beq_eq_false_iff_ne]; omega
    have h68b : (ak == 68) = false := by rw [beq_eq_false_iff_ne]; omega
    have h69b : (ak == 69) = false := by rw [beq_eq_false_iff_ne]; omega
    have h67b : (ak == 67) = false := by rw [beq_eq_false_iff_ne]; omega
    have h72b : (ak == 72) = false := by rw [beq_eq_false_iff_ne]; omega
    obtain ⟨e1, e2, e3⟩ := hE (0, 9, 6, 10) (by rw [hP, if_neg hs.1, if_neg hs.2.1, if_neg hs.2.2.1, if_neg hs.2.2.2]) (by decide)
    rw [e1, e2, e3]
    clear e1 e2 e3 hE HF1
    clear hs hP hak g7 g6 g4 g5
    go_enter Tryd.func10, Tryd.ntmps10
    go_wp2_with fail
    refine (to_any HS1.out 6 (by omega) 9 10).mono ?_
    rintro e w2 ⟨rfl, hs⟩
    have HF := Lib.hid (HG.out hs)
    clear hs
    go_wp2
    go_ret2
    exact ⟨rfl, HF.out⟩
  | 3, _ =>
    try simp only [Nat.cast_ofNat, Nat.cast_zero, Nat.cast_one] at s0
    have hP : ∀ n, ruleP 3 n = if (7 : Int) = n then (7, 9, 6, 0) else (0, 6, 3, 0) := fun n => rfl
    by_cases g7 : ak = 88
    · subst g7
      have hs := said_7 hak
      
      obtain ⟨e1, e2, e3⟩ := hE (7, 9, 6, 0) (by rw [hP, hs]; rfl) (by decide)
      rw [e1, e2, e3]
      clear e1 e2 e3 hE HF1
      go_enter Tryd.func10, Tryd.ntmps10
      go_wp2_with fail
      refine (to_any HS1.out 6 (by omega) 9 0).mono ?_
      rintro e w2 ⟨rfl, hs⟩
      have HF := Lib.hid (HG.out hs)
      clear hs
      go_wp2
      go_ret2
      exact ⟨rfl, HF.out⟩
    have hs : ¬ (7 : Int) = saidN a := by
      skip
      all_goals
        intro e
        have := said_no _ (by omega) e.symm
        rw [hak] at this
        omega
    have g7b : (ak == 88) = false := by simp [g7]
    obtain ⟨e1, e2, e3⟩ := hE (0, 6, 3, 0) (by rw [hP, if_neg hs]) (by decide)
    rw [e1, e2, e3]
    clear e1 e2 e3 hE HF1
    clear hs hP hak g7
    go_enter Tryd.func10, Tryd.ntmps10
    go_wp2
    go_ret2
    exact ⟨rfl, HF0.out⟩
  | 4, _ =>
    try simp only [Nat.cast_ofNat, Nat.cast_zero, Nat.cast_one] at s0
    have hP : ∀ n, ruleP 4 n = if (4 : Int) = n then (4, 3, 3, 0) else if (5 : Int) = n then (5, 4, 4, 0) else if (6 : Int) = n then (6, 5, 2, 0) else if (7 : Int) = n then (7, 9, 6, 0) else (0, 9, 6, 10) := fun n => rfl
    by_cases g7 : ak = 88
    · subst g7
      have hs := said_7 hak
      
      obtain ⟨e1, e2, e3⟩ := hE (7, 9, 6, 0) (by rw [hP, hs]; rfl) (by decide)
      rw [e1, e2, e3]
      clear e1 e2 e3 hE HF1
      go_enter Tryd.func10, Tryd.ntmps10
      go_wp2_with fail
      refine (to_any HS1.out 6 (by omega) 9 0).mono ?_
      rintro e w2 ⟨rfl, hs⟩
      have HF := Lib.hid (HG.out hs)
      clear hs
      go_wp2
      go_ret2
      exact ⟨rfl, HF.out⟩
    by_cases g6 : ak = 83
    · subst g6
      have hs := said_6 hak
      
      obtain ⟨e1, e2, e3⟩ := hE (6, 5, 2, 0) (by rw [hP, hs]; rfl) (by decide)
      rw [e1, e2, e3]
      clear e1 e2 e3 hE HF1
      go_enter Tryd.func10, Tryd.ntmps10
      go_wp2_with fail
      refine (to_any HS1.out 2 (by omega) 5 0).mono ?_
      rintro e w2 ⟨rfl, hs⟩
      have HF := Lib.hid (HG.out hs)
      clear hs
      go_wp2
      go_ret2
      exact ⟨rfl, HF.out⟩
    by_cases g4 : ak = 81
    · subst g4
      have hs := said_4 hak
      
      obtain ⟨e1, e2, e3⟩ := hE (4, 3, 3, 0) (by rw [hP, hs]; rfl) (by decide)
      rw [e1, e2, e3]
      clear e1 e2 e3 hE HF1
      go_enter Tryd.func10, Tryd.ntmps10
      go_wp2_with fail
      refine (to_any HS1.out 3 (by omega) 3 0).mono ?_
      rintro e w2 ⟨rfl, hs⟩
      have HF := Lib.hid (HG.out hs)
      clear hs
      go_wp2
      go_ret2
      exact ⟨rfl, HF.out⟩
    by_cases g5 : ak = 80 ∨ ak = 66 ∨ ak = 68 ∨ ak = 69 ∨ ak = 67 ∨ ak = 72
    · have hs := said_5 (a := a) (by rw [hak]; exact g5)
      obtain ⟨e1, e2, e3⟩ := hE (5, 4, 4, 0) (by rw [hP, hs]; rfl) (by decide)
      rw [e1, e2, e3]
      clear e1 e2 e3 hE HF1 hs hP
      clear g4 g6 g7
      rcases g5 with rfl | rfl | rfl | rfl | rfl | rfl
      · skip
        go_enter Tryd.func10, Tryd.ntmps10
        go_wp2_with fail
        refine (to_any HS1.out 4 (by omega) 4 0).mono ?_
        rintro e w2 ⟨rfl, hs⟩
        have HF := Lib.hid (HG.out hs)
        clear hs
        go_wp2
        go_ret2
        exact ⟨rfl, HF.out⟩
      · skip
        go_enter Tryd.func10, Tryd.ntmps10
        go_wp2_with fail
        refine (to_any HS1.out 4 (by omega) 4 0).mono ?_
        rintro e w2 ⟨rfl, hs⟩
        have HF := Lib.hid (HG.out hs)
        clear hs
        go_wp2
        go_ret2
        exact ⟨rfl, HF.out⟩
      · skip
        go_enter Tryd.func10, Tryd.ntmps10
        go_wp2_with fail
        refine (to_any HS1.out 4 (by omega) 4 0).mono ?_
        rintro e w2 ⟨rfl, hs⟩
        have HF := Lib.hid (HG.out hs)
        clear hs
        go_wp2
        go_ret2
        exact ⟨rfl, HF.out⟩
      · skip
        go_enter Tryd.func10, Tryd.ntmps10
        go_wp2_with fail
        refine (to_any HS1.out 4 (by omega) 4 0).mono ?_
        rintro e w2 ⟨rfl, hs⟩
        have HF := Lib.hid (HG.out hs)
        clear hs
        go_wp2
        go_ret2
        exact ⟨rfl, HF.out⟩
      · skip
        go_enter Tryd.func10, Tryd.ntmps10
        go_wp2_with fail
        refine (to_any HS1.out 4 (by omega) 4 0).mono ?_
        rintro e w2 ⟨rfl, hs⟩
        have HF := Lib.hid (HG.out hs)
        clear hs
        go_wp2
        go_ret2
        exact ⟨rfl, HF.out⟩
      · skip
        go_enter Tryd.func10, Tryd.ntmps10
        go_wp2_with fail
        refine (to_any HS1.out 4 (by omega) 4 0).mono ?_
        rintro e w2 ⟨rfl, hs⟩
        have HF := Lib.hid (HG.out hs)
        clear hs
        go_wp2
        go_ret2
        exact ⟨rfl, HF.out⟩
    have hs : ¬ (4 : Int) = saidN a ∧ ¬ (5 : Int) = saidN a ∧ ¬ (6 : Int) = saidN a ∧ ¬ (7 : Int) = saidN a := by
      refine ⟨?_, ?_, ?_, ?_⟩
      all_goals
        intro e
        have := said_no _ (by omega) e.symm
        rw [hak] at this
        omega
    have g7b : (ak == 88) = false := by simp [g7]
    have g6b : (ak == 83) = false := by simp [g6]
    have g4b : (ak == 81) = false := by simp [g4]
    have h80b : (ak == 80) = false := by rw [beq_eq_false_iff_ne]; omega
    have h66b : (ak == 66) = false := by rw [beq_eq_false_iff_ne]; omega
    have h68b : (ak == 68) = false := by rw [beq_eq_false_iff_ne]; omega
    have h69b : (ak == 69) = false := by rw [beq_eq_false_iff_ne]; omega
    have h67b : (ak == 67) = false := by rw [beq_eq_false_iff_ne]; omega
    have h72b : (ak == 72) = false := by rw [beq_eq_false_iff_ne]; omega
    obtain ⟨e1, e2, e3⟩ := hE (0, 9, 6, 10) (by rw [hP, if_neg hs.1, if_neg hs.2.1, if_neg hs.2.2.1, if_neg hs.2.2.2]) (by decide)
    rw [e1, e2, e3]
    clear e1 e2 e3 hE HF1
    clear hs hP hak g7 g6 g4 g5
    go_enter Tryd.func10, Tryd.ntmps10
    go_wp2_with fail
    refine (to_any HS1.out 6 (by omega) 9 10).mono ?_
    rintro e w2 ⟨rfl, hs⟩
    have HF := Lib.hid (HG.out hs)
    clear hs
    go_wp2
    go_ret2
    exact ⟨rfl, HF.out⟩
  | 5, _ =>
    try simp only [Nat.cast_ofNat, Nat.cast_zero, Nat.cast_one] at s0
    have hP : ∀ n, ruleP 5 n = if (6 : Int) = n then (6, 5, 2, 0) else if (7 : Int) = n then (7, 9, 6, 0) else (0, 7, 5, 0) := fun n => rfl
    by_cases g7 : ak = 88
    · subst g7
      have hs := said_7 hak
      
      obtain ⟨e1, e2, e3⟩ := hE (7, 9, 6, 0) (by rw [hP, hs]; rfl) (by decide)
      rw [e1, e2, e3]
      clear e1 e2 e3 hE HF1
      go_enter Tryd.func10, Tryd.ntmps10
      go_wp2_with fail
      refine (to_any HS1.out 6 (by omega) 9 0).mono ?_
      rintro e w2 ⟨rfl, hs⟩
      have HF := Lib.hid (HG.out hs)
      clear hs
      go_wp2
      go_ret2
      exact ⟨rfl, HF.out⟩
    by_cases g6 : ak = 83
    · subst g6
      have hs := said_6 hak
      
      obtain ⟨e1, e2, e3⟩ := hE (6, 5, 2, 0) (by rw [hP, hs]; rfl) (by decide)
      rw [e1, e2, e3]
      clear e1 e2 e3 hE HF1
      go_enter Tryd.func10, Tryd.ntmps10
      go_wp2_with fail
      refine (to_any HS1.out 2 (by omega) 5 0).mono ?_
      rintro e w2 ⟨rfl, hs⟩
      have HF := Lib.hid (HG.out hs)
      clear hs
      go_wp2
      go_ret2
      exact ⟨rfl, HF.out⟩
    have hs : ¬ (6 : Int) = saidN a ∧ ¬ (7 : Int) = saidN a := by
      refine ⟨?_, ?_⟩
      all_goals
        intro e
        have := said_no _ (by omega) e.symm
        rw [hak] at this
        omega
    have g7b : (ak == 88) = false := by simp [g7]
    have g6b : (ak == 83) = false := by simp [g6]
    obtain ⟨e1, e2, e3⟩ := hE (0, 7, 5, 0) (by rw [hP, if_neg hs.1, if_neg hs.2]) (by decide)
    rw [e1, e2, e3]
    clear e1 e2 e3 hE HF1
    clear hs hP hak g7 g6
    go_enter Tryd.func10, Tryd.ntmps10
    go_wp2
    go_ret2
    exact ⟨rfl, HF0.out⟩
  | 6, _ =>
    try simp only [Nat.cast_ofNat, Nat.cast_zero, Nat.cast_one] at s0
    have hP : ∀ n, ruleP 6 n = (0, 0, 6, 10) := fun n => rfl
    obtain ⟨e1, e2, e3⟩ := hE (0, 0, 6, 10) (by rw [hP]) (by decide)
    rw [e1, e2, e3]
    clear e1 e2 e3 hE HF1
    go_enter Tryd.func10, Tryd.ntmps10
    go_wp2
    go_ret2
    exact ⟨rfl, HF0.out⟩
end Go.Proofs.YtpnjjllkbnmakaaDoor.SE
