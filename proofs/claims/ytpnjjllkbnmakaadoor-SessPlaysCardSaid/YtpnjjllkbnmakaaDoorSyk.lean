/- Package sess, the document's: a session. Conditions: few keys. -/
import Derived.Test.YtpnjjllkbnmakaaDoorSyf
import Derived.Deep.LoopGhost
namespace Go.Proofs.YtpnjjllkbnmakaaDoor.SE
open Go.ChangeShapes Go.WideShapes Go.ChangeAt Go.RowKit
open Go.Proofs.YtpnjjllkbnmakaaDoor.SL
set_option maxRecDepth 100000
set_option linter.unusedVariables false
set_option linter.unusedSimpArgs false

/-- a session of the document's at block r -/
def Dx (w : World) (r : Nat) (S : St) : Prop := Bk w r 27 #[nV S.p, .string S.u, .string S.d] ∧ S.p < 7
def DtP (r : Nat) (w w' : World) (S : St) : Prop := Chg (fun b => b = r) w w' ∧ Dx w' r S
section
variable {w w' : World} {r : Nat} {S : St}
theorem Dx.chg {Q : Nat → Prop} (h : Dx w r S) (hc : Chg Q w w') (hn : ¬ Q r) : Dx w' r S := ⟨h.1.chg hc hn, h.2⟩
theorem Dx.below (h : Dx w r S) (hb : Below w.heap.size w w') : Dx w' r S := h.chg (Q := fun _ => False) (.of_below hb) id
theorem DtP.refl (h : Dx w r S) : DtP r w w S := ⟨.refl _ _, h⟩
theorem DtP.set (h : Dx w r S) (p : Nat) (hp : p < 7) : DtP r w (w.setCell ⟨r, 0, none⟩ (nV (p : Int))) { S with p := p } :=
  ⟨(Chg.refl (fun b => b = r) w).setCell (p := ⟨r, 0, none⟩) rfl _, h.1.set_ 0 _, hp⟩
theorem DtP.trans {w1 w2 : World} {S1 S2 : St} (h : DtP r w w1 S1) (k : DtP r w1 w2 S2) : DtP r w w2 S2 := ⟨h.1.trans k.1, k.2⟩
theorem Dx.cells (h : Dx w r S) : w.cell? ⟨r, 0, none⟩ = some (nV S.p) ∧ w.cell? ⟨r, 1, none⟩ = some (.string S.u) ∧ w.cell? ⟨r, 2, none⟩ = some (.string S.d) := by
  have := h.1.cell 0
  have := h.1.cell 1
  have := h.1.cell 2
  simp_all
theorem to_any (h : Dx w r S) (p : Nat) (hp : p < 7) (d x : Int) : Calls Tryd.prog 30 #[ptr r, nV (p : Int), nV d, nV x] w fun e w' => e = .returned (.tuple #[nV d, nV x]) ∧ DtP r w w' { S with p := p } := by
  have HS := Lib.hid (DtP.set h p hp)
  have zf := h.1.frozen 0
  have c0 := h.cells.1
  clear h
  go_enter Tryd.func30, Tryd.ntmps30
  go_wp2
  go_ret2
  exact ⟨rfl, HS.out⟩
theorem raccept_any (h : Dx w r S) (b : Bool) : Calls Tryd.prog 12 #[ptr r, .bool b] w fun e w' => e = .returned (nV (accE b S)) ∧ DtP r w w' (accS b S) := by
  have zf := h.1.frozen 0
  have c0 := h.cells.1
  unfold accE accS
  by_cases e : S.p = 1
  · rw [if_pos e, if_pos e]
    have e1 : ((S.p : Int) != 1) = false := by rw [e]; rfl
    cases b with
    | true =>
      simp only [if_true]
      have HS := Lib.hid (DtP.set h 2 (by omega))
      clear h e
      go_enter Tryd.func12, Tryd.ntmps12
      go_wp2
      go_ret
      exact ⟨rfl, HS.out⟩
    | false =>
      simp only [Bool.false_eq_true, if_false]
      have HS := Lib.hid (DtP.set h 6 (by omega))
      clear h e
      go_enter Tryd.func12, Tryd.ntmps12
      go_wp2
      go_ret
      exact ⟨rfl, HS.out⟩
  · rw [if_neg e, if_neg e]
    have e1 : ((S.p : Int) != 1) = true := by rw [bne_iff_ne]; omega
    have HS := Lib.hid (DtP.refl h)
    clear h e
    go_enter Tryd.func12, Tryd.ntmps12
    go_wp2
    go_ret
    exact ⟨rfl, HS.out⟩
theorem rdone_any (h : Dx w r S) : Calls Tryd.prog 14 #[ptr r] w fun e w' => e = .returned (nV (donE S)) ∧ DtP r w w' (donS S) := by
  have zf := h.1.frozen 0
  have c0 := h.cells.1
  unfold donE donS
  by_cases e : S.p = 3
  · rw [if_pos e, if_pos e]
    have e1 : ((S.p : Int) != 3) = false := by rw [e]; rfl
    have HS := Lib.hid (DtP.set h 2 (by omega))
    clear h e
    go_enter Tryd.func14, Tryd.ntmps14
    go_wp2
    go_ret
    exact ⟨rfl, HS.out⟩
  · rw [if_neg e, if_neg e]
    have e1 : ((S.p : Int) != 3) = true := by rw [bne_iff_ne]; omega
    have HS := Lib.hid (DtP.refl h)
    clear h e
    go_enter Tryd.func14, Tryd.ntmps14
    go_wp2
    go_ret
    exact ⟨rfl, HS.out⟩
theorem rfail_any (h : Dx w r S) : Calls Tryd.prog 16 #[ptr r] w fun e w' => e = .returned (nV (faiE S)) ∧ DtP r w w' (faiS S) := by
  have zf := h.1.frozen 0
  have c0 := h.cells.1
  unfold faiE faiS
  by_cases e : S.p = 3
  · rw [if_pos e, if_pos e]
    have e1 : ((S.p : Int) == 3) = true := by rw [e]; rfl
    have HS := Lib.hid (DtP.set h 2 (by omega))
    clear h e
    go_enter Tryd.func16, Tryd.ntmps16
    go_wp2
    go_ret
    exact ⟨rfl, HS.out⟩
  · rw [if_neg e, if_neg e]
    have e1 : ((S.p : Int) == 3) = false := by rw [beq_eq_false_iff_ne]; omega
    by_cases e4 : S.p = 4
    · rw [if_pos e4, if_pos e4]
      have e2 : ((S.p : Int) == 4) = true := by rw [e4]; rfl
      have HS := Lib.hid (DtP.set h 5 (by omega))
      clear h e e4
      go_enter Tryd.func16, Tryd.ntmps16
      go_wp2
      go_ret
      exact ⟨rfl, HS.out⟩
    · rw [if_neg e4, if_neg e4]
      have e2 : ((S.p : Int) == 4) = false := by rw [beq_eq_false_iff_ne]; omega
      have HS := Lib.hid (DtP.refl h)
      clear h e e4
      go_enter Tryd.func16, Tryd.ntmps16
      go_wp2
      go_ret
      exact ⟨rfl, HS.out⟩
end
theorem valL_drop (key : Tx) (ks vs : List Tx) (k : Nat) (h1 : k < ks.length) (h2 : k < vs.length) : valL key (ks.drop k) (vs.drop k) = if ks[k] = key then vs[k] else valL key (ks.drop (k + 1)) (vs.drop (k + 1)) := by
  rw [List.drop_eq_getElem_cons h1, List.drop_eq_getElem_cons h2]; rfl
theorem valL_end (key : Tx) (ks vs : List Tx) (k : Nat) (h : ks.length ≤ k ∨ vs.length ≤ k) : valL key (ks.drop k) (vs.drop k) = e0 := by
  rcases h with h | h
  · rw [List.drop_of_length_le h]; unfold valL; rfl
  · rw [List.drop_of_length_le h]
    cases ks.drop k <;> rfl
set_option maxHeartbeats 4000000 in
theorem rval_any (v : Value) (a : Ak) (key : Tx) (w : World) {z9 : Nat} (hA : AkR z9 w v a) (hl : Lt a) :
    Calls Tryd.prog 35 #[v, .string key] w fun e w' => e = .returned (.string (valL key a.ks a.vs)) ∧ Below w.heap.size w w' := by
  obtain ⟨n, po, sq, kv, vv, av, nv, fv, m, wh, pid, sec, rfl, hk, hv, hz, ⟨A3, n3, c3, rfl⟩, ⟨A4, n4, c4, rfl⟩, ⟨A5, n5, c5, rfl⟩⟩ := hA
  obtain ⟨A1, c1, rfl⟩ := hk.ts.form
  obtain ⟨A2, c2, rfl⟩ := hv.ts.form
  obtain ⟨ak, hak⟩ : ∃ x, a.k = x := ⟨_, rfl⟩
  obtain ⟨ac, hac⟩ : ∃ x, a.c = x := ⟨_, rfl⟩
  obtain ⟨n1, hn1⟩ : ∃ x, a.ks.length = x := ⟨_, rfl⟩
  obtain ⟨n2, hn2⟩ : ∃ x, a.vs.length = x := ⟨_, rfl⟩
  rw [hak, hac, hn1, hn2]
  rw [hn1] at hk
  rw [hn2] at hv
  obtain ⟨W1, hW1⟩ : ∃ W, w.alloc (.cells #[.int .u8 ak, .string n, .string po, .string sq, .slice A1 n1 c1, .slice A2 n2 c2, .slice A3 n3 c3, .slice A4 n4 c4, .slice A5 n5 c5, nV m, .int .u8 wh, .bool ac, nV pid, nV sec] 32) = W := ⟨_, rfl⟩
  obtain ⟨q, hq⟩ : ∃ b, w.heap.size = b := ⟨_, rfl⟩
  have hb1 : Below w.heap.size w W1 := by rw [← hW1]; exact (Below.refl _ _).alloc (Nat.le_refl _) _
  have k1 : Bk W1 q 32 #[.int .u8 ak, .string n, .string po, .string sq, .slice A1 n1 c1, .slice A2 n2 c2, .slice A3 n3 c3, .slice A4 n4 c4, .slice A5 n5 c5, nV m, .int .u8 wh, .bool ac, nV pid, nV sec] := by rw [← hW1, ← hq]; exact Bk.new _ _ _
  have x0 := k1.cell 0
  have x1 := k1.cell 1
  have x2 := k1.cell 2
  have x3 := k1.cell 3
  have x4 := k1.cell 4
  have x5 := k1.cell 5
  have x6 := k1.cell 6
  have x7 := k1.cell 7
  have x8 := k1.cell 8
  have x9 := k1.cell 9
  have x10 := k1.cell 10
  have x11 := k1.cell 11
  have x12 := k1.cell 12
  have x13 := k1.cell 13
  simp at x0 x1 x2 x3 x4 x5 x6 x7 x8 x9 x10 x11 x12 x13
  have hA1 : AkR z9 W1 (.agg #[.int .u8 ak, .string n, .string po, .string sq, .slice A1 n1 c1, .slice A2 n2 c2, .slice A3 n3 c3, .slice A4 n4 c4, .slice A5 n5 c5, nV m, .int .u8 wh, .bool ac, nV pid, nV sec]) a := ⟨n, po, sq, _, _, _, _, _, m, wh, pid, sec, by rw [hak, hac], hk.below hb1, hv.below hb1, hz, ⟨_, _, _, rfl⟩, ⟨_, _, _, rfl⟩, ⟨_, _, _, rfl⟩⟩
  have HB1 := Lib.hid hb1
  obtain ⟨R, hR⟩ : ∃ R, valL key a.ks a.vs = R := ⟨_, rfl⟩
  rw [hR]
  have hln : n1 ≤ 30 ∧ n2 ≤ 30 := by rw [← hn1, ← hn2]; exact hl
  have HK := Lib.hid (hk.below hb1).ts
  have HV := Lib.hid (hv.below hb1).ts
  have HR := Lib.hid hR
  have HL1 := Lib.hid hn1
  have HL2 := Lib.hid hn2
  have HLN := Lib.hid hln
  have HQ := Lib.hid hq
  clear hA1 hk hv hz k1 hb1 hl hR hn1 hn2 hln x0 x1 x2 x3 x6 x7 x8 x9 x10 x11 x12 x13 hak hac
  go_enter Tryd.func35, Tryd.ntmps35
  go_wp2
  go_loopg [5] 30 (fun g u5 wx => ∃ k : Nat, u5 = nV (k : Int) ∧ k + g = 30 ∧ Hid (valL key (a.ks.drop k) (a.vs.drop k) = R) ∧ W1 = wx)
  case atStart => exact ⟨0, rfl, by omega, Lib.hid (by rw [List.drop_zero, List.drop_zero]; exact HR.out), rfl⟩
  case round =>
    obtain ⟨k, rfl, hkg, HD, rfl⟩ := hrel
    by_cases h1 : k < n1
    · have l1 : (k : Int) < (n1 : Int) := by omega
      by_cases h2 : k < n2
      · have l2 : (k : Int) < (n2 : Int) := by omega
        have l0 : (0 : Int) ≤ (k : Int) := by omega
        obtain ⟨g, rfl⟩ : ∃ g, gk = g + 1 := ⟨gk - 1, by have := HLN.out; omega⟩
        have hd := HD.out
        have h1' : k < a.ks.length := by rw [HL1.out]; exact h1
        have h2' : k < a.vs.length := by rw [HL2.out]; exact h2
        rw [valL_drop key _ _ k h1' h2'] at hd
        obtain ⟨b1, o1, q1, he1, hc1, hx1⟩ := HK.out.inv (by omega)
        rw [HL1.out] at he1 hc1
        injection he1 with f1 _ f3
        subst f1 f3
        obtain ⟨b2, o2, q2, he2, hc2, hx2⟩ := HV.out.inv (by omega)
        rw [HL2.out] at he2 hc2
        injection he2 with f1 _ f3
        subst f1 f3
        have y1 := hx1 k _ (List.getElem?_eq_getElem h1')
        have y2 := hx2 k _ (List.getElem?_eq_getElem h2')
        obtain ⟨kx, hkx⟩ : ∃ x, a.ks[k] = x := ⟨_, rfl⟩
        obtain ⟨vx, hvx⟩ : ∃ x, a.vs[k] = x := ⟨_, rfl⟩
        rw [hkx] at y1 hd
        rw [hvx] at y2 hd
        have htl := tl_dec kx key
        obtain ⟨k2, hk2⟩ : ∃ k2, k + 1 = k2 := ⟨_, rfl⟩
        have wk : IntKind.i64.wrap ((k : Int) + 1) = (k2 : Int) := by rw [show (k : Int) + 1 = (k2 : Int) by omega]; exact IntWalk.i64_in _ (by have := HLN.out; omega)
        have HK2 := Lib.hid hk2
        rw [hk2] at hd
        clear hx1 hx2 hkx hvx h1' h2' HK HV hc1 hc2 hk2 HD
        by_cases e : kx = key
        · rw [if_pos e] at hd
          have ht2 : (kx.toList == key.toList) = true := by rw [htl, e]; simp
          have HE := Lib.hid hd
          clear htl e hd h1 h2 hkg
          go_wp2
          go_ret
          rw [← HE.out]
          exact ⟨rfl, by first | exact HB1.out | (rw [← HQ.out]; exact HB1.out)⟩
        · rw [if_neg e] at hd
          have ht2 : (kx.toList == key.toList) = false := by rw [htl]; simp [e]
          have HE := Lib.hid hd
          clear htl e hd h1 h2
          go_wp2
          go_roundg g
          case measure => exact Nat.lt_succ_self _
          case rel => exact ⟨k2, rfl, by have := HK2.out; omega, HE, rfl⟩
      · have l2 : ¬ (k : Int) < (n2 : Int) := by omega
        have hd := HD.out
        rw [valL_end key _ _ k (.inr (by rw [HL2.out]; omega))] at hd
        have HE := Lib.hid hd
        clear hd HD h1 h2 hkg HK HV
        go_wp2
        go_ret
        rw [← HE.out]
        exact ⟨rfl, by first | exact HB1.out | (rw [← HQ.out]; exact HB1.out)⟩
    · have l1 : ¬ (k : Int) < (n1 : Int) := by omega
      have hd := HD.out
      rw [valL_end key _ _ k (.inl (by rw [HL1.out]; omega))] at hd
      have HE := Lib.hid hd
      clear hd HD h1 hkg HK HV
      go_wp2
      go_ret
      rw [← HE.out]
      exact ⟨rfl, by first | exact HB1.out | (rw [← HQ.out]; exact HB1.out)⟩
end Go.Proofs.YtpnjjllkbnmakaaDoor.SE
