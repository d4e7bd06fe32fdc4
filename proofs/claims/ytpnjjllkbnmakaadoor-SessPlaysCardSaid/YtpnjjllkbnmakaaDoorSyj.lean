/- SessOver's walk. Condition: what is laid. -/
import Derived.Test.YtpnjjllkbnmakaaDoorSyi
namespace Go.Proofs.YtpnjjllkbnmakaaDoor.SE
open Go.ChangeShapes Go.WideShapes Go.ChangeAt Go.RowKit
open Go.Proofs.YtpnjjllkbnmakaaDoor.SL
set_option maxRecDepth 100000
set_option linter.unusedVariables false
set_option linter.unusedSimpArgs false

theorem ls_acc2 {W w : World} {a : Nat} {S : St} (h : LS W w a S) (b : Bool) (S' : St) (x : Int) (hS : accS b S = S') (hx : accE b S = x) : Calls Tryd.prog 11 #[ptr a, .bool b] w fun e w' => e = .returned (nV x) ∧ LS W w' a S' ∧ Chg (fun b => b = a) w w' := by
  subst hS hx; exact ls_acc h b
theorem ls_step2 {W w : World} {a : Nat} {S : St} (hW : LW W) (h : LS W w a S) (v : Value) (k : Ak) (hA : AkR a w v k) (hl : Lt k) (S' : St) (d x : Int) (hS : stepS S k = S') (hd : stepD S k = d) (hx : stepE S k = x) : Calls Tryd.prog 9 #[ptr a, v] w fun e w' => e = .returned (.tuple #[nV d, nV x]) ∧ LS W w' a S' ∧ Chg (fun b => b = a) w w' := by
  subst hS hd hx; exact ls_step hW h v k hA hl
theorem rules_late : ∀ l ∈ rulesT.drop 2, l ≠ [] ∧ ∀ r ∈ l, r.2.1 ≠ 1 ∧ 2 ≤ r.2.2.1 := by decide
theorem late_rule (p : Nat) (h2 : 2 ≤ p) (h7 : p < 7) (n : Int) : (ruleP p n).2.1 ≠ 1 ∧ 2 ≤ (ruleP p n).2.2.1 := by
  have h1 : (rulesT.drop 2)[p - 2]? = some (rulesT.getD p []) := by
    rw [List.getElem?_drop, show 2 + (p - 2) = p by omega]; exact rules_at p h7
  obtain ⟨h3, h4⟩ := rules_late _ (List.mem_of_getElem? h1)
  exact h4 _ (ruleL_mem n _ h3)
/-- a session that is ready keeps its user -/
theorem late_step (p : Nat) (h2 : 2 ≤ p) (h7 : p < 7) (u d : Tx) (k : Ak) : ∃ p', 2 ≤ p' ∧ p' < 7 ∧ stepS ⟨p, u, d⟩ k = ⟨p', u, d⟩ := by
  have h3 := late_rule p h2 h7 (saidN k)
  have h4 := ruleP_then p h7 (saidN k)
  refine ⟨(ruleP p (saidN k)).2.2.1.toNat, by omega, by omega, ?_⟩
  unfold stepS
  rw [if_neg h3.1]
/-- the end ends it -/
theorem late_end : ∀ p, 2 ≤ p → p < 7 → stepS (donS ⟨p, uT, uT⟩) (kA 88) = ⟨6, uT, uT⟩ := by
  intro p h2 h7
  match p, h2, h7 with
  | 2, _, _ => rfl
  | 3, _, _ => rfl
  | 4, _, _ => rfl
  | 5, _, _ => rfl
  | 6, _, _ => rfl
theorem over_step (k : Ak) : stepS ⟨6, uT, uT⟩ k = ⟨6, uT, uT⟩ ∧ stepD ⟨6, uT, uT⟩ k = 0 ∧ stepE ⟨6, uT, uT⟩ k = 10 := ⟨rfl, rfl, rfl⟩
set_option maxHeartbeats 16000000 in
theorem over_law (v1 v2 : Value) (W : World) (hf1 : FitsOp W v1) (hf2 : FitsOp W v2) (hW : LW W) :
    Calls Tryd.prog 4 #[v1, v2] W fun e w' => e = .returned (.bool true) ∧ Below W.heap.size W w' := by
  obtain ⟨l1, hx⟩ := hf1
  obtain ⟨l2, hy⟩ := hf2
  obtain ⟨A1, cp1, rfl⟩ := hx.form
  obtain ⟨A2, cp2, rfl⟩ := hy.form
  have HW := Lib.hid hW
  have HX := Lib.hid hx
  have HZ := Lib.hid hy
  have HR := Lib.hid (ready_any W hW)
  obtain ⟨N1, hN1⟩ : ∃ N, l1.length = N := ⟨_, rfl⟩
  obtain ⟨N2, hN2⟩ : ∃ N, l2.length = N := ⟨_, rfl⟩
  have HN1 := Lib.hid hN1
  have HN2 := Lib.hid hN2
  rw [hN1, hN2]
  clear hx hy hW hN1 hN2
  go_enter Tryd.func4, Tryd.ntmps4
  go_wp2_with fail
  refine HR.out.mono ?_
  rintro e w1 ⟨a, rfl, h1⟩
  have H := Lib.hid h1
  clear h1 HR
  go_wp2_with fail
  go_loopg [6] 30 (fun g u6 wx => ∃ k p : Nat, u6 = nV (k : Int) ∧ k + g = 30 ∧ Hid (2 ≤ p ∧ p < 7) ∧ Hid (LS W wx a ⟨p, uT, uT⟩))
  case atStart => exact ⟨0, 2, rfl, by omega, Lib.hid ⟨by omega, by omega⟩, H⟩
  case round =>
    obtain ⟨k, p, rfl, hk, HP, H⟩ := hrel
    by_cases hin : k < N1 ∧ k < 30
    · skip
      obtain ⟨hin1, hin2⟩ := hin
      obtain ⟨g, rfl⟩ : ∃ g, gk = g + 1 := ⟨gk - 1, by omega⟩
      have hlt2 : k < l1.length := by have := HN1.out; omega
      obtain ⟨b1, o1, q1, he1, hc1, hx1⟩ := HX.out.inv (by omega)
      rw [HN1.out] at he1 hc1
      injection he1 with f1 _ f3
      subst f1 f3
      obtain ⟨o, ho⟩ : ∃ o, l1[k]? = some o := ⟨_, List.getElem?_eq_getElem hlt2⟩
      obtain ⟨hB, hcc⟩ := hx1 k o ho
      obtain ⟨ok, ⟨ak, ks, vs, ac⟩, ⟨n, po, sq, kv, vv, av, nv, fv, m, wh, pid, sec⟩, og⟩ := o
      have hB2 := hB
      obtain ⟨hk1, hv1, hz1, ⟨⟨A3, n3, c3, e3⟩, ⟨A4, n4, c4, e4⟩, ⟨A5, n5, c5, e5⟩⟩, hlk, hlv⟩ := hB
      simp only at hk1 hv1 e3 e4 e5 hlk hlv
      subst e3 e4 e5
      obtain ⟨A1, c1, e1⟩ := hk1.form
      obtain ⟨A2, c2, e2⟩ := hv1.form
      subst e1 e2
      have HLN : Hid (ks.length ≤ 9223372036854775807 ∧ vs.length ≤ 9223372036854775807) := Lib.hid ⟨hlk, hlv⟩
      have AK : Hid (∀ (z : Nat) (w : World), W.heap.size ≤ z → Below W.heap.size W w → AkR z w (.agg #[.int .u8 ak, .string n, .string po, .string sq, .slice A1 ks.length c1, .slice A2 vs.length c2, .slice A3 n3 c3, .slice A4 n4 c4, .slice A5 n5 c5, nV m, .int .u8 wh, .bool ac, nV pid, nV sec]) ⟨ak, ks, vs, ac⟩) := Lib.hid fun z w hz hb => hB2.akr hb hz
      have HY : Hid (∀ (w : World), Below W.heap.size W w → w.cell? ⟨b1, o1 + k * 16, none⟩ = some (nV ok) ∧ w.cell? ⟨b1, o1 + k * 16 + 1, none⟩ = some (.int .u8 ak) ∧ w.cell? ⟨b1, o1 + k * 16 + 2, none⟩ = some (.string n) ∧ w.cell? ⟨b1, o1 + k * 16 + 3, none⟩ = some (.string po) ∧ w.cell? ⟨b1, o1 + k * 16 + 4, none⟩ = some (.string sq) ∧ w.cell? ⟨b1, o1 + k * 16 + 5, none⟩ = some (.slice A1 ks.length c1) ∧ w.cell? ⟨b1, o1 + k * 16 + 6, none⟩ = some (.slice A2 vs.length c2) ∧ w.cell? ⟨b1, o1 + k * 16 + 7, none⟩ = some (.slice A3 n3 c3) ∧ w.cell? ⟨b1, o1 + k * 16 + 8, none⟩ = some (.slice A4 n4 c4) ∧ w.cell? ⟨b1, o1 + k * 16 + 9, none⟩ = some (.slice A5 n5 c5) ∧ w.cell? ⟨b1, o1 + k * 16 + 10, none⟩ = some (nV m) ∧ w.cell? ⟨b1, o1 + k * 16 + 11, none⟩ = some (.int .u8 wh) ∧ w.cell? ⟨b1, o1 + k * 16 + 12, none⟩ = some (.bool ac) ∧ w.cell? ⟨b1, o1 + k * 16 + 13, none⟩ = some (nV pid) ∧ w.cell? ⟨b1, o1 + k * 16 + 14, none⟩ = some (nV sec) ∧ w.cell? ⟨b1, o1 + k * 16 + 15, none⟩ = some (.bool og)) := Lib.hid fun w hb => by
        have c : ∀ (j : Nat) (u : Value), (opC ⟨ok, ⟨ak, ks, vs, ac⟩, ⟨n, po, sq, .slice A1 ks.length c1, .slice A2 vs.length c2, .slice A3 n3 c3, .slice A4 n4 c4, .slice A5 n5 c5, m, wh, pid, sec⟩, og⟩)[j]? = some u → w.cell? ⟨b1, o1 + k * 16 + j, none⟩ = some u := fun j u hu => (hb.cell (p := ⟨b1, o1 + k * 16 + j, none⟩) (World.block_lt_of_cell? W _ (hcc j u hu))).trans (hcc j u hu)
        exact ⟨c 0 _ rfl, c 1 _ rfl, c 2 _ rfl, c 3 _ rfl, c 4 _ rfl, c 5 _ rfl, c 6 _ rfl, c 7 _ rfl, c 8 _ rfl, c 9 _ rfl, c 10 _ rfl, c 11 _ rfl, c 12 _ rfl, c 13 _ rfl, c 14 _ rfl, c 15 _ rfl⟩
      clear hx1 ho hcc hB2 hk1 hv1 hz1 hlk hlv
      have m0 : (0 : Int) ≤ (k : Int) := by omega
      have m1 : (k : Int) < (N1 : Int) := by omega
      have m2 : (k : Int) < 30 := by omega
      obtain ⟨k1, hk1⟩ : ∃ k1, k + 1 = k1 := ⟨_, rfl⟩
      have wk : IntKind.i64.wrap ((k : Int) + 1) = (k1 : Int) := by rw [show (k : Int) + 1 = (k1 : Int) by omega]; exact IntWalk.i64_in _ (by omega)
      have HK1 := Lib.hid hk1
      have HLI := Lib.hid (light_any _ ⟨ak, ks, vs, ac⟩ wr (AK.out W.heap.size wr (Nat.le_refl _) H.out.1) HLN.out.1 HLN.out.2)
      obtain ⟨x0, x1, x2, x3, x4, x5, x6, x7, x8, x9, x10, x11, x12, x13, x14, x15⟩ := HY.out _ H.out.1
      clear hk1 hin1 hlt2 hc1
      by_cases hlt : Lt ⟨ak, ks, vs, ac⟩
      · rw [decide_eq_true hlt] at HLI
        have HLT := Lib.hid hlt
        clear hlt
        by_cases hk0 : ok = 0
        · subst hk0
          go_wp2_with fail
          refine HLI.out.mono ?_
          rintro e w2 ⟨rfl, hb⟩
          have H := Lib.hid (H.out.below hb)
          clear hb HLI x0 x1 x2 x3 x4 x5 x6 x7 x8 x9 x10 x11 x12 x13 x14 x15
          obtain ⟨x0, x1, x2, x3, x4, x5, x6, x7, x8, x9, x10, x11, x12, x13, x14, x15⟩ := HY.out _ H.out.1
          go_wp2_with fail
          refine (ls_step HW.out H.out _ ⟨ak, ks, vs, ac⟩ (AK.out a _ H.out.2.1 H.out.1) HLT.out).mono ?_
          rintro e w3 ⟨rfl, hs, _⟩
          obtain ⟨p', h2', h7', hp'⟩ := late_step p HP.out.1 HP.out.2 uT uT ⟨ak, ks, vs, ac⟩
          rw [hp'] at hs
          have H := Lib.hid hs
          have HP : Hid (2 ≤ p' ∧ p' < 7) := Lib.hid ⟨h2', h7'⟩
          clear hs hp' h2' h7' x0 x1 x2 x3 x4 x5 x6 x7 x8 x9 x10 x11 x12 x13 x14 x15
          go_wp2_with fail
          refine (user_any H.out.2.2).mono ?_
          rintro e wx ⟨rfl, rfl⟩
          go_wp2_with fail
          refine (db_any H.out.2.2).mono ?_
          rintro e wx ⟨rfl, rfl⟩
          go_wp2
          go_roundg g
          case measure => exact Nat.lt_succ_self _
          case rel => exact ⟨k1, _, rfl, by have := HK1.out; omega, HP, H⟩
        · have e0 : (ok == 0) = false := by rw [beq_eq_false_iff_ne]; exact hk0
          go_wp2_with fail
          refine HLI.out.mono ?_
          rintro e w2 ⟨rfl, hb⟩
          have H := Lib.hid (H.out.below hb)
          clear hb HLI x0 x1 x2 x3 x4 x5 x6 x7 x8 x9 x10 x11 x12 x13 x14 x15
          obtain ⟨x0, x1, x2, x3, x4, x5, x6, x7, x8, x9, x10, x11, x12, x13, x14, x15⟩ := HY.out _ H.out.1
          go_wp2_with fail
          refine (user_any H.out.2.2).mono ?_
          rintro e wx ⟨rfl, rfl⟩
          go_wp2_with fail
          refine (db_any H.out.2.2).mono ?_
          rintro e wx ⟨rfl, rfl⟩
          go_wp2
          go_roundg g
          case measure => exact Nat.lt_succ_self _
          case rel => exact ⟨k1, _, rfl, by have := HK1.out; omega, HP, H⟩
      · rw [decide_eq_false hlt] at HLI
        clear hlt
        go_wp2_with fail
        refine HLI.out.mono ?_
        rintro e w2 ⟨rfl, hb⟩
        have H := Lib.hid (H.out.below hb)
        clear hb HLI x0 x1 x2 x3 x4 x5 x6 x7 x8 x9 x10 x11 x12 x13 x14 x15
        obtain ⟨x0, x1, x2, x3, x4, x5, x6, x7, x8, x9, x10, x11, x12, x13, x14, x15⟩ := HY.out _ H.out.1
        go_wp2_with fail
        refine (user_any H.out.2.2).mono ?_
        rintro e wx ⟨rfl, rfl⟩
        go_wp2_with fail
        refine (db_any H.out.2.2).mono ?_
        rintro e wx ⟨rfl, rfl⟩
        go_wp2
        go_roundg g
        case measure => exact Nat.lt_succ_self _
        case rel => exact ⟨k1, _, rfl, by have := HK1.out; omega, HP, H⟩
    · have hout : ¬ (k : Int) < (N1 : Int) ∨ ((k : Int) < (N1 : Int) ∧ ¬ (k : Int) < 30) := by omega
      clear hin hk
      rcases hout with m1 | ⟨m1, m2⟩
      · skip
        go_wp2_with fail
        refine (ls_don H.out).mono ?_
        rintro e w4 ⟨rfl, hs, _⟩
        have H := Lib.hid hs
        clear hs
        go_wp2_with fail
        refine (ls_step HW.out H.out _ (kA 88) (kR _ _ _) (kL _)).mono ?_
        rintro e w5 ⟨rfl, hs, _⟩
        rw [late_end p HP.out.1 HP.out.2] at hs
        have H := Lib.hid hs
        clear hs HP
        go_wp2_with fail
        go_loopg [7] 30 (fun g u7 wx => ∃ k : Nat, u7 = nV (k : Int) ∧ k + g = 30 ∧ Hid (LS W wx a ⟨6, uT, uT⟩))
        case atStart => exact ⟨0, rfl, by omega, H⟩
        case round =>
          obtain ⟨k, rfl, hk, H⟩ := hrel
          by_cases hin : k < N2 ∧ k < 30
          · skip
            obtain ⟨hin1, hin2⟩ := hin
            obtain ⟨g, rfl⟩ : ∃ g, gk = g + 1 := ⟨gk - 1, by omega⟩
            have hlt2 : k < l2.length := by have := HN2.out; omega
            obtain ⟨b1, o1, q1, he1, hc1, hx1⟩ := HZ.out.inv (by omega)
            rw [HN2.out] at he1 hc1
            injection he1 with f1 _ f3
            subst f1 f3
            obtain ⟨o, ho⟩ : ∃ o, l2[k]? = some o := ⟨_, List.getElem?_eq_getElem hlt2⟩
            obtain ⟨hB, hcc⟩ := hx1 k o ho
            obtain ⟨ok, ⟨ak, ks, vs, ac⟩, ⟨n, po, sq, kv, vv, av, nv, fv, m, wh, pid, sec⟩, og⟩ := o
            have hB2 := hB
            obtain ⟨hk1, hv1, hz1, ⟨⟨A3, n3, c3, e3⟩, ⟨A4, n4, c4, e4⟩, ⟨A5, n5, c5, e5⟩⟩, hlk, hlv⟩ := hB
            simp only at hk1 hv1 e3 e4 e5 hlk hlv
            subst e3 e4 e5
            obtain ⟨A1, c1, e1⟩ := hk1.form
            obtain ⟨A2, c2, e2⟩ := hv1.form
            subst e1 e2
            have HLN : Hid (ks.length ≤ 9223372036854775807 ∧ vs.length ≤ 9223372036854775807) := Lib.hid ⟨hlk, hlv⟩
            have AK : Hid (∀ (z : Nat) (w : World), W.heap.size ≤ z → Below W.heap.size W w → AkR z w (.agg #[.int .u8 ak, .string n, .string po, .string sq, .slice A1 ks.length c1, .slice A2 vs.length c2, .slice A3 n3 c3, .slice A4 n4 c4, .slice A5 n5 c5, nV m, .int .u8 wh, .bool ac, nV pid, nV sec]) ⟨ak, ks, vs, ac⟩) := Lib.hid fun z w hz hb => hB2.akr hb hz
            have HY : Hid (∀ (w : World), Below W.heap.size W w → w.cell? ⟨b1, o1 + k * 16, none⟩ = some (nV ok) ∧ w.cell? ⟨b1, o1 + k * 16 + 1, none⟩ = some (.int .u8 ak) ∧ w.cell? ⟨b1, o1 + k * 16 + 2, none⟩ = some (.string n) ∧ w.cell? ⟨b1, o1 + k * 16 + 3, none⟩ = some (.string po) ∧ w.cell? ⟨b1, o1 + k * 16 + 4, none⟩ = some (.string sq) ∧ w.cell? ⟨b1, o1 + k * 16 + 5, none⟩ = some (.slice A1 ks.length c1) ∧ w.cell? ⟨b1, o1 + k * 16 + 6, none⟩ = some (.slice A2 vs.length c2) ∧ w.cell? ⟨b1, o1 + k * 16 + 7, none⟩ = some (.slice A3 n3 c3) ∧ w.cell? ⟨b1, o1 + k * 16 + 8, none⟩ = some (.slice A4 n4 c4) ∧ w.cell? ⟨b1, o1 + k * 16 + 9, none⟩ = some (.slice A5 n5 c5) ∧ w.cell? ⟨b1, o1 + k * 16 + 10, none⟩ = some (nV m) ∧ w.cell? ⟨b1, o1 + k * 16 + 11, none⟩ = some (.int .u8 wh) ∧ w.cell? ⟨b1, o1 + k * 16 + 12, none⟩ = some (.bool ac) ∧ w.cell? ⟨b1, o1 + k * 16 + 13, none⟩ = some (nV pid) ∧ w.cell? ⟨b1, o1 + k * 16 + 14, none⟩ = some (nV sec) ∧ w.cell? ⟨b1, o1 + k * 16 + 15, none⟩ = some (.bool og)) := Lib.hid fun w hb => by
              have c : ∀ (j : Nat) (u : Value), (opC ⟨ok, ⟨ak, ks, vs, ac⟩, ⟨n, po, sq, .slice A1 ks.length c1, .slice A2 vs.length c2, .slice A3 n3 c3, .slice A4 n4 c4, .slice A5 n5 c5, m, wh, pid, sec⟩, og⟩)[j]? = some u → w.cell? ⟨b1, o1 + k * 16 + j, none⟩ = some u := fun j u hu => (hb.cell (p := ⟨b1, o1 + k * 16 + j, none⟩) (World.block_lt_of_cell? W _ (hcc j u hu))).trans (hcc j u hu)
              exact ⟨c 0 _ rfl, c 1 _ rfl, c 2 _ rfl, c 3 _ rfl, c 4 _ rfl, c 5 _ rfl, c 6 _ rfl, c 7 _ rfl, c 8 _ rfl, c 9 _ rfl, c 10 _ rfl, c 11 _ rfl, c 12 _ rfl, c 13 _ rfl, c 14 _ rfl, c 15 _ rfl⟩
            clear hx1 ho hcc hB2 hk1 hv1 hz1 hlk hlv
            have m0 : (0 : Int) ≤ (k : Int) := by omega
            have m1 : (k : Int) < (N2 : Int) := by omega
            have m2 : (k : Int) < 30 := by omega
            obtain ⟨k1, hk1⟩ : ∃ k1, k + 1 = k1 := ⟨_, rfl⟩
            have wk : IntKind.i64.wrap ((k : Int) + 1) = (k1 : Int) := by rw [show (k : Int) + 1 = (k1 : Int) by omega]; exact IntWalk.i64_in _ (by omega)
            have HK1 := Lib.hid hk1
            have HLI := Lib.hid (light_any _ ⟨ak, ks, vs, ac⟩ wr (AK.out W.heap.size wr (Nat.le_refl _) H.out.1) HLN.out.1 HLN.out.2)
            obtain ⟨x0, x1, x2, x3, x4, x5, x6, x7, x8, x9, x10, x11, x12, x13, x14, x15⟩ := HY.out _ H.out.1
            clear hk1 hin1 hlt2 hc1
            by_cases hlt : Lt ⟨ak, ks, vs, ac⟩
            · rw [decide_eq_true hlt] at HLI
              have HLT := Lib.hid hlt
              clear hlt
              go_wp2_with fail
              refine HLI.out.mono ?_
              rintro e w7 ⟨rfl, hb⟩
              have H := Lib.hid (H.out.below hb)
              clear hb HLI x0 x1 x2 x3 x4 x5 x6 x7 x8 x9 x10 x11 x12 x13 x14 x15
              obtain ⟨x0, x1, x2, x3, x4, x5, x6, x7, x8, x9, x10, x11, x12, x13, x14, x15⟩ := HY.out _ H.out.1
              go_wp2_with fail
              refine (ls_step2 HW.out H.out _ ⟨ak, ks, vs, ac⟩ (AK.out a _ H.out.2.1 H.out.1) HLT.out ⟨6, uT, uT⟩ 0 10 rfl rfl rfl).mono ?_
              rintro e w8 ⟨rfl, hs, _⟩
              have H := Lib.hid hs
              clear hs x0 x1 x2 x3 x4 x5 x6 x7 x8 x9 x10 x11 x12 x13 x14 x15
              go_wp2_with fail
              refine (ls_acc2 H.out true ⟨6, uT, uT⟩ 10 rfl rfl).mono ?_
              rintro e w9 ⟨rfl, hs, _⟩
              have H : Hid (LS W w9 a ⟨6, uT, uT⟩) := Lib.hid hs
              clear hs
              go_wp2_with fail
              refine (ls_don2 H.out ⟨6, uT, uT⟩ 10 rfl rfl).mono ?_
              rintro e w10 ⟨rfl, hs, _⟩
              have H : Hid (LS W w10 a ⟨6, uT, uT⟩) := Lib.hid hs
              clear hs
              go_wp2_with fail
              refine (ls_fai2 H.out ⟨6, uT, uT⟩ 10 rfl rfl).mono ?_
              rintro e w11 ⟨rfl, hs, _⟩
              have H : Hid (LS W w11 a ⟨6, uT, uT⟩) := Lib.hid hs
              clear hs
              go_wp2_with fail
              refine (ls_phase H.out 6 rfl).mono ?_
              rintro e wx ⟨rfl, rfl⟩
              go_wp2
              go_roundg g
              case measure => exact Nat.lt_succ_self _
              case rel => exact ⟨k1, rfl, by have := HK1.out; omega, H⟩
            · rw [decide_eq_false hlt] at HLI
              clear hlt
              go_wp2_with fail
              refine HLI.out.mono ?_
              rintro e w7 ⟨rfl, hb⟩
              have H := Lib.hid (H.out.below hb)
              clear hb HLI x0 x1 x2 x3 x4 x5 x6 x7 x8 x9 x10 x11 x12 x13 x14 x15
              obtain ⟨x0, x1, x2, x3, x4, x5, x6, x7, x8, x9, x10, x11, x12, x13, x14, x15⟩ := HY.out _ H.out.1
              go_wp2
              go_roundg g
              case measure => exact Nat.lt_succ_self _
              case rel => exact ⟨k1, rfl, by have := HK1.out; omega, H⟩
          · have hout : ¬ (k : Int) < (N2 : Int) ∨ ((k : Int) < (N2 : Int) ∧ ¬ (k : Int) < 30) := by omega
            clear hin hk HX HZ
            rcases hout with m1 | ⟨m1, m2⟩
            · skip
              go_wp2_with fail
              refine (ls_phase H.out 6 rfl).mono ?_
              rintro e wx ⟨rfl, rfl⟩
              go_wp2_with fail
              refine (known_any _ (HW.out.below H.out.1)).mono ?_
              rintro e w12 ⟨rfl, hb⟩
              have HF : Hid (Below W.heap.size W w12) := Lib.hid (H.out.1.trans (hb.mono H.out.1.size))
              clear hb
              go_wp2
              go_ret
              exact ⟨rfl, HF.out⟩
            · skip
              go_wp2_with fail
              refine (ls_phase H.out 6 rfl).mono ?_
              rintro e wx ⟨rfl, rfl⟩
              go_wp2_with fail
              refine (known_any _ (HW.out.below H.out.1)).mono ?_
              rintro e w12 ⟨rfl, hb⟩
              have HF : Hid (Below W.heap.size W w12) := Lib.hid (H.out.1.trans (hb.mono H.out.1.size))
              clear hb
              go_wp2
              go_ret
              exact ⟨rfl, HF.out⟩
      · skip
        go_wp2_with fail
        refine (ls_don H.out).mono ?_
        rintro e w4 ⟨rfl, hs, _⟩
        have H := Lib.hid hs
        clear hs
        go_wp2_with fail
        refine (ls_step HW.out H.out _ (kA 88) (kR _ _ _) (kL _)).mono ?_
        rintro e w5 ⟨rfl, hs, _⟩
        rw [late_end p HP.out.1 HP.out.2] at hs
        have H := Lib.hid hs
        clear hs HP
        go_wp2_with fail
        go_loopg [7] 30 (fun g u7 wx => ∃ k : Nat, u7 = nV (k : Int) ∧ k + g = 30 ∧ Hid (LS W wx a ⟨6, uT, uT⟩))
        case atStart => exact ⟨0, rfl, by omega, H⟩
        case round =>
          obtain ⟨k, rfl, hk, H⟩ := hrel
          by_cases hin : k < N2 ∧ k < 30
          · skip
            obtain ⟨hin1, hin2⟩ := hin
            obtain ⟨g, rfl⟩ : ∃ g, gk = g + 1 := ⟨gk - 1, by omega⟩
            have hlt2 : k < l2.length := by have := HN2.out; omega
            obtain ⟨b1, o1, q1, he1, hc1, hx1⟩ := HZ.out.inv (by omega)
            rw [HN2.out] at he1 hc1
            injection he1 with f1 _ f3
            subst f1 f3
            obtain ⟨o, ho⟩ : ∃ o, l2[k]? = some o := ⟨_, List.getElem?_eq_getElem hlt2⟩
            obtain ⟨hB, hcc⟩ := hx1 k o ho
            obtain ⟨ok, ⟨ak, ks, vs, ac⟩, ⟨n, po, sq, kv, vv, av, nv, fv, m, wh, pid, sec⟩, og⟩ := o
            have hB2 := hB
            obtain ⟨hk1, hv1, hz1, ⟨⟨A3, n3, c3, e3⟩, ⟨A4, n4, c4, e4⟩, ⟨A5, n5, c5, e5⟩⟩, hlk, hlv⟩ := hB
            simp only at hk1 hv1 e3 e4 e5 hlk hlv
            subst e3 e4 e5
            obtain ⟨A1, c1, e1⟩ := hk1.form
            obtain ⟨A2, c2, e2⟩ := hv1.form
            subst e1 e2
            have HLN : Hid (ks.length ≤ 9223372036854775807 ∧ vs.length ≤ 9223372036854775807) := Lib.hid ⟨hlk, hlv⟩
            have AK : Hid (∀ (z : Nat) (w : World), W.heap.size ≤ z → Below W.heap.size W w → AkR z w (.agg #[.int .u8 ak, .string n, .string po, .string sq, .slice A1 ks.length c1, .slice A2 vs.length c2, .slice A3 n3 c3, .slice A4 n4 c4, .slice A5 n5 c5, nV m, .int .u8 wh, .bool ac, nV pid, nV sec]) ⟨ak, ks, vs, ac⟩) := Lib.hid fun z w hz hb => hB2.akr hb hz
            have HY : Hid (∀ (w : World), Below W.heap.size W w → w.cell? ⟨b1, o1 + k * 16, none⟩ = some (nV ok) ∧ w.cell? ⟨b1, o1 + k * 16 + 1, none⟩ = some (.int .u8 ak) ∧ w.cell? ⟨b1, o1 + k * 16 + 2, none⟩ = some (.string n) ∧ w.cell? ⟨b1, o1 + k * 16 + 3, none⟩ = some (.string po) ∧ w.cell? ⟨b1, o1 + k * 16 + 4, none⟩ = some (.string sq) ∧ w.cell? ⟨b1, o1 + k * 16 + 5, none⟩ = some (.slice A1 ks.length c1) ∧ w.cell? ⟨b1, o1 + k * 16 + 6, none⟩ = some (.slice A2 vs.length c2) ∧ w.cell? ⟨b1, o1 + k * 16 + 7, none⟩ = some (.slice A3 n3 c3) ∧ w.cell? ⟨b1, o1 + k * 16 + 8, none⟩ = some (.slice A4 n4 c4) ∧ w.cell? ⟨b1, o1 + k * 16 + 9, none⟩ = some (.slice A5 n5 c5) ∧ w.cell? ⟨b1, o1 + k * 16 + 10, none⟩ = some (nV m) ∧ w.cell? ⟨b1, o1 + k * 16 + 11, none⟩ = some (.int .u8 wh) ∧ w.cell? ⟨b1, o1 + k * 16 + 12, none⟩ = some (.bool ac) ∧ w.cell? ⟨b1, o1 + k * 16 + 13, none⟩ = some (nV pid) ∧ w.cell? ⟨b1, o1 + k * 16 + 14, none⟩ = some (nV sec) ∧ w.cell? ⟨b1, o1 + k * 16 + 15, none⟩ = some (.bool og)) := Lib.hid fun w hb => by
              have c : ∀ (j : Nat) (u : Value), (opC ⟨ok, ⟨ak, ks, vs, ac⟩, ⟨n, po, sq, .slice A1 ks.length c1, .slice A2 vs.length c2, .slice A3 n3 c3, .slice A4 n4 c4, .slice A5 n5 c5, m, wh, pid, sec⟩, og⟩)[j]? = some u → w.cell? ⟨b1, o1 + k * 16 + j, none⟩ = some u := fun j u hu => (hb.cell (p := ⟨b1, o1 + k * 16 + j, none⟩) (World.block_lt_of_cell? W _ (hcc j u hu))).trans (hcc j u hu)
              exact ⟨c 0 _ rfl, c 1 _ rfl, c 2 _ rfl, c 3 _ rfl, c 4 _ rfl, c 5 _ rfl, c 6 _ rfl, c 7 _ rfl, c 8 _ rfl, c 9 _ rfl, c 10 _ rfl, c 11 _ rfl, c 12 _ rfl, c 13 _ rfl, c 14 _ rfl, c 15 _ rfl⟩
            clear hx1 ho hcc hB2 hk1 hv1 hz1 hlk hlv
            have m0 : (0 : Int) ≤ (k : Int) := by omega
            have m1 : (k : Int) < (N2 : Int) := by omega
            have m2 : (k : Int) < 30 := by omega
            obtain ⟨k1, hk1⟩ : ∃ k1, k + 1 = k1 := ⟨_, rfl⟩
            have wk : IntKind.i64.wrap ((k : Int) + 1) = (k1 : Int) := by rw [show (k : Int) + 1 = (k1 : Int) by omega]; exact IntWalk.i64_in _ (by omega)
            have HK1 := Lib.hid hk1
            have HLI := Lib.hid (light_any _ ⟨ak, ks, vs, ac⟩ wr (AK.out W.heap.size wr (Nat.le_refl _) H.out.1) HLN.out.1 HLN.out.2)
            obtain ⟨x0, x1, x2, x3, x4, x5, x6, x7, x8, x9, x10, x11, x12, x13, x14, x15⟩ := HY.out _ H.out.1
            clear hk1 hin1 hlt2 hc1
            by_cases hlt : Lt ⟨ak, ks, vs, ac⟩
            · rw [decide_eq_true hlt] at HLI
              have HLT := Lib.hid hlt
              clear hlt
              go_wp2_with fail
              refine HLI.out.mono ?_
              rintro e w7 ⟨rfl, hb⟩
              have H := Lib.hid (H.out.below hb)
              clear hb HLI x0 x1 x2 x3 x4 x5 x6 x7 x8 x9 x10 x11 x12 x13 x14 x15
              obtain ⟨x0, x1, x2, x3, x4, x5, x6, x7, x8, x9, x10, x11, x12, x13, x14, x15⟩ := HY.out _ H.out.1
              go_wp2_with fail
              refine (ls_step2 HW.out H.out _ ⟨ak, ks, vs, ac⟩ (AK.out a _ H.out.2.1 H.out.1) HLT.out ⟨6, uT, uT⟩ 0 10 rfl rfl rfl).mono ?_
              rintro e w8 ⟨rfl, hs, _⟩
              have H := Lib.hid hs
              clear hs x0 x1 x2 x3 x4 x5 x6 x7 x8 x9 x10 x11 x12 x13 x14 x15
              go_wp2_with fail
              refine (ls_acc2 H.out true ⟨6, uT, uT⟩ 10 rfl rfl).mono ?_
              rintro e w9 ⟨rfl, hs, _⟩
              have H : Hid (LS W w9 a ⟨6, uT, uT⟩) := Lib.hid hs
              clear hs
              go_wp2_with fail
              refine (ls_don2 H.out ⟨6, uT, uT⟩ 10 rfl rfl).mono ?_
              rintro e w10 ⟨rfl, hs, _⟩
              have H : Hid (LS W w10 a ⟨6, uT, uT⟩) := Lib.hid hs
              clear hs
              go_wp2_with fail
              refine (ls_fai2 H.out ⟨6, uT, uT⟩ 10 rfl rfl).mono ?_
              rintro e w11 ⟨rfl, hs, _⟩
              have H : Hid (LS W w11 a ⟨6, uT, uT⟩) := Lib.hid hs
              clear hs
              go_wp2_with fail
              refine (ls_phase H.out 6 rfl).mono ?_
              rintro e wx ⟨rfl, rfl⟩
              go_wp2
              go_roundg g
              case measure => exact Nat.lt_succ_self _
              case rel => exact ⟨k1, rfl, by have := HK1.out; omega, H⟩
            · rw [decide_eq_false hlt] at HLI
              clear hlt
              go_wp2_with fail
              refine HLI.out.mono ?_
              rintro e w7 ⟨rfl, hb⟩
              have H := Lib.hid (H.out.below hb)
              clear hb HLI x0 x1 x2 x3 x4 x5 x6 x7 x8 x9 x10 x11 x12 x13 x14 x15
              obtain ⟨x0, x1, x2, x3, x4, x5, x6, x7, x8, x9, x10, x11, x12, x13, x14, x15⟩ := HY.out _ H.out.1
              go_wp2
              go_roundg g
              case measure => exact Nat.lt_succ_self _
              case rel => exact ⟨k1, rfl, by have := HK1.out; omega, H⟩
          · have hout : ¬ (k : Int) < (N2 : Int) ∨ ((k : Int) < (N2 : Int) ∧ ¬ (k : Int) < 30) := by omega
            clear hin hk HX HZ
            rcases hout with m1 | ⟨m1, m2⟩
            · skip
              go_wp2_with fail
              refine (ls_phase H.out 6 rfl).mono ?_
              rintro e wx ⟨rfl, rfl⟩
              go_wp2_with fail
              refine (known_any _ (HW.out.below H.out.1)).mono ?_
              rintro e w12 ⟨rfl, hb⟩
              have HF : Hid (Below W.heap.size W w12) := Lib.hid (H.out.1.trans (hb.mono H.out.1.size))
              clear hb
              go_wp2
              go_ret
              exact ⟨rfl, HF.out⟩
            · skip
              go_wp2_with fail
              refine (ls_phase H.out 6 rfl).mono ?_
              rintro e wx ⟨rfl, rfl⟩
              go_wp2_with fail
              refine (known_any _ (HW.out.below H.out.1)).mono ?_
              rintro e w12 ⟨rfl, hb⟩
              have HF : Hid (Below W.heap.size W w12) := Lib.hid (H.out.1.trans (hb.mono H.out.1.size))
              clear hb
              go_wp2
              go_ret
              exact ⟨rfl, HF.out⟩
end Go.Proofs.YtpnjjllkbnmakaaDoor.SE
