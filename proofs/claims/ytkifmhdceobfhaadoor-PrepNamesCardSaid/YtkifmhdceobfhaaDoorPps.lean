/- PrepNames' walk. Conditions: none but the arguments' own sizes. -/
import Derived.Test.YtkifmhdceobfhaaDoorPpw
import Derived.Deep.CutBlock
namespace Go.Proofs.YtkifmhdceobfhaaDoor.PP
open Go.ChangeShapes Go.WideShapes Go.ChangeAt Go.RowKit Go.Maps Go.ChangeMaps
open Go.Proofs.YtkifmhdceobfhaaDoor.SL
set_option maxRecDepth 100000
set_option linter.unusedVariables false
set_option linter.unusedSimpArgs false

/-- what stands behind the first i texts -/
structure NaI (l : List Tx) (i N : Nat) (S : St) : Prop where
  few : N ≤ 4 * i ∧ S.T.length ≤ i
  old : ∀ (j : Nat) (x : Tx), j < i → l[j]? = some x → (ixT S.T x).isSome = true ∧ hasA 1000 x S = true ∧ x.size ≤ 500
theorem NaI.step {l : List Tx} {i N : Nat} {S : St} (h : NaI l i N S) {x : Tx} (hx : l[i]? = some x) (hs : x.size ≤ 500) : NaI l (i + 1) (N + 2 + 2) (neeS 1000 x S) := by
  refine ⟨⟨by have := h.few.1; omega, Nat.le_trans (numS_len x S).1 (by have := h.few.2; omega)⟩, fun j y hj hy => ?_⟩
  by_cases e : j = i
  · subst e
    rw [hx] at hy
    injection hy with hy
    subst hy
    exact ⟨ix_own _ _ _, has_own _ _ _, hs⟩
  · obtain ⟨h1, h2, h3⟩ := h.old j y (by omega) hy
    exact ⟨by rw [ix_stay h1]; exact h1, has_stay h2 h1, h3⟩
theorem NaI.names {l : List Tx} {i N : Nat} {S : St} (h : NaI l i N S) {x : Tx} (hx : l[i]? = some x) : (l.take i).map (nmT S.T) ++ [nm (numA x S)] = (l.take (i + 1)).map (nmT (neeS 1000 x S).T) := by
  rw [List.take_add_one, hx, List.map_append]
  congr 1
  · refine List.map_congr_left fun y hy => ?_
    obtain ⟨j, hj⟩ := List.mem_iff_getElem?.1 hy
    rw [List.getElem?_take] at hj
    split at hj
    · rename_i hji
      obtain ⟨h1, _, _⟩ := h.old j y hji hj
      rw [← nmT_num, ← nmT_num, num_stay h1]
    · cases hj
  · show _ = [nmT _ x]
    rw [← nmT_num, num_own]
def TakesR (W0 : World) (t : World) : Prop := Below W0.heap.size W0 t
theorem ts_at {w : World} {v : Value} {l : List ByteArray} (h : TS w v l) {i : Nat} {x : Tx} (hx : l[i]? = some x) : ∃ g off cap, v = .slice (some ⟨g, off, none⟩) l.length cap ∧ l.length ≤ cap ∧ ∀ W, Below w.heap.size w W → W.cell? ⟨g, off + i, none⟩ = some (.string x) := by
  have hl := (List.getElem?_eq_some_iff.1 hx).1
  obtain ⟨g, off, cap, he, hc, hat⟩ := h.inv (by omega)
  exact ⟨g, off, cap, he, hc, fun W hb => (hb.cell (p := ⟨g, off + i, none⟩) (World.block_lt_of_cell? w _ (hat i x hx))).trans (hat i x hx)⟩
set_option maxHeartbeats 64000000 in
theorem names_any (v vc : Value) (l : List Tx) (m : List Int) (w : World) (hv : TS w v l) (hc : NR .u8 255 w vc m) :
    Calls Tryd.prog 4 #[v, vc] w fun e w' => e = .returned (.bool true) ∧ Below w.heap.size w w' := by
  have HV := Lib.hid hv
  have HC := Lib.hid hc
  obtain ⟨va, vq, rfl⟩ := hv.form
  obtain ⟨ca, cq, rfl⟩ := hc.form
  clear hv hc
  go_enter Tryd.func4, Tryd.ntmps4
  go_wp2_with fail
  refine (lb_new w).mono ?_
  rintro e w1 ⟨a, rfl, hl, hb⟩
  have HL := Lib.hid hl
  have HB := Lib.hid hb
  clear hl hb
  by_cases h1 : 30 < l.length
  · have l1 : (30 : Int) < (l.length : Int) := by omega
    clear h1
    go_wp2_with fail
    refine (known_any _).mono ?_
    rintro e wz ⟨rfl, hb⟩
    have HB := Lib.hid (HB.out.trans (hb.mono HB.out.size))
    clear hb
    go_wp2
    go_ret
    exact ⟨rfl, HB.out⟩
  have l1 : ¬ (30 : Int) < (l.length : Int) := by omega
  have HLL : Hid (l.length ≤ 30) := Lib.hid (by omega)
  clear h1
  by_cases h1 : 30 < m.length
  · have l2 : (30 : Int) < (m.length : Int) := by omega
    clear h1
    go_wp2_with fail
    refine (known_any _).mono ?_
    rintro e wz ⟨rfl, hb⟩
    have HB := Lib.hid (HB.out.trans (hb.mono HB.out.size))
    clear hb
    go_wp2
    go_ret
    exact ⟨rfl, HB.out⟩
  have l2 : ¬ (30 : Int) < (m.length : Int) := by omega
  have HML : Hid (m.length ≤ 30) := Lib.hid (by omega)
  clear h1
  go_wp2
  go_loopg [6, 7] l.length (fun gk u6 u7 wx => ∃ (i N : Nat) (S : St), u7 = .int .i64 (i : Int) ∧ i + gk = l.length ∧ Hid (LB w.heap.size wx a N S) ∧ Hid (NaI l i N S) ∧ Hid (OT w.heap.size wx u6 ((l.take i).map (nmT S.T))) ∧ Hid (Below w.heap.size w wx))
  case atStart => exact ⟨0, 0, S0, rfl, by omega, HL, Lib.hid ⟨⟨Nat.le_refl _, Nat.le_refl _⟩, fun j x hj _ => by omega⟩, Lib.hid (SL.OT.nil _ _), HB⟩
  case round =>
    obtain ⟨i, N, S, rfl, hi, HL, HNA, HO, HB⟩ := hrel
    cases gk with
    | zero =>
      have l3 : ¬ ((i : Int) < (l.length : Int)) := by omega
      have hil : i = l.length := by omega
      obtain ⟨T0, hT0⟩ : ∃ T, S.T = T := ⟨_, rfl⟩
      obtain ⟨d0, hd0⟩ : ∃ d, l.map (nmT T0) = d := ⟨_, rfl⟩
      have HO : Hid (OT w.heap.size wr u6 d0) := Lib.hid (by
        have := HO.out
        rw [hil, List.take_length, hT0, hd0] at this
        exact this)
      have HD0 : Hid (d0 = l.map (nmT T0)) := Lib.hid hd0.symm
      have HD0L : Hid (d0.length = l.length) := Lib.hid (by rw [← hd0, List.length_map])
      have HOLD : Hid (∀ x ∈ l, (ixT T0 x).isSome = true ∧ x.size ≤ 500) := Lib.hid fun x hx => by
        obtain ⟨j, hj⟩ := List.mem_iff_getElem?.1 hx
        have h2 := (List.getElem?_eq_some_iff.1 hj).1
        obtain ⟨q1, _, q3⟩ := HNA.out.old j x (by omega) hj
        rw [hT0] at q1
        exact ⟨q1, q3⟩
      have HTL : Hid (T0.length ≤ 98) := Lib.hid (by rw [← hT0]; have := HNA.out.few.2; have := HLL.out; omega)
      have HT : Hid (S.T = T0) := Lib.hid hT0
      have HNN : Hid (N ≤ 120) := Lib.hid (by have := HNA.out.few.1; have := HLL.out; omega)
      obtain ⟨un, hun⟩ : ∃ u, u6 = u := ⟨_, rfl⟩
      rw [hun] at HO ⊢
      clear hi hil hT0 hd0 HNA hun
      obtain ⟨na, nq, hne⟩ := HO.out.ts.form
      rw [HD0L.out] at hne
      subst hne
      go_wp2
      go_loopg [13] m.length (fun gk u13 wx => ∃ (j N : Nat) (S : St), u13 = .int .i64 (j : Int) ∧ j + gk = m.length ∧ Hid (LB w.heap.size wx a N S) ∧ Hid (S.T = T0) ∧ Hid (N ≤ 120 + 120 * j) ∧ Hid (OT w.heap.size wx (.slice na l.length nq) d0) ∧ Hid (Below w.heap.size w wx))
      case atStart => exact ⟨0, N, S, rfl, by omega, HL, HT, Lib.hid (by have := HNN.out; omega), HO, HB⟩
      case round =>
        clear HL HT HNN HO HB
        obtain ⟨j, N, S, rfl, hj, HL, HT, HNN, HO, HB⟩ := hrel
        cases gk with
        | zero =>
          have l5 : ¬ ((j : Int) < (m.length : Int)) := by omega
          clear hj
          go_wp2_with fail
          refine (known_any _).mono ?_
          rintro e wz ⟨rfl, hb⟩
          have HB := Lib.hid (HB.out.trans (hb.mono HB.out.size))
          clear hb
          go_wp2
          go_ret
          exact ⟨rfl, HB.out⟩
        | succ gk3 =>
          have hjl : j < m.length := by omega
          have l5 : (0 : Int) ≤ (j : Int) := by omega
          have l6 : (j : Int) < (m.length : Int) := by omega
          obtain ⟨cj, hcj⟩ : ∃ x, m[j]? = some x := ⟨_, List.getElem?_eq_getElem hjl⟩
          obtain ⟨cg, coff, ccap, he, hcp, hat⟩ := HC.out.inv (by omega)
          injection he with e1 _ e3
          subst e1 e3
          obtain ⟨hcr, hcc⟩ := hat j cj hcj
          have HCX : Hid (∀ W, Below w.heap.size w W → W.cell? ⟨cg, coff + j, none⟩ = some (.int .u8 cj)) := Lib.hid fun W hb => (hb.cell (p := ⟨cg, coff + j, none⟩) (World.block_lt_of_cell? w _ hcc)).trans hcc
          have HCI : Hid (I9 cj) := Lib.hid ⟨by omega, by omega⟩
          have wc : IntKind.i64.wrap cj = cj := IntWalk.i64_in _ (by omega)
          have xc := HCX.out wr HB.out
          obtain ⟨j1, hj1⟩ : ∃ n, j + 1 = n := ⟨_, rfl⟩
          have wj : IntKind.i64.wrap ((j : Int) + 1) = (j1 : Int) := by rw [show (j : Int) + 1 = (j1 : Int) by omega]; exact IntWalk.i64_in _ (by have := HML.out; omega)
          have HJ1 : Hid (j1 + gk3 = m.length) := Lib.hid (by omega)
          have HJ1E : Hid (j + 1 = j1) := Lib.hid hj1
          have HJM : Hid (j ≤ 30) := Lib.hid (by have := HML.out; omega)
          have HF := Lib.hid (lb_forget HL.out cj HCI.out)
          clear hj hjl hcj hcp hat hcr hcc hj1
          go_wp2_with fail
          refine HF.out.mono ?_
          rintro e w2 ⟨rfl, hl, hf⟩
          have HL := Lib.hid hl
          have HT : Hid ((forS cj S).T = T0) := Lib.hid HT.out
          have HO := Lib.hid (PP.OT.kc HO.out hf.2)
          have HB := Lib.hid (HB.out.trans hf.1)
          have HLE : Hid ((nms (forS cj S).D cj).length ≤ 0) := Lib.hid (by
            show (nms (noD cj S.D) cj).length ≤ 0
            rw [nms_no, if_pos rfl]; exact Nat.le_refl _)
          generalize forS cj S = S at *
          clear hl hf HF xc
          go_wp2
          go_loopg [14] l.length (fun gk u14 wx => ∃ (k N' : Nat) (S' : St), u14 = .int .i64 (k : Int) ∧ k + gk = l.length ∧ Hid (LB w.heap.size wx a N' S') ∧ Hid (S'.T = T0) ∧ Hid (N' ≤ 120 + 120 * j + 4 * k) ∧ Hid ((nms S'.D cj).length ≤ k) ∧ Hid (OT w.heap.size wx (.slice na l.length nq) d0) ∧ Hid (Below w.heap.size w wx))
          case atStart => exact ⟨0, N, S, rfl, by omega, HL, HT, Lib.hid (by have := HNN.out; omega), HLE, HO, HB⟩
          case round =>
            clear HL HT HNN HLE HO HB
            obtain ⟨k, N', S', rfl, hk, HL, HT, HNN', HLE, HO, HB⟩ := hrel
            cases gk with
            | zero =>
              have l7 : ¬ ((k : Int) < (l.length : Int)) := by omega
              have hle : (nms S'.D cj).length ≤ l.length := by have := HLE.out; omega
              have hN : N' ≤ 120 + 120 * j1 := by have := HNN'.out; have := HLL.out; have := HJ1E.out; omega
              have HNN1 := Lib.hid hN
              have HLE2 := Lib.hid hle
              have xc := HCX.out wr HB.out
              have HHS := Lib.hid (lc_has HL.out (by have := HNN'.out; have := HLL.out; have := HJM.out; omega) cj HCI.out (by rw [HT.out]; have := HTL.out; omega))
              clear hk hle hN
              go_wp2_with fail
              refine HHS.out.mono ?_
              rintro e w3 ⟨v3, rfl, hv3, hb⟩
              obtain ⟨a3, q3, rfl⟩ := hv3.ts.form
              rw [List.length_map]
              have HL := Lib.hid (HL.out.below hb)
              have HO := Lib.hid (show OT w.heap.size w3 (.slice na l.length nq) d0 from HO.out.keep fun g hg => hb.block g (World.ownsRow.lt HO.out g hg).2)
              have HB := Lib.hid (HB.out.trans (hb.mono HB.out.size))
              have l8 : ¬ ((l.length : Int) < ((nms S'.D cj).length : Int)) := by have := HLE2.out; omega
              generalize (nms S'.D cj).length = nn at *
              clear hv3 hb HHS
              go_wp2
              go_roundg gk3
              case measure => exact Nat.lt_succ_self _
              case rel => exact ⟨j1, N', S', rfl, HJ1.out, HL, HT, HNN1, HO, HB⟩
            | succ gk4 =>
              have hkl : k < l.length := by omega
              obtain ⟨x, hx⟩ : ∃ x, l[k]? = some x := ⟨_, List.getElem?_eq_getElem hkl⟩
              obtain ⟨g, off, cap, he, hcp, hat⟩ := ts_at HV.out hx
              injection he with e1 _ e3
              subst e1 e3
              have HTX := Lib.hid hat
              obtain ⟨hxi, hxs⟩ := HOLD.out x (List.mem_of_getElem? hx)
              have HXS := Lib.hid hxs
              have l7 : (0 : Int) ≤ (k : Int) := by omega
              have l8 : (k : Int) < (l.length : Int) := by omega
              obtain ⟨k1, hk1⟩ : ∃ n, k + 1 = n := ⟨_, rfl⟩
              have wk : IntKind.i64.wrap ((k : Int) + 1) = (k1 : Int) := by rw [show (k : Int) + 1 = (k1 : Int) by omega]; exact IntWalk.i64_in _ (by have := HLL.out; omega)
              have HK1 : Hid (k1 + gk4 = l.length) := Lib.hid (by omega)
              have HK1E : Hid (k + 1 = k1) := Lib.hid hk1
              have hxi2 : (ixT S'.T x).isSome = true := by rw [HT.out]; exact hxi
              have HXI := Lib.hid hxi2
              have HNM : Hid (nm (numA x S') = nmT T0 x) := Lib.hid (by rw [nmT_num, HT.out])
              obtain ⟨z, hz⟩ : ∃ z, nmT T0 x = z := ⟨_, rfl⟩
              have hdz : d0[k]? = some z := by rw [HD0.out, List.getElem?_map, hx, ← hz]; rfl
              have HDZ := Lib.hid hdz
              rw [hz] at HNM
              have HT1 : Hid ((neeS cj x S').T = T0) := Lib.hid (by rw [nee_same HXI.out]; exact HT.out)
              have HLE1 : Hid ((nms (neeS cj x S').D cj).length ≤ k1) := Lib.hid (Nat.le_trans (nee_len _ _ _) (by have := HLE.out; have := HK1E.out; omega))
              have HND1 : Hid (∀ W, LB w.heap.size W a N' S' → Calls Tryd.prog 15 #[ptr a, nV cj, .string x] W (Ret w.heap.size a (N' + 2) (neeS cj x S') (.tuple #[.string z, .bool (!hasA cj x S')]) W)) := Lib.hid fun W h => by
                have := lc_need h (by have := HNN'.out; omega) cj HCI.out x (by have := HXS.out; omega) (by rw [HT.out]; exact HTL.out)
                rw [HNM.out] at this
                exact this
              have HND2 : Hid (∀ W, LB w.heap.size W a (N' + 2) (neeS cj x S') → Calls Tryd.prog 15 #[ptr a, nV cj, .string x] W (Ret w.heap.size a (N' + 2 + 2) (neeS cj x S') (.tuple #[.string z, .bool false]) W)) := Lib.hid fun W h => by
                have := lc_need h (by have := HNN'.out; omega) cj HCI.out x (by have := HXS.out; omega) (by rw [HT1.out]; exact HTL.out)
                rw [num_own, HNM.out, has_own, nee_id (has_own _ _ _) (ix_own _ _ _)] at this
                exact this
              generalize (!hasA cj x S') = fr at *
              generalize neeS cj x S' = S1 at *
              clear hk hkl hx hcp hat hxi hxs hk1 hxi2 hdz hz
              go_upto_region 27 with fail
              refine wp_region_held_drew (S := fun W => Below w.heap.size w W) (by kernel_rfl) ?_ (fun hS => ?_)
              · exact HB.out.drew
              have hb0 : Below wr.heap.size wr wr.drew := (Below.refl _ _).drew
              obtain ⟨WD, hWD⟩ : ∃ W, wr.drew = W := ⟨_, rfl⟩
              rw [hWD] at hb0 hS ⊢
              clear hWD
              have HLD := Lib.hid (HL.out.below hb0)
              have HOD := Lib.hid ((show OT w.heap.size WD (.slice na l.length nq) d0 from HO.out.keep fun g hg => hb0.block g (World.ownsRow.lt HO.out g hg).2))
              have HBD := Lib.hid hS
              clear hb0
              refine tkY 0 ?_ rfl hS ?_ ?_
              rotate_left
              · intro wz hz
                have xc := HCX.out _ hz
                have xt := HTX.out _ hz
                go_simp
                all_goals first | with_reducible rfl | omega
              try simp only [Act.put, pu]
              refine tkY 1 ?_ rfl hS ?_ ?_
              rotate_left
              · intro wz hz
                have xc := HCX.out _ hz
                have xt := HTX.out _ hz
                go_simp
                all_goals first | with_reducible rfl | omega
              try simp only [Act.put, pu]
              refine tkY 2 ?_ rfl hS ?_ ?_
              rotate_left
              · intro wz hz
                have xc := HCX.out _ hz
                have xt := HTX.out _ hz
                go_simp
                all_goals first | with_reducible rfl | omega
              try simp only [Act.put, pu]
              refine tkY 3 ?_ rfl hS ?_ ?_
              rotate_left
              · intro wz hz
                have xc := HCX.out _ hz
                have xt := HTX.out _ hz
                go_simp
                all_goals first | with_reducible rfl | omega
              try simp only [Act.put, pu]
              refine tkY 4 ?_ rfl hS ?_ ?_
              rotate_left
              · intro wz hz
                have xc := HCX.out _ hz
                have xt := HTX.out _ hz
                go_simp
                all_goals first | with_reducible rfl | omega
              try simp only [Act.put, pu]
              refine tkY 5 ?_ rfl hS ?_ ?_
              rotate_left
              · intro wz hz
                have xc := HCX.out _ hz
                have xt := HTX.out _ hz
                go_simp
                all_goals first | with_reducible rfl | omega
              try simp only [Act.put, pu]
              refine tkY 6 ?_ rfl hS ?_ ?_
              rotate_left
              · intro wz hz
                have xc := HCX.out _ hz
                have xt := HTX.out _ hz
                go_simp
                all_goals first | with_reducible rfl | omega
              try simp only [Act.put, pu]
              refine tkY 7 ?_ rfl hS ?_ ?_
              rotate_left
              · intro wz hz
                have xc := HCX.out _ hz
                have xt := HTX.out _ hz
                go_simp
                all_goals first | with_reducible rfl | omega
              try simp only [Act.put, pu]
              refine tkY 8 ?_ rfl hS ?_ ?_
              rotate_left
              · intro wz hz
                have xc := HCX.out _ hz
                have xt := HTX.out _ hz
                go_simp
                all_goals first | with_reducible rfl | omega
              try simp only [Act.put, pu]
              refine tkY 9 ?_ rfl hS ?_ ?_
              rotate_left
              · intro wz hz
                have xc := HCX.out _ hz
                have xt := HTX.out _ hz
                go_simp
                all_goals first | with_reducible rfl | omega
              try simp only [Act.put, pu]
              refine wpAnyH_ready (rs := [10]) (by kernel_rfl) (by simp) (AllReadyH.cons rfl (fun K' hK' => ?_) AllReadyH.nil)
              go_simp
              refine (HND1.out WD HLD.out).mono ?_
              rintro e w5 ⟨rfl, hl, hf⟩
              have HL2 := Lib.hid hl
              have HO2 := Lib.hid (PP.OT.kc HOD.out hf.2)
              have hb5 := HBD.out.trans hf.1
              have HB2 := Lib.hid hb5
              refine hK'.out _ _ hb5 (fun hSn => ?_)
              clear hK' K' hS hl hf hb5
              have hS := hSn
              clear hSn
              try simp only [Act.put, pu]
              refine tkY 11 ?_ rfl hS ?_ ?_
              rotate_left
              · intro wz hz
                go_simp
                all_goals first | with_reducible rfl | omega
              try simp only [Act.put, pu]
              refine tkY 12 ?_ rfl hS ?_ ?_
              rotate_left
              · intro wz hz
                go_simp
                all_goals first | with_reducible rfl | omega
              try simp only [Act.put, pu]
              refine tkY 13 ?_ rfl hS ?_ ?_
              rotate_left
              · intro wz hz
                go_simp
                all_goals first | with_reducible rfl | omega
              try simp only [Act.put, pu]
              refine tkY 14 ?_ rfl hS ?_ ?_
              rotate_left
              · intro wz hz
                go_simp
                all_goals first | with_reducible rfl | omega
              try simp only [Act.put, pu]
              refine tkY 15 ?_ rfl hS ?_ ?_
              rotate_left
              · intro wz hz
                go_simp
                all_goals first | with_reducible rfl | omega
              try simp only [Act.put, pu]
              refine wpAnyH_done (by kernel_rfl) ?_ _
              clear hS
              clear HLD HOD HBD
              obtain ⟨w3, hw3⟩ : ∃ W, w5 = W := ⟨_, rfl⟩
              rw [hw3] at HL2 HO2 HB2 ⊢
              clear hw3
              go_upto_region 28 with fail
              refine wp_region_held_drew (S := fun W => Below w.heap.size w W) (by kernel_rfl) ?_ (fun hS => ?_)
              · exact HB2.out.drew
              have hb0 : Below w3.heap.size w3 w3.drew := (Below.refl _ _).drew
              obtain ⟨WD, hWD⟩ : ∃ W, w3.drew = W := ⟨_, rfl⟩
              rw [hWD] at hb0 hS ⊢
              clear hWD
              have HLD := Lib.hid (HL2.out.below hb0)
              have HOD := Lib.hid ((show OT w.heap.size WD (.slice na l.length nq) d0 from HO2.out.keep fun g hg => hb0.block g (World.ownsRow.lt HO2.out g hg).2))
              have HBD := Lib.hid hS
              clear hb0
              refine tkY 0 ?_ rfl hS ?_ ?_
              rotate_left
              · intro wz hz
                have xc := HCX.out _ hz
                have xt := HTX.out _ hz
                go_simp
                all_goals first | with_reducible rfl | omega
              try simp only [Act.put, pu]
              refine tkY 1 ?_ rfl hS ?_ ?_
              rotate_left
              · intro wz hz
                have xc := HCX.out _ hz
                have xt := HTX.out _ hz
                go_simp
                all_goals first | with_reducible rfl | omega
              try simp only [Act.put, pu]
              refine tkY 2 ?_ rfl hS ?_ ?_
              rotate_left
              · intro wz hz
                have xc := HCX.out _ hz
                have xt := HTX.out _ hz
                go_simp
                all_goals first | with_reducible rfl | omega
              try simp only [Act.put, pu]
              refine tkY 3 ?_ rfl hS ?_ ?_
              rotate_left
              · intro wz hz
                have xc := HCX.out _ hz
                have xt := HTX.out _ hz
                go_simp
                all_goals first | with_reducible rfl | omega
              try simp only [Act.put, pu]
              refine tkY 4 ?_ rfl hS ?_ ?_
              rotate_left
              · intro wz hz
                have xc := HCX.out _ hz
                have xt := HTX.out _ hz
                go_simp
                all_goals first | with_reducible rfl | omega
              try simp only [Act.put, pu]
              refine tkY 5 ?_ rfl hS ?_ ?_
              rotate_left
              · intro wz hz
                have xc := HCX.out _ hz
                have xt := HTX.out _ hz
                go_simp
                all_goals first | with_reducible rfl | omega
              try simp only [Act.put, pu]
              refine tkY 6 ?_ rfl hS ?_ ?_
              rotate_left
              · intro wz hz
                have xc := HCX.out _ hz
                have xt := HTX.out _ hz
                go_simp
                all_goals first | with_reducible rfl | omega
              try simp only [Act.put, pu]
              refine tkY 7 ?_ rfl hS ?_ ?_
              rotate_left
              · intro wz hz
                have xc := HCX.out _ hz
                have xt := HTX.out _ hz
                go_simp
                all_goals first | with_reducible rfl | omega
              try simp only [Act.put, pu]
              refine tkY 8 ?_ rfl hS ?_ ?_
              rotate_left
              · intro wz hz
                have xc := HCX.out _ hz
                have xt := HTX.out _ hz
                go_simp
                all_goals first | with_reducible rfl | omega
              try simp only [Act.put, pu]
              refine tkY 9 ?_ rfl hS ?_ ?_
              rotate_left
              · intro wz hz
                have xc := HCX.out _ hz
                have xt := HTX.out _ hz
                go_simp
                all_goals first | with_reducible rfl | omega
              try simp only [Act.put, pu]
              refine wpAnyH_ready (rs := [10]) (by kernel_rfl) (by simp) (AllReadyH.cons rfl (fun K' hK' => ?_) AllReadyH.nil)
              go_simp
              refine (HND2.out WD HLD.out).mono ?_
              rintro e w5 ⟨rfl, hl, hf⟩
              have HL3 := Lib.hid hl
              have HO3 := Lib.hid (PP.OT.kc HOD.out hf.2)
              have hb5 := HBD.out.trans hf.1
              have HB3 := Lib.hid hb5
              refine hK'.out _ _ hb5 (fun hSn => ?_)
              clear hK' K' hS hl hf hb5
              have hS := hSn
              clear hSn
              try simp only [Act.put, pu]
              refine tkY 11 ?_ rfl hS ?_ ?_
              rotate_left
              · intro wz hz
                go_simp
                all_goals first | with_reducible rfl | omega
              try simp only [Act.put, pu]
              refine tkY 12 ?_ rfl hS ?_ ?_
              rotate_left
              · intro wz hz
                go_simp
                all_goals first | with_reducible rfl | omega
              try simp only [Act.put, pu]
              refine tkY 13 ?_ rfl hS ?_ ?_
              rotate_left
              · intro wz hz
                go_simp
                all_goals first | with_reducible rfl | omega
              try simp only [Act.put, pu]
              refine tkY 14 ?_ rfl hS ?_ ?_
              rotate_left
              · intro wz hz
                go_simp
                all_goals first | with_reducible rfl | omega
              try simp only [Act.put, pu]
              refine tkY 15 ?_ rfl hS ?_ ?_
              rotate_left
              · intro wz hz
                go_simp
                all_goals first | with_reducible rfl | omega
              try simp only [Act.put, pu]
              refine wpAnyH_done (by kernel_rfl) ?_ _
              clear hS
              clear HLD HOD HBD
              obtain ⟨ga, goff, gcap, hge, hgc, hgat⟩ := ts_at HO3.out.ts HDZ.out
              injection hge with e1 e2 e3
              subst e1 e3
              have y0 := hgat w5 (Below.refl _ _)
              clear e2
              clear hgc hgat
              go_wp2
              go_roundg gk4
              case measure => exact Nat.lt_succ_self _
              case rel => exact ⟨k1, N' + 2 + 2, S1, rfl, HK1.out, HL3, HT1, Lib.hid (by have := HNN'.out; have := HK1E.out; omega), HLE1, HO3, HB3⟩
    | succ gk1 =>
      have hlt : i < l.length := by omega
      obtain ⟨x, hx⟩ : ∃ x, l[i]? = some x := ⟨_, List.getElem?_eq_getElem hlt⟩
      obtain ⟨g, off, cap, he, hcp, hat⟩ := HV.out.inv (by omega)
      injection he with e1 _ e3
      subst e1 e3
      have HXA : Hid (∀ (j : Nat) (y : Tx), l[j]? = some y → ∀ W, Below w.heap.size w W → W.cell? ⟨g, off + j, none⟩ = some (.string y)) := Lib.hid fun j y hy W hb => (hb.cell (p := ⟨g, off + j, none⟩) (World.block_lt_of_cell? w _ (hat j y hy))).trans (hat j y hy)
      have HXI := Lib.hid hx
      have x0 := HXA.out i x hx wr HB.out
      have l4 : (0 : Int) ≤ (i : Int) := by omega
      have l5 : (i : Int) < (l.length : Int) := by omega
      obtain ⟨i1, hi1⟩ : ∃ k, i + 1 = k := ⟨_, rfl⟩
      have wk : IntKind.i64.wrap ((i : Int) + 1) = (i1 : Int) := by rw [show (i : Int) + 1 = (i1 : Int) by omega]; exact IntWalk.i64_in _ (by have := HLL.out; omega)
      have HJ : Hid (i1 + gk1 = l.length) := Lib.hid (by omega)
      have HI1 : Hid (i + 1 = i1) := Lib.hid hi1
      have HIL : Hid (i ≤ 29) := Lib.hid (by have := HLL.out; omega)
      clear hi hlt hx hcp hat hi1
      by_cases hs : 500 < x.size
      · have l6 : (500 : Int) < (x.size : Int) := by omega
        clear hs
        go_wp2_with fail
        refine (known_any _).mono ?_
        rintro e wz ⟨rfl, hb⟩
        have HB := Lib.hid (HB.out.trans (hb.mono HB.out.size))
        clear hb
        go_wp2
        go_ret
        exact ⟨rfl, HB.out⟩
      have l6 : ¬ (500 : Int) < (x.size : Int) := by omega
      have hs5 : x.size ≤ 500 := by omega
      have HN1 := Lib.hid (HNA.out.step HXI.out hs5)
      have HDN := Lib.hid (HNA.out.names HXI.out)
      have HND1 := Lib.hid (lc_need HL.out (by have := HNA.out.few.1; have := HIL.out; omega) 1000 ⟨by omega, by omega⟩ x (by omega) (by have := HNA.out.few.2; have := HIL.out; omega))
      have HND2 : Hid (∀ W, LB w.heap.size W a (N + 2) (neeS 1000 x S) → Calls Tryd.prog 15 #[ptr a, nV 1000, .string x] W (Ret w.heap.size a (N + 2 + 2) (neeS 1000 x S) (.tuple #[.string (nm (numA x S)), .bool false]) W)) := Lib.hid fun W h => by
        have := lc_need h (by have := HNA.out.few.1; have := HIL.out; omega) 1000 ⟨by omega, by omega⟩ x (by omega) (by have := HN1.out.few.2; have := HIL.out; omega)
        rw [num_own, has_own, nee_id (has_own _ _ _) (ix_own _ _ _)] at this
        exact this
      have HFR : Hid (∀ (j : Nat), j < i → l[j]? = some x → (!hasA 1000 x S) = false) := Lib.hid fun j hj hjx => by rw [(HNA.out.old j x hj hjx).2.1]; rfl
      have HEQ : Hid (∀ (j : Nat) (y : Tx), j < i → l[j]? = some y → ∃ z, ((l.take i).map (nmT S.T))[j]? = some z ∧ (z = nm (numA x S) ↔ y = x)) := Lib.hid fun j y hj hy => by
        obtain ⟨q1, _, _⟩ := HNA.out.old j y hj hy
        refine ⟨nmT S.T y, by rw [List.getElem?_map, List.getElem?_take, if_pos hj, hy]; rfl, ?_⟩
        rw [← nmT_num]
        constructor
        · intro h
          have h2 := nm_inj h
          have q2 : (ixT (neeS 1000 x S).T y).isSome = true := by rw [ix_stay q1]; exact q1
          refine num_inj q2 (ix_own 1000 x S) ?_
          rw [num_stay q1, num_own]; exact h2
        · rintro rfl; rfl
      have hne := nm_nonempty (numA x S)
      obtain ⟨d, hd⟩ : ∃ d, (l.take i).map (nmT S.T) = d := ⟨_, rfl⟩
      have HDL : Hid (d.length = i) := Lib.hid (by rw [← hd, List.length_map, List.length_take]; have := HI1.out; have := HJ.out; omega)
      rw [hd] at HDN HO HEQ
      obtain ⟨z, hz⟩ : ∃ z, nm (numA x S) = z := ⟨_, rfl⟩
      rw [hz] at HDN HEQ HND1 HND2 hne
      generalize (!hasA 1000 x S) = fr at *
      generalize neeS 1000 x S = S1 at *
      clear hs hs5 hd hz HNA HL
      go_wp2_with fail
      refine HND1.out.mono ?_
      rintro e w2 ⟨rfl, hl, hf⟩
      have HL := Lib.hid hl
      have HO := Lib.hid (PP.OT.kc HO.out hf.2)
      have HB := Lib.hid (HB.out.trans hf.1)
      have x1 := HXA.out i x HXI.out w2 HB.out
      clear hl hf HND1 x0
      go_wp2_with fail
      refine (HND2.out w2 HL.out).mono ?_
      rintro e w3 ⟨rfl, hl, hf⟩
      have HL := Lib.hid hl
      have HO := Lib.hid (PP.OT.kc HO.out hf.2)
      have HB := Lib.hid (HB.out.trans hf.1)
      clear hl hf HND2 x1
      obtain ⟨W4, hW4⟩ : ∃ W, w3.alloc (.cells #[.string z] 9) = W := ⟨_, rfl⟩
      obtain ⟨nb, hnb⟩ : ∃ b, w3.heap.size = b := ⟨_, rfl⟩
      have hb4 : Below w3.heap.size w3 W4 := by rw [← hW4]; exact (Below.refl _ _).alloc (Nat.le_refl _) _
      have HK4 : Hid (Bk W4 nb 9 #[.string z]) := Lib.hid (by rw [← hW4, ← hnb]; exact Bk.new _ _ _)
      have HL := Lib.hid (HL.out.below hb4)
      have HO := Lib.hid (show OT w.heap.size W4 u6 d from HO.out.keep fun g hg => hb4.block g (World.ownsRow.lt HO.out g hg).2)
      have HB := Lib.hid (HB.out.trans (hb4.mono HB.out.size))
      clear hb4
      go_wp2_with (at_builtin; refine wpList_app_text w.heap.size u6 d z nb rfl _ _ rfl rfl HO.out rfl HK4.out (by have := HDL.out; have := HIL.out; omega) HB.out.size ?_; intro g5 cap5 w5 o5 gr5; rw [HDL.out, HI1.out] at o5; rw [HDL.out, HI1.out])
      have HL5 := Lib.hid (HL.out.row HO.out gr5)
      have HB5 : Hid (Below w.heap.size w w5) := Lib.hid (HB.out.grown gr5 HB.out.size fun k hk => (World.ownsRow.lt HO.out k hk).1)
      have HO5 := Lib.hid o5
      try clear hW4 hnb
      clear o5 gr5 HL HO HB HK4
      go_loopg [12] i (fun gk u12 wx => ∃ k n : Nat, u12 = .int .i64 (k : Int) ∧ k + gk = i ∧ wx = w5.drewN n)
      case atStart => exact ⟨0, 0, rfl, by omega, rfl⟩
      case round =>
        obtain ⟨k, n, rfl, hk, rfl⟩ := hrel
        cases gk with
        | zero =>
          have l7 : ¬ ((k : Int) < (i : Int)) := by omega
          have hbd := SL.below_drewN w5.heap.size w5 n
          have HL6 := Lib.hid (HL5.out.below hbd)
          have HB6 := Lib.hid (HB5.out.trans (hbd.mono HB5.out.size))
          have HO6 : Hid (OT w.heap.size (w5.drewN n) (.slice (some ⟨g5, 0, none⟩) i1 cap5) ((l.take i1).map (nmT S1.T))) := Lib.hid (by
            have h1 := HDN.out
            rw [HI1.out] at h1
            rw [← h1]
            exact HO5.out.keep fun g hg => hbd.block g (World.ownsRow.lt HO5.out g hg).2)
          have HN2 : Hid (NaI l i1 (N + 2 + 2) S1) := Lib.hid (by have := HN1.out; rw [HI1.out] at this; exact this)
          clear hk hbd
          go_wp2
          go_roundg gk1
          case measure => exact Nat.lt_succ_self _
          case rel => exact ⟨i1, N + 2 + 2, S1, rfl, HJ.out, HL6, HN2, HO6, HB6⟩
        | succ gk2 =>
          have hki : k < i := by omega
          obtain ⟨y, hy⟩ : ∃ y, l[k]? = some y := ⟨_, List.getElem?_eq_getElem (by have := HJ.out; have := HI1.out; omega)⟩
          obtain ⟨zk, hzk, hiff⟩ := HEQ.out k y hki hy
          have x1 := HXA.out k y hy w5 HB5.out
          have x2 := HXA.out i x HXI.out w5 HB5.out
          have hdz : (d ++ [z])[k]? = some zk := by
            rw [List.getElem?_append_left (by have := HDL.out; omega)]; exact hzk
          obtain ⟨p, po, pc, he, hc, hat⟩ := ts_at HO5.out.ts hdz
          injection he with e1 e2 e3
          injection e1 with e1
          injection e1 with e1 e4
          subst e1 e4
          have x3 := hat w5 (Below.refl _ _)
          rw [Nat.zero_add] at x3
          have l7 : (k : Int) < (i : Int) := by omega
          have l8 : (0 : Int) ≤ (k : Int) := by omega
          have l9 : (k : Int) < (i1 : Int) := by have := HI1.out; omega
          have l10 : (k : Int) < (l.length : Int) := by omega
          obtain ⟨k1, hk1⟩ : ∃ n, k + 1 = n := ⟨_, rfl⟩
          have wk2 : IntKind.i64.wrap ((k : Int) + 1) = (k1 : Int) := by rw [show (k : Int) + 1 = (k1 : Int) by omega]; exact IntWalk.i64_in _ (by have := HIL.out; omega)
          have HK1 : Hid (k1 + gk2 = i) := Lib.hid (by omega)
          have hfr := fun e : y = x => HFR.out k hki (by rw [← e]; exact hy)
          clear e2 e3 hc hat hdz hk hk1 hy hzk hki
          by_cases hyx : y = x
          · have hz1 : zk = z := hiff.2 hyx
            have hf1 := hfr hyx
            subst hyx hz1 hf1
            have es1 : (zk.toList == zk.toList) = true := by simp
            have es2 : (y.toList == y.toList) = true := by simp
            clear hiff hfr
            go_wp2
            go_quiet (fail)
            go_wp2
            go_roundg gk2
            case measure => exact Nat.lt_succ_self _
            case rel => exact ⟨k1, _, rfl, HK1.out, rfl⟩
          · have hz1 : ¬ zk = z := fun e => hyx (hiff.1 e)
            have es1 : (zk.toList == z.toList) = false := by rw [tl_dec]; exact decide_eq_false hz1
            have es2 : (y.toList == x.toList) = false := by rw [tl_dec]; exact decide_eq_false hyx
            clear hiff hfr hyx hz1
            go_wp2
            go_quiet (fail)
            go_wp2
            go_roundg gk2
            case measure => exact Nat.lt_succ_self _
            case rel => exact ⟨k1, _, rfl, HK1.out, rfl⟩
theorem names_law (v vc : Value) (w : World) (hf : ∃ l, TS w v l) (hc : FitsU8 w vc) :
    Calls Tryd.prog 4 #[v, vc] w fun e w' => e = .returned (.bool true) ∧ Below w.heap.size w w' := by
  obtain ⟨l, hl⟩ := hf
  obtain ⟨m, hm⟩ := hc
  exact names_any v vc l m w hl hm
end Go.Proofs.YtkifmhdceobfhaaDoor.PP
