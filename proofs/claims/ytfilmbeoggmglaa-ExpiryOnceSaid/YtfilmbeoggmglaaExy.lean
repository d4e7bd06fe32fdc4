/- ExpiryOnce: its walk. No condition. -/
import Derived.Test.YtfilmbeoggmglaaEyp
namespace Go.Proofs.Ytfilmbeoggmglaa.EX
open Go.ChangeShapes Go.WideShapes Go.ChangeAt Go.RowKit Go.Maps Go.ChangeMaps
open Go.Proofs.Ytfilmbeoggmglaa.SL Go.Proofs.Ytfilmbeoggmglaa.RW
set_option maxRecDepth 100000
set_option linter.unusedVariables false
set_option linter.unusedSimpArgs false

set_option maxHeartbeats 16000000 in
theorem once_any (v0 : Value) (now : Int) (w : World) (ho : FitsO w v0) :
    Calls Try.prog 5 #[v0, .int .i64 now] w fun e w' => e = .returned (.bool true) ∧ Below w.heap.size w w' := by
  obtain ⟨l, hl⟩ := ho
  obtain ⟨va, vc, rfl⟩ := hl.form
  have HL := Lib.hid hl
  clear hl
  go_enter Try.func5, Try.ntmps5
  go_wp2_with fail
  refine (lq_new w _ (Below.refl _ _)).mono ?_
  rintro e w1 ⟨g, rfl, h1, _⟩
  have H := Lib.hid h1
  clear h1
  go_wp2
  go_loopg [6, 7] (min l.length 60) (fun gk u6 u7 wx => ∃ (i n c : Nat) (I : List It), u6 = .int .i64 (c : Int) ∧ u7 = .int .i64 (i : Int) ∧ i + gk = min l.length 60 ∧ n ≤ i ∧ I.length = c ∧ Short I ∧ Rng I ∧ LQ w wx g n I [])
  case atStart => exact ⟨0, 0, 0, [], rfl, rfl, by omega, by omega, rfl, (fun x hx => by cases hx), (fun x hx => by cases hx), H.out⟩
  case round =>
    obtain ⟨i, n, c, I, rfl, rfl, hi, hn, hc, hsh, hrg, hS⟩ := hrel
    have HSH := Lib.hid hsh
    have HRG := Lib.hid hrg
    have H := Lib.hid hS
    have hsi := hS.si
    have HSI := Lib.hid hsi
    have HC : Hid (I.length = c ∧ c ≤ n ∧ n ≤ 60) := Lib.hid (by have := hsi.2.2; omega)
    clear hsi
    cases gk with
    | zero =>
      by_cases hlt : i < l.length
      · have l1 : (i : Int) < (l.length : Int) := by omega
        have i60 : ¬ ((i : Int) < 60) := by omega
        clear hi hn hc hsh hrg hS hlt
        go_wp2_with fail
        refine (lq_copy H.out (by have := HC.out; omega)).mono ?_
        rintro e w4 ⟨ga, y, rfl, hy, h4⟩
        have H := Lib.hid h4
        have HY := Lib.hid hy
        clear hy h4
        obtain ⟨G, hG⟩ : ∃ J, gtI now I = J := ⟨_, rfl⟩
        obtain ⟨D, hD⟩ : ∃ J, leI now I = J := ⟨_, rfl⟩
        obtain ⟨d, hd⟩ : ∃ J, keysI D = J := ⟨_, rfl⟩
        obtain ⟨r, hr⟩ : ∃ J, keysI G = J := ⟨_, rfl⟩
        have hlen := le_gt_len now I
        rw [hG, hD] at hlen
        have HLN : Hid (D.length = d.length ∧ G.length = r.length ∧ d.length + r.length = c ∧ c ≤ 60) := Lib.hid (by
          have h1 : d.length = D.length := by rw [← hd]; unfold keysI; rw [List.length_map]
          have h2 : r.length = G.length := by rw [← hr]; unfold keysI; rw [List.length_map]
          have h3 := HC.out
          omega)
        have HF : Hid (∀ e ∈ D, atI e.1 I = some e.2 ∧ atI e.1 G = none ∧ ¬ now < e.2) := Lib.hid (by rw [← hD, ← hG]; exact fun e he => at_le_gt HSI.out.2.1 he)
        have HD0 : Hid (∀ e ∈ D, 0 ≤ e.2) := Lib.hid (by rw [← hD]; exact fun e he => (HRG.out e (List.mem_filter.1 he).1).1)
        have HDP : Hid (D.Pairwise (fun a b => a.2 ≤ b.2)) := Lib.hid (by rw [← hD]; exact HSI.out.1.sublist List.filter_sublist)
        have HGS : Hid (Short G) := Lib.hid (by rw [← hG]; exact HSH.out.gtI now)
        have HGR : Hid (Rng G) := Lib.hid (by rw [← hG]; exact fun e he => HRG.out e (List.mem_filter.1 he).1)
        have HGG : Hid (gtI now G = G ∧ leI now G = []) := Lib.hid (by rw [← hG]; exact ⟨gt_gt _ _, le_gt _ _⟩)
        have HGN : Hid (∀ e ∈ G, now < e.2) := Lib.hid (by rw [← hG]; exact fun e he => by simpa using (List.mem_filter.1 he).2)
        have HKD : Hid (keysI (leI now I) = d) := Lib.hid (by rw [hD]; exact hd)
        have HDD := Lib.hid hd
        have HR := Lib.hid hr
        have HGE := Lib.hid hG
        clear hG hD hd hr hlen
        go_wp2_with fail
        refine (lq_due H.out now HSH.out.le (by have := HC.out; omega) G HGE.out d HKD.out).mono ?_
        rintro e w5 ⟨v5, c5, rfl, h5⟩
        have H := Lib.hid h5
        have HTS := Lib.hid (h5.told (List.mem_cons_self ..)).ts
        have HA := Lib.hid (h5.other (List.mem_cons_of_mem _ (List.mem_cons_self ..)) HY.out)
        clear h5
        go_wp2
        go_loopg [11, 13] d.length (fun gj u11 u13 wx => ∃ (j : Nat) (la : Int), u11 = .int .i64 la ∧ u13 = .int .i64 (j : Int) ∧ j + gj = d.length ∧ (∀ e ∈ D.drop j, la ≤ e.2) ∧ Below w5.heap.size w5 wx)
        case atStart => exact ⟨0, 0, rfl, rfl, by omega, HD0.out, Below.refl _ _⟩
        case round =>
          obtain ⟨j, la, rfl, rfl, hj, hla, hbel⟩ := hrel
          have HB := Lib.hid hbel
          cases gk with
          | succ gj =>
            have hjl : j < d.length := by omega
            have l2 : (j : Int) < (d.length : Int) := by omega
            have l0j : (0 : Int) ≤ (j : Int) := by omega
            obtain ⟨j1, hj1⟩ : ∃ j1, j + 1 = j1 := ⟨_, rfl⟩
            have wj : IntKind.i64.wrap ((j : Int) + 1) = (j1 : Int) := by rw [show (j : Int) + 1 = (j1 : Int) by omega]; exact IntWalk.i64_in _ (by have := HLN.out; omega)
            have HJ1 : Hid (j1 + gj = d.length) := Lib.hid (by omega)
            have hjD : j < D.length := by have := HLN.out; omega
            have hdr : D.drop j = D[j] :: D.drop (j + 1) := List.drop_eq_getElem_cons hjD
            have hm : D[j] ∈ D := List.getElem_mem _
            have hjz : d[j]? = some (D[j]).1 := by rw [← HDD.out]; unfold keysI; rw [List.getElem?_map, List.getElem?_eq_getElem hjD]; rfl
            obtain ⟨⟨dk, da⟩, hde⟩ : ∃ e, D[j] = e := ⟨_, rfl⟩
            rw [hde] at hdr hm hjz
            simp only at hjz
            have nla : ¬ (da < la) := by have := hla (dk, da) (by rw [hdr]; exact List.mem_cons_self ..); simp only at this; omega
            have nnow : ¬ (now < da) := by have h9 := (HF.out _ hm).2.2; simp only at h9; omega
            have HAT : Hid (atI dk I = some da ∧ atI dk G = none) := Lib.hid ⟨(HF.out _ hm).1, (HF.out _ hm).2.1⟩
            have HLA : Hid (∀ e ∈ D.drop j1, da ≤ e.2) := Lib.hid (by
              have h1 := HDP.out.sublist (List.drop_sublist j D)
              rw [hdr] at h1
              rw [← hj1]
              exact (List.pairwise_cons.1 h1).1)
            have HDK : Hid (dk.size ≤ 281474976710656) := Lib.hid (by
              have h1 : (dk, da) ∈ I := by
                have := HF.out _ hm
                have h2 : atI dk I = some da := this.1
                unfold atI at h2
                cases hf : I.find? (fun e => decide (e.1 = dk)) with
                | none => rw [hf] at h2; cases h2
                | some e =>
                  rw [hf] at h2
                  have h3 := List.mem_of_find?_eq_some hf
                  have h4 := List.find?_some hf
                  injection h2 with h2
                  have h5 : e.1 = dk := by simpa using h4
                  rw [← h2, ← h5]; exact h3
              have := HSH.out _ h1
              simp only at this
              omega)
            obtain ⟨mb, mo, mc, he, _, hx⟩ := (HTS.out.below hbel).inv (by omega)
            injection he with he1 _ he3
            subst he1 he3
            have y0 := hx j dk hjz
            have HMB : Hid (mb < wr.heap.size) := Lib.hid (World.block_lt_of_cell? _ _ y0)
            clear hj hjl hj1 hjz hx hla hbel hjD hdr hm hde
            go_wp2_with fail
            refine (lq_at (HA.out.below HB.out) dk HDK.out (.tuple #[.int .i64 da, .bool true]) (by rw [HAT.out.1]; rfl)).mono ?_
            rintro e w6 ⟨rfl, hb6⟩
            have y1 := (hb6.cell (p := ⟨mb, mo + j, none⟩) HMB.out).trans y0
            have HB6 := Lib.hid (HB.out.trans (hb6.mono HB.out.size))
            clear y0 hb6
            go_wp2_with fail
            refine (lq_at (H.out.below HB6.out) dk HDK.out (.tuple #[.int .i64 0, .bool false]) (by rw [HAT.out.2]; rfl)).mono ?_
            rintro e w7 ⟨rfl, hb7⟩
            have HB7 := Lib.hid (HB6.out.trans (hb7.mono HB6.out.size))
            clear hb7 y1
            go_wp2
            go_roundg gj
            case measure => exact Nat.lt_succ_self _
            case rel => exact ⟨j1, da, rfl, rfl, HJ1.out, HLA.out, HB7.out⟩
          | zero =>
            have l2 : ¬ ((j : Int) < (d.length : Int)) := by omega
            have H := Lib.hid ((H.out.below hbel).nil)
            obtain ⟨rn, hrn⟩ : ∃ x, r.length = x := ⟨_, rfl⟩
            have HRN := Lib.hid hrn
            have ws : IntKind.i64.wrap ((d.length : Int) + (rn : Int)) = (c : Int) := by rw [IntWalk.i64_in _ (by have := HLN.out; have := HRN.out; omega)]; have := HLN.out; have := HRN.out; omega
            clear hj hla hbel hrn
            by_cases hG0 : G = []
            · have HNX : Hid (NexI G.head? = .tuple #[.int .i64 0, .bool false]) := Lib.hid (by rw [hG0]; rfl)
              have hr0 : ¬ ((0 : Int) < (rn : Int)) := by have h1 := HLN.out; have h2 := HRN.out; rw [hG0, List.length_nil] at h1; omega
              have HR00 : Hid (rn = 0) := Lib.hid (by have h1 := HLN.out; have h2 := HRN.out; rw [hG0, List.length_nil] at h1; omega)
              clear hG0
              go_wp2_with fail
              refine (lq_next H.out _ HNX.out).mono ?_
              rintro e w' ⟨rfl, rfl⟩
              go_wp2_with fail
              refine (lq_keysN H.out (by have := HC.out; omega) r HR.out rn HRN.out).mono ?_
              rintro e w6 ⟨v6, c6, rfl, hb6, h6⟩
              have H := Lib.hid h6
              clear hb6 h6
              go_wp2_with fail
              refine (lq_due H.out now HGS.out.le (by have := HC.out; omega) G HGG.out.1 [] (by rw [HGG.out.2]; rfl)).mono ?_
              rintro e w7 ⟨v7, c7, rfl, h7⟩
              have H := Lib.hid h7
              clear h7
              go_wp2_with fail
              refine (lq_due H.out 1099511627776 HGS.out.le (by have := HC.out; omega) [] HGR.out.gt r (by rw [HGR.out.le]; exact HR.out)).mono ?_
              rintro e w8 ⟨v8, c8, rfl, h8⟩
              have H := Lib.hid h8
              clear h8
              go_wp2_with fail
              refine (lq_texts H.out (H.out.told (List.mem_cons_self ..)).ts (show TS _ (.slice v6 0 c6) r from by have h9 := (H.out.told (List.mem_cons_of_mem _ (List.mem_cons_of_mem _ (List.mem_cons_self ..)))).ts; rw [HR00.out] at h9; exact h9) (by have := HLN.out; omega) (by have := HLN.out; omega) true (by simp)).mono ?_
              rintro e w9 ⟨rfl, m9, hw9⟩
              have H := Lib.hid (H.out.below (bel_drew hw9))
              clear hw9
              go_wp2_with fail
              refine (lq_keys H.out (by have := HC.out; omega) [] rfl).mono ?_
              rintro e w10 ⟨v10, c10, rfl, hb10, h10⟩
              have H := Lib.hid h10
              clear hb10 h10
              go_wp2_with fail
              refine (known_any _).mono ?_
              rintro e wk ⟨rfl, hk⟩
              have HK := Lib.hid hk
              clear hk
              go_wp2
              go_ret
              exact ⟨rfl, H.out.bel.trans (HK.out.mono H.out.bel.size)⟩
            · obtain ⟨eh, heh⟩ : ∃ e, G.head? = some e := by
                cases hg : G with
                | nil => exact absurd hg hG0
                | cons e G' => exact ⟨e, rfl⟩
              have HNX : Hid (NexI G.head? = .tuple #[.int .i64 eh.2, .bool true]) := Lib.hid (by rw [heh]; rfl)
              have hno : now < eh.2 := HGN.out eh (List.mem_of_mem_head? heh)
              have hr0 : (0 : Int) < (rn : Int) := by
                have := HLN.out
                have := HRN.out
                have h2 : 0 < G.length := by
                  cases hg : G with
                  | nil => exact absurd hg hG0
                  | cons e G' => simp
                omega
              clear hG0 heh
              go_wp2_with fail
              refine (lq_next H.out _ HNX.out).mono ?_
              rintro e w' ⟨rfl, rfl⟩
              go_wp2_with fail
              refine (lq_keysN H.out (by have := HC.out; omega) r HR.out rn HRN.out).mono ?_
              rintro e w6 ⟨v6, c6, rfl, hb6, h6⟩
              have H := Lib.hid h6
              clear hb6 h6
              go_wp2_with fail
              refine (lq_due H.out now HGS.out.le (by have := HC.out; omega) G HGG.out.1 [] (by rw [HGG.out.2]; rfl)).mono ?_
              rintro e w7 ⟨v7, c7, rfl, h7⟩
              have H := Lib.hid h7
              clear h7
              go_wp2_with fail
              refine (lq_due H.out 1099511627776 HGS.out.le (by have := HC.out; omega) [] HGR.out.gt r (by rw [HGR.out.le]; exact HR.out)).mono ?_
              rintro e w8 ⟨v8, c8, rfl, h8⟩
              have H := Lib.hid h8
              clear h8
              go_wp2_with fail
              refine (lq_texts H.out (H.out.told (List.mem_cons_self ..)).ts (H.out.told (List.mem_cons_of_mem _ (List.mem_cons_of_mem _ (List.mem_cons_self ..)))).ts (by have := HLN.out; omega) (by have := HLN.out; omega) true (by simp)).mono ?_
              rintro e w9 ⟨rfl, m9, hw9⟩
              have H := Lib.hid (H.out.below (bel_drew hw9))
              clear hw9
              go_wp2_with fail
              refine (lq_keys H.out (by have := HC.out; omega) [] rfl).mono ?_
              rintro e w10 ⟨v10, c10, rfl, hb10, h10⟩
              have H := Lib.hid h10
              clear hb10 h10
              go_wp2_with fail
              refine (known_any _).mono ?_
              rintro e wk ⟨rfl, hk⟩
              have HK := Lib.hid hk
              clear hk
              go_wp2
              go_ret
              exact ⟨rfl, H.out.bel.trans (HK.out.mono H.out.bel.size)⟩
      · have l1 : ¬ ((i : Int) < (l.length : Int)) := by omega
        clear hi hn hc hsh hrg hS hlt
        go_wp2_with fail
        refine (lq_copy H.out (by have := HC.out; omega)).mono ?_
        rintro e w4 ⟨ga, y, rfl, hy, h4⟩
        have H := Lib.hid h4
        have HY := Lib.hid hy
        clear hy h4
        obtain ⟨G, hG⟩ : ∃ J, gtI now I = J := ⟨_, rfl⟩
        obtain ⟨D, hD⟩ : ∃ J, leI now I = J := ⟨_, rfl⟩
        obtain ⟨d, hd⟩ : ∃ J, keysI D = J := ⟨_, rfl⟩
        obtain ⟨r, hr⟩ : ∃ J, keysI G = J := ⟨_, rfl⟩
        have hlen := le_gt_len now I
        rw [hG, hD] at hlen
        have HLN : Hid (D.length = d.length ∧ G.length = r.length ∧ d.length + r.length = c ∧ c ≤ 60) := Lib.hid (by
          have h1 : d.length = D.length := by rw [← hd]; unfold keysI; rw [List.length_map]
          have h2 : r.length = G.length := by rw [← hr]; unfold keysI; rw [List.length_map]
          have h3 := HC.out
          omega)
        have HF : Hid (∀ e ∈ D, atI e.1 I = some e.2 ∧ atI e.1 G = none ∧ ¬ now < e.2) := Lib.hid (by rw [← hD, ← hG]; exact fun e he => at_le_gt HSI.out.2.1 he)
        have HD0 : Hid (∀ e ∈ D, 0 ≤ e.2) := Lib.hid (by rw [← hD]; exact fun e he => (HRG.out e (List.mem_filter.1 he).1).1)
        have HDP : Hid (D.Pairwise (fun a b => a.2 ≤ b.2)) := Lib.hid (by rw [← hD]; exact HSI.out.1.sublist List.filter_sublist)
        have HGS : Hid (Short G) := Lib.hid (by rw [← hG]; exact HSH.out.gtI now)
        have HGR : Hid (Rng G) := Lib.hid (by rw [← hG]; exact fun e he => HRG.out e (List.mem_filter.1 he).1)
        have HGG : Hid (gtI now G = G ∧ leI now G = []) := Lib.hid (by rw [← hG]; exact ⟨gt_gt _ _, le_gt _ _⟩)
        have HGN : Hid (∀ e ∈ G, now < e.2) := Lib.hid (by rw [← hG]; exact fun e he => by simpa using (List.mem_filter.1 he).2)
        have HKD : Hid (keysI (leI now I) = d) := Lib.hid (by rw [hD]; exact hd)
        have HDD := Lib.hid hd
        have HR := Lib.hid hr
        have HGE := Lib.hid hG
        clear hG hD hd hr hlen
        go_wp2_with fail
        refine (lq_due H.out now HSH.out.le (by have := HC.out; omega) G HGE.out d HKD.out).mono ?_
        rintro e w5 ⟨v5, c5, rfl, h5⟩
        have H := Lib.hid h5
        have HTS := Lib.hid (h5.told (List.mem_cons_self ..)).ts
        have HA := Lib.hid (h5.other (List.mem_cons_of_mem _ (List.mem_cons_self ..)) HY.out)
        clear h5
        go_wp2
        go_loopg [11, 13] d.length (fun gj u11 u13 wx => ∃ (j : Nat) (la : Int), u11 = .int .i64 la ∧ u13 = .int .i64 (j : Int) ∧ j + gj = d.length ∧ (∀ e ∈ D.drop j, la ≤ e.2) ∧ Below w5.heap.size w5 wx)
        case atStart => exact ⟨0, 0, rfl, rfl, by omega, HD0.out, Below.refl _ _⟩
        case round =>
          obtain ⟨j, la, rfl, rfl, hj, hla, hbel⟩ := hrel
          have HB := Lib.hid hbel
          cases gk with
          | succ gj =>
            have hjl : j < d.length := by omega
            have l2 : (j : Int) < (d.length : Int) := by omega
            have l0j : (0 : Int) ≤ (j : Int) := by omega
            obtain ⟨j1, hj1⟩ : ∃ j1, j + 1 = j1 := ⟨_, rfl⟩
            have wj : IntKind.i64.wrap ((j : Int) + 1) = (j1 : Int) := by rw [show (j : Int) + 1 = (j1 : Int) by omega]; exact IntWalk.i64_in _ (by have := HLN.out; omega)
            have HJ1 : Hid (j1 + gj = d.length) := Lib.hid (by omega)
            have hjD : j < D.length := by have := HLN.out; omega
            have hdr : D.drop j = D[j] :: D.drop (j + 1) := List.drop_eq_getElem_cons hjD
            have hm : D[j] ∈ D := List.getElem_mem _
            have hjz : d[j]? = some (D[j]).1 := by rw [← HDD.out]; unfold keysI; rw [List.getElem?_map, List.getElem?_eq_getElem hjD]; rfl
            obtain ⟨⟨dk, da⟩, hde⟩ : ∃ e, D[j] = e := ⟨_, rfl⟩
            rw [hde] at hdr hm hjz
            simp only at hjz
            have nla : ¬ (da < la) := by have := hla (dk, da) (by rw [hdr]; exact List.mem_cons_self ..); simp only at this; omega
            have nnow : ¬ (now < da) := by have h9 := (HF.out _ hm).2.2; simp only at h9; omega
            have HAT : Hid (atI dk I = some da ∧ atI dk G = none) := Lib.hid ⟨(HF.out _ hm).1, (HF.out _ hm).2.1⟩
            have HLA : Hid (∀ e ∈ D.drop j1, da ≤ e.2) := Lib.hid (by
              have h1 := HDP.out.sublist (List.drop_sublist j D)
              rw [hdr] at h1
              rw [← hj1]
              exact (List.pairwise_cons.1 h1).1)
            have HDK : Hid (dk.size ≤ 281474976710656) := Lib.hid (by
              have h1 : (dk, da) ∈ I := by
                have := HF.out _ hm
                have h2 : atI dk I = some da := this.1
                unfold atI at h2
                cases hf : I.find? (fun e => decide (e.1 = dk)) with
                | none => rw [hf] at h2; cases h2
                | some e =>
                  rw [hf] at h2
                  have h3 := List.mem_of_find?_eq_some hf
                  have h4 := List.find?_some hf
                  injection h2 with h2
                  have h5 : e.1 = dk := by simpa using h4
                  rw [← h2, ← h5]; exact h3
              have := HSH.out _ h1
              simp only at this
              omega)
            obtain ⟨mb, mo, mc, he, _, hx⟩ := (HTS.out.below hbel).inv (by omega)
            injection he with he1 _ he3
            subst he1 he3
            have y0 := hx j dk hjz
            have HMB : Hid (mb < wr.heap.size) := Lib.hid (World.block_lt_of_cell? _ _ y0)
            clear hj hjl hj1 hjz hx hla hbel hjD hdr hm hde
            go_wp2_with fail
            refine (lq_at (HA.out.below HB.out) dk HDK.out (.tuple #[.int .i64 da, .bool true]) (by rw [HAT.out.1]; rfl)).mono ?_
            rintro e w6 ⟨rfl, hb6⟩
            have y1 := (hb6.cell (p := ⟨mb, mo + j, none⟩) HMB.out).trans y0
            have HB6 := Lib.hid (HB.out.trans (hb6.mono HB.out.size))
            clear y0 hb6
            go_wp2_with fail
            refine (lq_at (H.out.below HB6.out) dk HDK.out (.tuple #[.int .i64 0, .bool false]) (by rw [HAT.out.2]; rfl)).mono ?_
            rintro e w7 ⟨rfl, hb7⟩
            have HB7 := Lib.hid (HB6.out.trans (hb7.mono HB6.out.size))
            clear hb7 y1
            go_wp2
            go_roundg gj
            case measure => exact Nat.lt_succ_self _
            case rel => exact ⟨j1, da, rfl, rfl, HJ1.out, HLA.out, HB7.out⟩
          | zero =>
            have l2 : ¬ ((j : Int) < (d.length : Int)) := by omega
            have H := Lib.hid ((H.out.below hbel).nil)
            obtain ⟨rn, hrn⟩ : ∃ x, r.length = x := ⟨_, rfl⟩
            have HRN := Lib.hid hrn
            have ws : IntKind.i64.wrap ((d.length : Int) + (rn : Int)) = (c : Int) := by rw [IntWalk.i64_in _ (by have := HLN.out; have := HRN.out; omega)]; have := HLN.out; have := HRN.out; omega
            clear hj hla hbel hrn
            by_cases hG0 : G = []
            · have HNX : Hid (NexI G.head? = .tuple #[.int .i64 0, .bool false]) := Lib.hid (by rw [hG0]; rfl)
              have hr0 : ¬ ((0 : Int) < (rn : Int)) := by have h1 := HLN.out; have h2 := HRN.out; rw [hG0, List.length_nil] at h1; omega
              have HR00 : Hid (rn = 0) := Lib.hid (by have h1 := HLN.out; have h2 := HRN.out; rw [hG0, List.length_nil] at h1; omega)
              clear hG0
              go_wp2_with fail
              refine (lq_next H.out _ HNX.out).mono ?_
              rintro e w' ⟨rfl, rfl⟩
              go_wp2_with fail
              refine (lq_keysN H.out (by have := HC.out; omega) r HR.out rn HRN.out).mono ?_
              rintro e w6 ⟨v6, c6, rfl, hb6, h6⟩
              have H := Lib.hid h6
              clear hb6 h6
              go_wp2_with fail
              refine (lq_due H.out now HGS.out.le (by have := HC.out; omega) G HGG.out.1 [] (by rw [HGG.out.2]; rfl)).mono ?_
              rintro e w7 ⟨v7, c7, rfl, h7⟩
              have H := Lib.hid h7
              clear h7
              go_wp2_with fail
              refine (lq_due H.out 1099511627776 HGS.out.le (by have := HC.out; omega) [] HGR.out.gt r (by rw [HGR.out.le]; exact HR.out)).mono ?_
              rintro e w8 ⟨v8, c8, rfl, h8⟩
              have H := Lib.hid h8
              clear h8
              go_wp2_with fail
              refine (lq_texts H.out (H.out.told (List.mem_cons_self ..)).ts (show TS _ (.slice v6 0 c6) r from by have h9 := (H.out.told (List.mem_cons_of_mem _ (List.mem_cons_of_mem _ (List.mem_cons_self ..)))).ts; rw [HR00.out] at h9; exact h9) (by have := HLN.out; omega) (by have := HLN.out; omega) true (by simp)).mono ?_
              rintro e w9 ⟨rfl, m9, hw9⟩
              have H := Lib.hid (H.out.below (bel_drew hw9))
              clear hw9
              go_wp2_with fail
              refine (lq_keys H.out (by have := HC.out; omega) [] rfl).mono ?_
              rintro e w10 ⟨v10, c10, rfl, hb10, h10⟩
              have H := Lib.hid h10
              clear hb10 h10
              go_wp2_with fail
              refine (known_any _).mono ?_
              rintro e wk ⟨rfl, hk⟩
              have HK := Lib.hid hk
              clear hk
              go_wp2
              go_ret
              exact ⟨rfl, H.out.bel.trans (HK.out.mono H.out.bel.size)⟩
            · obtain ⟨eh, heh⟩ : ∃ e, G.head? = some e := by
                cases hg : G with
                | nil => exact absurd hg hG0
                | cons e G' => exact ⟨e, rfl⟩
              have HNX : Hid (NexI G.head? = .tuple #[.int .i64 eh.2, .bool true]) := Lib.hid (by rw [heh]; rfl)
              have hno : now < eh.2 := HGN.out eh (List.mem_of_mem_head? heh)
              have hr0 : (0 : Int) < (rn : Int) := by
                have := HLN.out
                have := HRN.out
                have h2 : 0 < G.length := by
                  cases hg : G with
                  | nil => exact absurd hg hG0
                  | cons e G' => simp
                omega
              clear hG0 heh
              go_wp2_with fail
              refine (lq_next H.out _ HNX.out).mono ?_
              rintro e w' ⟨rfl, rfl⟩
              go_wp2_with fail
              refine (lq_keysN H.out (by have := HC.out; omega) r HR.out rn HRN.out).mono ?_
              rintro e w6 ⟨v6, c6, rfl, hb6, h6⟩
              have H := Lib.hid h6
              clear hb6 h6
              go_wp2_with fail
              refine (lq_due H.out now HGS.out.le (by have := HC.out; omega) G HGG.out.1 [] (by rw [HGG.out.2]; rfl)).mono ?_
              rintro e w7 ⟨v7, c7, rfl, h7⟩
              have H := Lib.hid h7
              clear h7
              go_wp2_with fail
              refine (lq_due H.out 1099511627776 HGS.out.le (by have := HC.out; omega) [] HGR.out.gt r (by rw [HGR.out.le]; exact HR.out)).mono ?_
              rintro e w8 ⟨v8, c8, rfl, h8⟩
              have H := Lib.hid h8
              clear h8
              go_wp2_with fail
              refine (lq_texts H.out (H.out.told (List.mem_cons_self ..)).ts (H.out.told (List.mem_cons_of_mem _ (List.mem_cons_of_mem _ (List.mem_cons_self ..)))).ts (by have := HLN.out; omega) (by have := HLN.out; omega) true (by simp)).mono ?_
              rintro e w9 ⟨rfl, m9, hw9⟩
              have H := Lib.hid (H.out.below (bel_drew hw9))
              clear hw9
              go_wp2_with fail
              refine (lq_keys H.out (by have := HC.out; omega) [] rfl).mono ?_
              rintro e w10 ⟨v10, c10, rfl, hb10, h10⟩
              have H := Lib.hid h10
              clear hb10 h10
              go_wp2_with fail
              refine (known_any _).mono ?_
              rintro e wk ⟨rfl, hk⟩
              have HK := Lib.hid hk
              clear hk
              go_wp2
              go_ret
              exact ⟨rfl, H.out.bel.trans (HK.out.mono H.out.bel.size)⟩
    | succ gko =>
      have hlt : i < l.length := by omega
      have l0 : (0 : Int) ≤ (i : Int) := by omega
      have l1 : (i : Int) < (l.length : Int) := by omega
      have i60 : (i : Int) < 60 := by omega
      obtain ⟨i1, hi1⟩ : ∃ i1, i + 1 = i1 := ⟨_, rfl⟩
      have wk : IntKind.i64.wrap ((i : Int) + 1) = (i1 : Int) := by rw [show (i : Int) + 1 = (i1 : Int) by omega]; exact IntWalk.i64_in _ (by omega)
      have HI1 : Hid (i1 + gko = min l.length 60 ∧ n + 1 ≤ i1 ∧ n ≤ 60) := Lib.hid (by omega)
      have hop := HL.out.below hS.bel
      obtain ⟨ob, oo, oc, he, hcp, hx⟩ := hop.inv (by omega)
      injection he with he1 _ he3
      subst he1 he3
      obtain ⟨op, hop0⟩ : ∃ o, l[i] = o := ⟨_, rfl⟩
      obtain ⟨⟨q0, q1⟩, x0, x1, x2⟩ := hx i op (by rw [List.getElem?_eq_getElem hlt, hop0])
      obtain ⟨kd, k, z⟩ := op
      simp only at x0 x1 x2 q0 q1
      have HLI := Lib.hid hlt
      have HOPI : Hid (l[i]? = some (kd, k, z)) := Lib.hid (by rw [List.getElem?_eq_getElem hlt, hop0])
      have HX : Hid (ob < wr.heap.size) := Lib.hid (World.block_lt_of_cell? _ _ x1)
      obtain ⟨c1, hc1⟩ : ∃ c1, c + 1 = c1 := ⟨_, rfl⟩
      have HC1 := Lib.hid hc1
      have wc : IntKind.i64.wrap ((c : Int) + 1) = (c1 : Int) := by rw [show (c : Int) + 1 = (c1 : Int) by omega]; exact IntWalk.i64_in _ (by have := HC.out; omega)
      clear hi hn hc hsh hrg hS hlt hi1 hop hcp hx hop0 q0 q1 x0 hc1
      by_cases h100 : k.size ≤ 100
      · have k100 : ¬ ((100 : Int) < (k.size : Int)) := by omega
        have HK100 := Lib.hid h100
        clear h100
        cases ha : atI k I with
        | none =>
          by_cases hz : 0 ≤ z ∧ z ≤ 1099511627776
          · have HZ := Lib.hid hz
            have HA := Lib.hid ha
            clear hz ha
            go_wp2_with fail
            refine (lq_at H.out k (by have := HK100.out; omega) (.tuple #[.int .i64 0, .bool false]) (by rw [HA.out]; rfl)).mono ?_
            rintro e w2 ⟨rfl, hb2⟩
            have y1 := (hb2.cell (p := ⟨ob, oo + i * 3 + 1, none⟩) HX.out).trans x1
            have y2 := (hb2.cell (p := ⟨ob, oo + i * 3 + 2, none⟩) HX.out).trans x2
            have H := Lib.hid (H.out.below hb2)
            clear hb2 x1 x2
            go_wp2_with fail
            refine wp_region_held_drew (S := (fun w' => w'.cell? ⟨ob, oo + i * 3 + 1, none⟩ = some (.string k) ∧ w'.cell? ⟨ob, oo + i * 3 + 2, none⟩ = some (.int .i64 z))) (by kernel_rfl) ?_ (fun hS => ?_)
            · exact ⟨y1, y2⟩
            have H := Lib.hid (H.out.below (show Below w2.heap.size w2 w2.drew from below_drewN _ _ 1))
            refine tkY 0 ?_ rfl hS ?_ ?_
            rotate_left
            · intro wz hz
              obtain ⟨z1, z2⟩ := hz
              go_simp
              all_goals first | with_reducible rfl | omega
            try simp only [Act.put, pu]
            refine tkY 1 ?_ rfl hS ?_ ?_
            rotate_left
            · intro wz hz
              obtain ⟨z1, z2⟩ := hz
              go_simp
              all_goals first | with_reducible rfl | omega
            try simp only [Act.put, pu]
            refine tkY 2 ?_ rfl hS ?_ ?_
            rotate_left
            · intro wz hz
              obtain ⟨z1, z2⟩ := hz
              go_simp
              all_goals first | with_reducible rfl | omega
            try simp only [Act.put, pu]
            refine tkY 3 ?_ rfl hS ?_ ?_
            rotate_left
            · intro wz hz
              obtain ⟨z1, z2⟩ := hz
              go_simp
              all_goals first | with_reducible rfl | omega
            try simp only [Act.put, pu]
            refine tkY 4 ?_ rfl hS ?_ ?_
            rotate_left
            · intro wz hz
              obtain ⟨z1, z2⟩ := hz
              go_simp
              all_goals first | with_reducible rfl | omega
            try simp only [Act.put, pu]
            refine tkY 5 ?_ rfl hS ?_ ?_
            rotate_left
            · intro wz hz
              obtain ⟨z1, z2⟩ := hz
              go_simp
              all_goals first | with_reducible rfl | omega
            try simp only [Act.put, pu]
            refine tkY 6 ?_ rfl hS ?_ ?_
            rotate_left
            · intro wz hz
              obtain ⟨z1, z2⟩ := hz
              go_simp
              all_goals first | with_reducible rfl | omega
            try simp only [Act.put, pu]
            refine tkY 7 ?_ rfl hS ?_ ?_
            rotate_left
            · intro wz hz
              obtain ⟨z1, z2⟩ := hz
              go_simp
              all_goals first | with_reducible rfl | omega
            try simp only [Act.put, pu]
            refine tkY 8 ?_ rfl hS ?_ ?_
            rotate_left
            · intro wz hz
              obtain ⟨z1, z2⟩ := hz
              go_simp
              all_goals first | with_reducible rfl | omega
            try simp only [Act.put, pu]
            refine tkY 9 ?_ rfl hS ?_ ?_
            rotate_left
            · intro wz hz
              obtain ⟨z1, z2⟩ := hz
              go_simp
              all_goals first | with_reducible rfl | omega
            try simp only [Act.put, pu]
            refine tkY 10 ?_ rfl hS ?_ ?_
            rotate_left
            · intro wz hz
              obtain ⟨z1, z2⟩ := hz
              go_simp
              all_goals first | with_reducible rfl | omega
            try simp only [Act.put, pu]
            refine wpAnyH_ready (rs := [11]) (by kernel_rfl) (by simp) (AllReadyH.cons rfl (fun K' hK' => ?_) AllReadyH.nil)
            go_simp
            refine (lq_set H.out k (by have := HK100.out; omega) z HZ.out (by have := HI1.out; omega) _ rfl).mono ?_
            rintro e w3 ⟨rfl, h3⟩
            have H := Lib.hid h3
            have hc2 : w3.cell? ⟨ob, oo + i * 3 + 1, none⟩ = some (.string k) ∧ w3.cell? ⟨ob, oo + i * 3 + 2, none⟩ = some (.int .i64 z) := by
              obtain ⟨ob', oo', oc', he, _, hx⟩ := (HL.out.below h3.bel).inv (by have := HLI.out; omega)
              injection he with he1 _ _
              injection he1 with he1
              injection he1 with he1 he2
              subst he1 he2
              obtain ⟨_, _, y1, y2⟩ := hx i (kd, k, z) HOPI.out
              exact ⟨y1, y2⟩
            clear h3
            refine hK'.out _ _ ?_ (fun hSn => ?_)
            · exact hc2
            clear hK' K' hS
            have hS := hSn
            clear hSn
            try simp only [Act.put, pu]
            refine tkY 12 (.bool true) rfl hS ?_ ?_
            · intro wz hz
              obtain ⟨z1, z2⟩ := hz
              go_simp
              all_goals first | with_reducible rfl | omega
            try simp only [Act.put, pu]
            refine tkY 13 (.bool true) rfl hS ?_ ?_
            · intro wz hz
              obtain ⟨z1, z2⟩ := hz
              go_simp
              all_goals first | with_reducible rfl | omega
            try simp only [Act.put, pu]
            refine tkY 14 ?_ rfl hS ?_ ?_
            rotate_left
            · intro wz hz
              obtain ⟨z1, z2⟩ := hz
              go_simp
              all_goals first | with_reducible rfl | omega
            try simp only [Act.put, pu]
            refine tkY 15 ?_ rfl hS ?_ ?_
            rotate_left
            · intro wz hz
              obtain ⟨z1, z2⟩ := hz
              go_simp
              all_goals first | with_reducible rfl | omega
            try simp only [Act.put, pu]
            refine tkY 16 (.bool true) rfl hS ?_ ?_
            · intro wz hz
              obtain ⟨z1, z2⟩ := hz
              go_simp
              all_goals first | with_reducible rfl | omega
            try simp only [Act.put, pu]
            refine wpAnyH_done (by kernel_rfl) ?_ _
            clear hS y1 y2
            go_wp2
            go_roundg gko
            case measure => exact Nat.lt_succ_self _
            case rel => exact ⟨i1, n + 1, c1, _, rfl, rfl, HI1.out.1, HI1.out.2.1, by have h1 := set_len (k := k) HSI.out.2.1 z; rw [HA.out] at h1; have h2 := HC.out; have h3 := HC1.out; simp at h1; omega, HSH.out.setI HK100.out z, HRG.out.setI HZ.out, H.out⟩
          · have HZ := Lib.hid hz
            have HA := Lib.hid ha
            clear hz ha
            go_wp2_with fail
            refine (lq_at H.out k (by have := HK100.out; omega) (.tuple #[.int .i64 0, .bool false]) (by rw [HA.out]; rfl)).mono ?_
            rintro e w2 ⟨rfl, hb2⟩
            have y1 := (hb2.cell (p := ⟨ob, oo + i * 3 + 1, none⟩) HX.out).trans x1
            have y2 := (hb2.cell (p := ⟨ob, oo + i * 3 + 2, none⟩) HX.out).trans x2
            have H := Lib.hid (H.out.below hb2)
            clear hb2 x1 x2
            go_wp2_with fail
            refine wp_region_held_drew (S := (fun w' => w'.cell? ⟨ob, oo + i * 3 + 1, none⟩ = some (.string k) ∧ w'.cell? ⟨ob, oo + i * 3 + 2, none⟩ = some (.int .i64 z))) (by kernel_rfl) ?_ (fun hS => ?_)
            · exact ⟨y1, y2⟩
            have H := Lib.hid (H.out.below (show Below w2.heap.size w2 w2.drew from below_drewN _ _ 1))
            refine tkY 0 ?_ rfl hS ?_ ?_
            rotate_left
            · intro wz hz
              obtain ⟨z1, z2⟩ := hz
              go_simp
              all_goals first | with_reducible rfl | omega
            try simp only [Act.put, pu]
            refine tkY 1 ?_ rfl hS ?_ ?_
            rotate_left
            · intro wz hz
              obtain ⟨z1, z2⟩ := hz
              go_simp
              all_goals first | with_reducible rfl | omega
            try simp only [Act.put, pu]
            refine tkY 2 ?_ rfl hS ?_ ?_
            rotate_left
            · intro wz hz
              obtain ⟨z1, z2⟩ := hz
              go_simp
              all_goals first | with_reducible rfl | omega
            try simp only [Act.put, pu]
            refine tkY 3 ?_ rfl hS ?_ ?_
            rotate_left
            · intro wz hz
              obtain ⟨z1, z2⟩ := hz
              go_simp
              all_goals first | with_reducible rfl | omega
            try simp only [Act.put, pu]
            refine tkY 4 ?_ rfl hS ?_ ?_
            rotate_left
            · intro wz hz
              obtain ⟨z1, z2⟩ := hz
              go_simp
              all_goals first | with_reducible rfl | omega
            try simp only [Act.put, pu]
            refine tkY 5 ?_ rfl hS ?_ ?_
            rotate_left
            · intro wz hz
              obtain ⟨z1, z2⟩ := hz
              go_simp
              all_goals first | with_reducible rfl | omega
            try simp only [Act.put, pu]
            refine tkY 6 ?_ rfl hS ?_ ?_
            rotate_left
            · intro wz hz
              obtain ⟨z1, z2⟩ := hz
              go_simp
              all_goals first | with_reducible rfl | omega
            try simp only [Act.put, pu]
            refine tkY 7 ?_ rfl hS ?_ ?_
            rotate_left
            · intro wz hz
              obtain ⟨z1, z2⟩ := hz
              go_simp
              all_goals first | with_reducible rfl | omega
            try simp only [Act.put, pu]
            refine tkY 8 ?_ rfl hS ?_ ?_
            rotate_left
            · intro wz hz
              obtain ⟨z1, z2⟩ := hz
              go_simp
              all_goals first | with_reducible rfl | omega
            try simp only [Act.put, pu]
            refine tkY 9 ?_ rfl hS ?_ ?_
            rotate_left
            · intro wz hz
              obtain ⟨z1, z2⟩ := hz
              go_simp
              all_goals first | with_reducible rfl | omega
            try simp only [Act.put, pu]
            refine tkY 10 ?_ rfl hS ?_ ?_
            rotate_left
            · intro wz hz
              obtain ⟨z1, z2⟩ := hz
              go_simp
              all_goals first | with_reducible rfl | omega
            try simp only [Act.put, pu]
            refine wpAnyH_ready (rs := [11]) (by kernel_rfl) (by simp) (AllReadyH.cons rfl (fun K' hK' => ?_) AllReadyH.nil)
            go_simp
            refine (lq_err H.out k z HZ.out).mono ?_
            rintro e w3 ⟨rfl, rfl⟩
            refine hK'.out _ _ ?_ (fun hSn => ?_)
            · exact hS
            clear hK' K' hS
            have hS := hSn
            clear hSn
            try simp only [Act.put, pu]
            refine tkY 12 (.bool false) rfl hS ?_ ?_
            · intro wz hz
              obtain ⟨z1, z2⟩ := hz
              go_simp
              all_goals first | with_reducible rfl | omega
            try simp only [Act.put, pu]
            refine tkY 13 (.bool false) rfl hS ?_ ?_
            · intro wz hz
              obtain ⟨z1, z2⟩ := hz
              go_simp
              all_goals first | with_reducible rfl | omega
            try simp only [Act.put, pu]
            refine tkN 14 rfl hS ?_
            try simp only [Act.put, pu]
            refine tkN 15 rfl hS ?_
            try simp only [Act.put, pu]
            refine tkY 16 (.bool false) rfl hS ?_ ?_
            · intro wz hz
              obtain ⟨z1, z2⟩ := hz
              go_simp
              all_goals first | with_reducible rfl | omega
            try simp only [Act.put, pu]
            refine wpAnyH_done (by kernel_rfl) ?_ _
            clear hS y1 y2
            go_wp2
            go_roundg gko
            case measure => exact Nat.lt_succ_self _
            case rel => exact ⟨i1, n, c, I, rfl, rfl, HI1.out.1, by have := HI1.out; omega, HC.out.1, HSH.out, HRG.out, H.out⟩
        | some a =>
          by_cases hz : 0 ≤ z ∧ z ≤ 1099511627776
          · have HZ := Lib.hid hz
            have HA := Lib.hid ha
            clear hz ha
            go_wp2_with fail
            refine (lq_at H.out k (by have := HK100.out; omega) (.tuple #[.int .i64 a, .bool true]) (by rw [HA.out]; rfl)).mono ?_
            rintro e w2 ⟨rfl, hb2⟩
            have y1 := (hb2.cell (p := ⟨ob, oo + i * 3 + 1, none⟩) HX.out).trans x1
            have y2 := (hb2.cell (p := ⟨ob, oo + i * 3 + 2, none⟩) HX.out).trans x2
            have H := Lib.hid (H.out.below hb2)
            clear hb2 x1 x2
            go_wp2_with fail
            refine wp_region_held_drew (S := (fun w' => w'.cell? ⟨ob, oo + i * 3 + 1, none⟩ = some (.string k) ∧ w'.cell? ⟨ob, oo + i * 3 + 2, none⟩ = some (.int .i64 z))) (by kernel_rfl) ?_ (fun hS => ?_)
            · exact ⟨y1, y2⟩
            have H := Lib.hid (H.out.below (show Below w2.heap.size w2 w2.drew from below_drewN _ _ 1))
            refine tkY 0 ?_ rfl hS ?_ ?_
            rotate_left
            · intro wz hz
              obtain ⟨z1, z2⟩ := hz
              go_simp
              all_goals first | with_reducible rfl | omega
            try simp only [Act.put, pu]
            refine tkY 1 ?_ rfl hS ?_ ?_
            rotate_left
            · intro wz hz
              obtain ⟨z1, z2⟩ := hz
              go_simp
              all_goals first | with_reducible rfl | omega
            try simp only [Act.put, pu]
            refine tkY 2 ?_ rfl hS ?_ ?_
            rotate_left
            · intro wz hz
              obtain ⟨z1, z2⟩ := hz
              go_simp
              all_goals first | with_reducible rfl | omega
            try simp only [Act.put, pu]
            refine tkY 3 ?_ rfl hS ?_ ?_
            rotate_left
            · intro wz hz
              obtain ⟨z1, z2⟩ := hz
              go_simp
              all_goals first | with_reducible rfl | omega
            try simp only [Act.put, pu]
            refine tkY 4 ?_ rfl hS ?_ ?_
            rotate_left
            · intro wz hz
              obtain ⟨z1, z2⟩ := hz
              go_simp
              all_goals first | with_reducible rfl | omega
            try simp only [Act.put, pu]
            refine tkY 5 ?_ rfl hS ?_ ?_
            rotate_left
            · intro wz hz
              obtain ⟨z1, z2⟩ := hz
              go_simp
              all_goals first | with_reducible rfl | omega
            try simp only [Act.put, pu]
            refine tkY 6 ?_ rfl hS ?_ ?_
            rotate_left
            · intro wz hz
              obtain ⟨z1, z2⟩ := hz
              go_simp
              all_goals first | with_reducible rfl | omega
            try simp only [Act.put, pu]
            refine tkY 7 ?_ rfl hS ?_ ?_
            rotate_left
            · intro wz hz
              obtain ⟨z1, z2⟩ := hz
              go_simp
              all_goals first | with_reducible rfl | omega
            try simp only [Act.put, pu]
            refine tkY 8 ?_ rfl hS ?_ ?_
            rotate_left
            · intro wz hz
              obtain ⟨z1, z2⟩ := hz
              go_simp
              all_goals first | with_reducible rfl | omega
            try simp only [Act.put, pu]
            refine tkY 9 ?_ rfl hS ?_ ?_
            rotate_left
            · intro wz hz
              obtain ⟨z1, z2⟩ := hz
              go_simp
              all_goals first | with_reducible rfl | omega
            try simp only [Act.put, pu]
            refine tkY 10 ?_ rfl hS ?_ ?_
            rotate_left
            · intro wz hz
              obtain ⟨z1, z2⟩ := hz
              go_simp
              all_goals first | with_reducible rfl | omega
            try simp only [Act.put, pu]
            refine wpAnyH_ready (rs := [11]) (by kernel_rfl) (by simp) (AllReadyH.cons rfl (fun K' hK' => ?_) AllReadyH.nil)
            go_simp
            refine (lq_set H.out k (by have := HK100.out; omega) z HZ.out (by have := HI1.out; omega) _ rfl).mono ?_
            rintro e w3 ⟨rfl, h3⟩
            have H := Lib.hid h3
            have hc2 : w3.cell? ⟨ob, oo + i * 3 + 1, none⟩ = some (.string k) ∧ w3.cell? ⟨ob, oo + i * 3 + 2, none⟩ = some (.int .i64 z) := by
              obtain ⟨ob', oo', oc', he, _, hx⟩ := (HL.out.below h3.bel).inv (by have := HLI.out; omega)
              injection he with he1 _ _
              injection he1 with he1
              injection he1 with he1 he2
              subst he1 he2
              obtain ⟨_, _, y1, y2⟩ := hx i (kd, k, z) HOPI.out
              exact ⟨y1, y2⟩
            clear h3
            refine hK'.out _ _ ?_ (fun hSn => ?_)
            · exact hc2
            clear hK' K' hS
            have hS := hSn
            clear hSn
            try simp only [Act.put, pu]
            refine tkY 12 (.bool true) rfl hS ?_ ?_
            · intro wz hz
              obtain ⟨z1, z2⟩ := hz
              go_simp
              all_goals first | with_reducible rfl | omega
            try simp only [Act.put, pu]
            refine tkY 13 (.bool true) rfl hS ?_ ?_
            · intro wz hz
              obtain ⟨z1, z2⟩ := hz
              go_simp
              all_goals first | with_reducible rfl | omega
            try simp only [Act.put, pu]
            refine tkY 14 ?_ rfl hS ?_ ?_
            rotate_left
            · intro wz hz
              obtain ⟨z1, z2⟩ := hz
              go_simp
              all_goals first | with_reducible rfl | omega
            try simp only [Act.put, pu]
            refine tkY 15 ?_ rfl hS ?_ ?_
            rotate_left
            · intro wz hz
              obtain ⟨z1, z2⟩ := hz
              go_simp
              all_goals first | with_reducible rfl | omega
            try simp only [Act.put, pu]
            refine tkY 16 (.bool false) rfl hS ?_ ?_
            · intro wz hz
              obtain ⟨z1, z2⟩ := hz
              go_simp
              all_goals first | with_reducible rfl | omega
            try simp only [Act.put, pu]
            refine wpAnyH_done (by kernel_rfl) ?_ _
            clear hS y1 y2
            go_wp2
            go_roundg gko
            case measure => exact Nat.lt_succ_self _
            case rel => exact ⟨i1, n + 1, c, _, rfl, rfl, HI1.out.1, HI1.out.2.1, by have h1 := set_len (k := k) HSI.out.2.1 z; rw [HA.out] at h1; have h2 := HC.out; have h3 := HC1.out; simp at h1; omega, HSH.out.setI HK100.out z, HRG.out.setI HZ.out, H.out⟩
          · have HZ := Lib.hid hz
            have HA := Lib.hid ha
            clear hz ha
            go_wp2_with fail
            refine (lq_at H.out k (by have := HK100.out; omega) (.tuple #[.int .i64 a, .bool true]) (by rw [HA.out]; rfl)).mono ?_
            rintro e w2 ⟨rfl, hb2⟩
            have y1 := (hb2.cell (p := ⟨ob, oo + i * 3 + 1, none⟩) HX.out).trans x1
            have y2 := (hb2.cell (p := ⟨ob, oo + i * 3 + 2, none⟩) HX.out).trans x2
            have H := Lib.hid (H.out.below hb2)
            clear hb2 x1 x2
            go_wp2_with fail
            refine wp_region_held_drew (S := (fun w' => w'.cell? ⟨ob, oo + i * 3 + 1, none⟩ = some (.string k) ∧ w'.cell? ⟨ob, oo + i * 3 + 2, none⟩ = some (.int .i64 z))) (by kernel_rfl) ?_ (fun hS => ?_)
            · exact ⟨y1, y2⟩
            have H := Lib.hid (H.out.below (show Below w2.heap.size w2 w2.drew from below_drewN _ _ 1))
            refine tkY 0 ?_ rfl hS ?_ ?_
            rotate_left
            · intro wz hz
              obtain ⟨z1, z2⟩ := hz
              go_simp
              all_goals first | with_reducible rfl | omega
            try simp only [Act.put, pu]
            refine tkY 1 ?_ rfl hS ?_ ?_
            rotate_left
            · intro wz hz
              obtain ⟨z1, z2⟩ := hz
              go_simp
              all_goals first | with_reducible rfl | omega
            try simp only [Act.put, pu]
            refine tkY 2 ?_ rfl hS ?_ ?_
            rotate_left
            · intro wz hz
              obtain ⟨z1, z2⟩ := hz
              go_simp
              all_goals first | with_reducible rfl | omega
            try simp only [Act.put, pu]
            refine tkY 3 ?_ rfl hS ?_ ?_
            rotate_left
            · intro wz hz
              obtain ⟨z1, z2⟩ := hz
              go_simp
              all_goals first | with_reducible rfl | omega
            try simp only [Act.put, pu]
            refine tkY 4 ?_ rfl hS ?_ ?_
            rotate_left
            · intro wz hz
              obtain ⟨z1, z2⟩ := hz
              go_simp
              all_goals first | with_reducible rfl | omega
            try simp only [Act.put, pu]
            refine tkY 5 ?_ rfl hS ?_ ?_
            rotate_left
            · intro wz hz
              obtain ⟨z1, z2⟩ := hz
              go_simp
              all_goals first | with_reducible rfl | omega
            try simp only [Act.put, pu]
            refine tkY 6 ?_ rfl hS ?_ ?_
            rotate_left
            · intro wz hz
              obtain ⟨z1, z2⟩ := hz
              go_simp
              all_goals first | with_reducible rfl | omega
            try simp only [Act.put, pu]
            refine tkY 7 ?_ rfl hS ?_ ?_
            rotate_left
            · intro wz hz
              obtain ⟨z1, z2⟩ := hz
              go_simp
              all_goals first | with_reducible rfl | omega
            try simp only [Act.put, pu]
            refine tkY 8 ?_ rfl hS ?_ ?_
            rotate_left
            · intro wz hz
              obtain ⟨z1, z2⟩ := hz
              go_simp
              all_goals first | with_reducible rfl | omega
            try simp only [Act.put, pu]
            refine tkY 9 ?_ rfl hS ?_ ?_
            rotate_left
            · intro wz hz
              obtain ⟨z1, z2⟩ := hz
              go_simp
              all_goals first | with_reducible rfl | omega
            try simp only [Act.put, pu]
            refine tkY 10 ?_ rfl hS ?_ ?_
            rotate_left
            · intro wz hz
              obtain ⟨z1, z2⟩ := hz
              go_simp
              all_goals first | with_reducible rfl | omega
            try simp only [Act.put, pu]
            refine wpAnyH_ready (rs := [11]) (by kernel_rfl) (by simp) (AllReadyH.cons rfl (fun K' hK' => ?_) AllReadyH.nil)
            go_simp
            refine (lq_err H.out k z HZ.out).mono ?_
            rintro e w3 ⟨rfl, rfl⟩
            refine hK'.out _ _ ?_ (fun hSn => ?_)
            · exact hS
            clear hK' K' hS
            have hS := hSn
            clear hSn
            try simp only [Act.put, pu]
            refine tkY 12 (.bool false) rfl hS ?_ ?_
            · intro wz hz
              obtain ⟨z1, z2⟩ := hz
              go_simp
              all_goals first | with_reducible rfl | omega
            try simp only [Act.put, pu]
            refine tkY 13 (.bool false) rfl hS ?_ ?_
            · intro wz hz
              obtain ⟨z1, z2⟩ := hz
              go_simp
              all_goals first | with_reducible rfl | omega
            try simp only [Act.put, pu]
            refine tkN 14 rfl hS ?_
            try simp only [Act.put, pu]
            refine tkN 15 rfl hS ?_
            try simp only [Act.put, pu]
            refine tkY 16 (.bool false) rfl hS ?_ ?_
            · intro wz hz
              obtain ⟨z1, z2⟩ := hz
              go_simp
              all_goals first | with_reducible rfl | omega
            try simp only [Act.put, pu]
            refine wpAnyH_done (by kernel_rfl) ?_ _
            clear hS y1 y2
            go_wp2
            go_roundg gko
            case measure => exact Nat.lt_succ_self _
            case rel => exact ⟨i1, n, c, I, rfl, rfl, HI1.out.1, by have := HI1.out; omega, HC.out.1, HSH.out, HRG.out, H.out⟩
      · have k100 : (100 : Int) < (k.size : Int) := by omega
        clear h100
        go_wp2
        go_roundg gko
        case measure => exact Nat.lt_succ_self _
        case rel => exact ⟨i1, n, c, I, rfl, rfl, HI1.out.1, by have := HI1.out; omega, HC.out.1, HSH.out, HRG.out, H.out⟩
end Go.Proofs.Ytfilmbeoggmglaa.EX
