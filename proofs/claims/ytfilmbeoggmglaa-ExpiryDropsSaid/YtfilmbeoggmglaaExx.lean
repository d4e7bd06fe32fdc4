/- ExpiryDrops: its walk. No condition. -/
import Derived.Test.YtfilmbeoggmglaaExv
namespace Go.Proofs.Ytfilmbeoggmglaa.EX
open Go.ChangeShapes Go.WideShapes Go.ChangeAt Go.RowKit Go.Maps Go.ChangeMaps
open Go.Proofs.Ytfilmbeoggmglaa.SL Go.Proofs.Ytfilmbeoggmglaa.RW
set_option maxRecDepth 100000
set_option linter.unusedVariables false
set_option linter.unusedSimpArgs false

set_option maxHeartbeats 16000000 in
theorem drops_any (v0 : Value) (key : ByteArray) (t : Int) (w : World) (ho : FitsO w v0) (ht : 0 ≤ t ∧ t ≤ 65535) :
    Calls Try.prog 8 #[v0, .string key, .int .u16 t] w fun e w' => e = .returned (.bool true) ∧ Below w.heap.size w w' := by
  obtain ⟨l, hl⟩ := ho
  obtain ⟨va, vc, rfl⟩ := hl.form
  have HL := Lib.hid hl
  have HT := Lib.hid ht
  have wt : IntKind.i64.wrap t = t := IntWalk.i64_in _ (by omega)
  have wt1 : IntKind.i64.wrap (t - 1) = t - 1 := IntWalk.i64_in _ (by omega)
  clear hl ht
  go_enter Try.func8, Try.ntmps8
  go_wp2_with fail
  refine (lq_new w _ (Below.refl _ _)).mono ?_
  rintro e w1 ⟨g, rfl, h1, _⟩
  have H := Lib.hid h1
  clear h1
  by_cases hk0 : key.size ≤ 100
  · have nk : ¬ ((100 : Int) < (key.size : Int)) := by omega
    have HKY : Hid (key.size ≤ 281474976710656) := Lib.hid (by omega)
    have HKY0 := Lib.hid hk0
    clear hk0
    go_wp2
    go_loopg [8] (min l.length 40) (fun gk u8 wx => ∃ (i n : Nat) (I : List It), u8 = .int .i64 (i : Int) ∧ i + gk = min l.length 40 ∧ n ≤ i ∧ Short I ∧ LQ w wx g n I [])
    case atStart => exact ⟨0, 0, [], rfl, by omega, by omega, (fun x hx => by cases hx), H.out⟩
    case round =>
      obtain ⟨i, n, I, rfl, hi, hn, hsh, hS⟩ := hrel
      have HSH := Lib.hid hsh
      have H := Lib.hid hS
      cases gk with
      | zero =>
        have HN : Hid (n ≤ 40) := Lib.hid (by omega)
        by_cases hlt : i < l.length
        · have l1 : (i : Int) < (l.length : Int) := by omega
          have i40 : ¬ ((i : Int) < 40) := by omega
          clear hi hn hsh hS hlt
          go_wp2_with fail
          refine (lq_drop H.out key HKY.out (by have := HN.out; omega) _ rfl _ rfl).mono ?_
          rintro e w2 ⟨rfl, h2⟩
          have H := Lib.hid h2
          clear h2
          obtain ⟨I2, hI2⟩ : ∃ J, dropI key I = J := ⟨_, rfl⟩
          rw [hI2] at H
          have HSH2 := Lib.hid (HSH.out.dropI key)
          rw [hI2] at HSH2
          have HNO : Hid (∀ e ∈ I2, e.1 ≠ key) := Lib.hid (by rw [← hI2]; exact no_drop)
          clear hI2
          go_wp2_with fail
          refine (lq_at H.out key HKY.out (.tuple #[.int .i64 0, .bool false]) (by rw [atI_none HNO.out]; rfl)).mono ?_
          rintro e w3 ⟨rfl, hb3⟩
          have H := Lib.hid (H.out.below hb3)
          clear hb3
          go_wp2_with fail
          refine (lq_copy H.out (by have := HN.out; omega)).mono ?_
          rintro e w4 ⟨gc, y, rfl, hy, h4⟩
          obtain ⟨x, hx, h5⟩ := h4.turn (List.mem_cons_self ..) hy
          have H := Lib.hid h5
          have HX := Lib.hid hx
          clear hy h4 h5 hx
          obtain ⟨d, hd⟩ : ∃ d, keysI (leI 1099511627776 I2) = d := ⟨_, rfl⟩
          have HD : Hid (∀ z ∈ d, z ≠ key) := Lib.hid (by
            rw [← hd]
            intro z hz
            obtain ⟨e, he, rfl⟩ := List.mem_map.1 hz
            exact HNO.out e (List.mem_filter.1 he).1)
          have HDL : Hid (d.length ≤ 1000) := Lib.hid (by
            rw [← hd]
            unfold keysI leI
            rw [List.length_map]
            have h1 := List.length_filter_le (fun e : It => !decide (1099511627776 < e.2)) I2
            have h2 := H.out.si.2.2
            have h3 := HN.out
            omega)
          have HDD := Lib.hid hd
          clear hd
          go_wp2_with fail
          refine (lq_due H.out 1099511627776 HSH2.out.le (by have := HN.out; omega) _ rfl d HDD.out).mono ?_
          rintro e w5 ⟨v5, c5, rfl, h5⟩
          have H := Lib.hid h5
          have HTS := Lib.hid (h5.told (List.mem_cons_self ..)).ts
          clear h5
          go_wp2
          go_loopg [13] d.length (fun gj u13 wx => ∃ (j nn : Nat), u13 = .int .i64 (j : Int) ∧ j + gj = d.length ∧ wx = w5.drewN nn)
          case atStart => exact ⟨0, 0, rfl, by omega, rfl⟩
          case round =>
            obtain ⟨j, nn, rfl, hj, rfl⟩ := hrel
            cases gk with
            | succ gj =>
              have hjl : j < d.length := by omega
              have l2 : (j : Int) < (d.length : Int) := by omega
              have l0j : (0 : Int) ≤ (j : Int) := by omega
              obtain ⟨j1, hj1⟩ : ∃ j1, j + 1 = j1 := ⟨_, rfl⟩
              have wj : IntKind.i64.wrap ((j : Int) + 1) = (j1 : Int) := by rw [show (j : Int) + 1 = (j1 : Int) by omega]; exact IntWalk.i64_in _ (by have := HDL.out; omega)
              have HJ1 : Hid (j1 + gj = d.length) := Lib.hid (by omega)
              obtain ⟨z, hz⟩ : ∃ z, d[j] = z := ⟨_, rfl⟩
              have hjz : d[j]? = some z := by rw [List.getElem?_eq_getElem hjl, hz]
              have es : (z.toList == key.toList) = false := by rw [tl_dec]; exact decide_eq_false (HD.out z (by rw [← hz]; exact List.getElem_mem _))
              obtain ⟨mb, mo, mc, he, _, hx⟩ := HTS.out.inv (by omega)
              injection he with he1 _ he3
              subst he1 he3
              have y0 := hx j z hjz
              clear hj hjl hj1 hz hjz hx
              go_wp2
              go_roundg gj
              case measure => exact Nat.lt_succ_self _
              case rel => exact ⟨j1, nn, rfl, HJ1.out, rfl⟩
            | zero =>
              have l2 : ¬ ((j : Int) < (d.length : Int)) := by omega
              obtain ⟨x2, hx2, h6⟩ := (H.out.below (below_drewN _ _ nn)).turn (List.mem_cons_of_mem _ (List.mem_cons_self ..)) HX.out
              have H := Lib.hid h6.nil
              clear hj h6 hx2
              go_wp2_with fail
              refine (lq_set H.out key HKY.out t (by have := HT.out; omega) (by have := HN.out; omega) _ rfl).mono ?_
              rintro e w6 ⟨rfl, h6⟩
              have H := Lib.hid h6
              clear h6
              have HSH3 := Lib.hid (HSH2.out.setI HKY0.out t)
              go_wp2_with fail
              refine (lq_copy H.out (by have := HN.out; omega)).mono ?_
              rintro e w7 ⟨ge, y2, rfl, hy2, h7⟩
              obtain ⟨x3, hx3, h8⟩ := h7.turn (List.mem_cons_self ..) hy2
              have H := Lib.hid h8
              have HX3 := Lib.hid hx3
              clear hy2 h7 h8 hx3
              go_wp2_with fail
              refine (lq_due H.out (t - 1) HSH3.out.le (by have := HN.out; omega) _ rfl _ rfl).mono ?_
              rintro e w8 ⟨v8, c8, rfl, h8⟩
              have H := Lib.hid h8
              clear h8
              go_wp2_with fail
              refine (lq_at H.out key HKY.out (.tuple #[.int .i64 t, .bool true]) (by rw [at_early]; rfl)).mono ?_
              rintro e w9 ⟨rfl, hb9⟩
              obtain ⟨x4, hx4, h9⟩ := (H.out.below hb9).turn (List.mem_cons_of_mem _ (List.mem_cons_self ..)) HX3.out
              have H := Lib.hid h9.nil
              clear hb9 h9 hx4
              go_wp2_with fail
              refine (lq_due H.out t HSH3.out.le (by have := HN.out; omega) _ rfl _ rfl).mono ?_
              rintro e w10 ⟨v10, c10, rfl, h10⟩
              have H := Lib.hid h10
              clear h10
              go_wp2_with fail
              refine (lq_at H.out key HKY.out (.tuple #[.int .i64 0, .bool false]) (by rw [at_gone]; rfl)).mono ?_
              rintro e w11 ⟨rfl, hb11⟩
              have H := Lib.hid (H.out.below hb11)
              clear hb11
              go_wp2_with fail
              refine (known_any _).mono ?_
              rintro e wk ⟨rfl, hk⟩
              have HK := Lib.hid hk
              clear hk
              go_wp2
              go_ret
              exact ⟨rfl, H.out.bel.trans (HK.out.mono H.out.bel.size)⟩
        · have l1 : ¬ ((i : Int) < (l.length : Int)) := by omega
          clear hi hn hsh hS hlt
          go_wp2_with fail
          refine (lq_drop H.out key HKY.out (by have := HN.out; omega) _ rfl _ rfl).mono ?_
          rintro e w2 ⟨rfl, h2⟩
          have H := Lib.hid h2
          clear h2
          obtain ⟨I2, hI2⟩ : ∃ J, dropI key I = J := ⟨_, rfl⟩
          rw [hI2] at H
          have HSH2 := Lib.hid (HSH.out.dropI key)
          rw [hI2] at HSH2
          have HNO : Hid (∀ e ∈ I2, e.1 ≠ key) := Lib.hid (by rw [← hI2]; exact no_drop)
          clear hI2
          go_wp2_with fail
          refine (lq_at H.out key HKY.out (.tuple #[.int .i64 0, .bool false]) (by rw [atI_none HNO.out]; rfl)).mono ?_
          rintro e w3 ⟨rfl, hb3⟩
          have H := Lib.hid (H.out.below hb3)
          clear hb3
          go_wp2_with fail
          refine (lq_copy H.out (by have := HN.out; omega)).mono ?_
          rintro e w4 ⟨gc, y, rfl, hy, h4⟩
          obtain ⟨x, hx, h5⟩ := h4.turn (List.mem_cons_self ..) hy
          have H := Lib.hid h5
          have HX := Lib.hid hx
          clear hy h4 h5 hx
          obtain ⟨d, hd⟩ : ∃ d, keysI (leI 1099511627776 I2) = d := ⟨_, rfl⟩
          have HD : Hid (∀ z ∈ d, z ≠ key) := Lib.hid (by
            rw [← hd]
            intro z hz
            obtain ⟨e, he, rfl⟩ := List.mem_map.1 hz
            exact HNO.out e (List.mem_filter.1 he).1)
          have HDL : Hid (d.length ≤ 1000) := Lib.hid (by
            rw [← hd]
            unfold keysI leI
            rw [List.length_map]
            have h1 := List.length_filter_le (fun e : It => !decide (1099511627776 < e.2)) I2
            have h2 := H.out.si.2.2
            have h3 := HN.out
            omega)
          have HDD := Lib.hid hd
          clear hd
          go_wp2_with fail
          refine (lq_due H.out 1099511627776 HSH2.out.le (by have := HN.out; omega) _ rfl d HDD.out).mono ?_
          rintro e w5 ⟨v5, c5, rfl, h5⟩
          have H := Lib.hid h5
          have HTS := Lib.hid (h5.told (List.mem_cons_self ..)).ts
          clear h5
          go_wp2
          go_loopg [13] d.length (fun gj u13 wx => ∃ (j nn : Nat), u13 = .int .i64 (j : Int) ∧ j + gj = d.length ∧ wx = w5.drewN nn)
          case atStart => exact ⟨0, 0, rfl, by omega, rfl⟩
          case round =>
            obtain ⟨j, nn, rfl, hj, rfl⟩ := hrel
            cases gk with
            | succ gj =>
              have hjl : j < d.length := by omega
              have l2 : (j : Int) < (d.length : Int) := by omega
              have l0j : (0 : Int) ≤ (j : Int) := by omega
              obtain ⟨j1, hj1⟩ : ∃ j1, j + 1 = j1 := ⟨_, rfl⟩
              have wj : IntKind.i64.wrap ((j : Int) + 1) = (j1 : Int) := by rw [show (j : Int) + 1 = (j1 : Int) by omega]; exact IntWalk.i64_in _ (by have := HDL.out; omega)
              have HJ1 : Hid (j1 + gj = d.length) := Lib.hid (by omega)
              obtain ⟨z, hz⟩ : ∃ z, d[j] = z := ⟨_, rfl⟩
              have hjz : d[j]? = some z := by rw [List.getElem?_eq_getElem hjl, hz]
              have es : (z.toList == key.toList) = false := by rw [tl_dec]; exact decide_eq_false (HD.out z (by rw [← hz]; exact List.getElem_mem _))
              obtain ⟨mb, mo, mc, he, _, hx⟩ := HTS.out.inv (by omega)
              injection he with he1 _ he3
              subst he1 he3
              have y0 := hx j z hjz
              clear hj hjl hj1 hz hjz hx
              go_wp2
              go_roundg gj
              case measure => exact Nat.lt_succ_self _
              case rel => exact ⟨j1, nn, rfl, HJ1.out, rfl⟩
            | zero =>
              have l2 : ¬ ((j : Int) < (d.length : Int)) := by omega
              obtain ⟨x2, hx2, h6⟩ := (H.out.below (below_drewN _ _ nn)).turn (List.mem_cons_of_mem _ (List.mem_cons_self ..)) HX.out
              have H := Lib.hid h6.nil
              clear hj h6 hx2
              go_wp2_with fail
              refine (lq_set H.out key HKY.out t (by have := HT.out; omega) (by have := HN.out; omega) _ rfl).mono ?_
              rintro e w6 ⟨rfl, h6⟩
              have H := Lib.hid h6
              clear h6
              have HSH3 := Lib.hid (HSH2.out.setI HKY0.out t)
              go_wp2_with fail
              refine (lq_copy H.out (by have := HN.out; omega)).mono ?_
              rintro e w7 ⟨ge, y2, rfl, hy2, h7⟩
              obtain ⟨x3, hx3, h8⟩ := h7.turn (List.mem_cons_self ..) hy2
              have H := Lib.hid h8
              have HX3 := Lib.hid hx3
              clear hy2 h7 h8 hx3
              go_wp2_with fail
              refine (lq_due H.out (t - 1) HSH3.out.le (by have := HN.out; omega) _ rfl _ rfl).mono ?_
              rintro e w8 ⟨v8, c8, rfl, h8⟩
              have H := Lib.hid h8
              clear h8
              go_wp2_with fail
              refine (lq_at H.out key HKY.out (.tuple #[.int .i64 t, .bool true]) (by rw [at_early]; rfl)).mono ?_
              rintro e w9 ⟨rfl, hb9⟩
              obtain ⟨x4, hx4, h9⟩ := (H.out.below hb9).turn (List.mem_cons_of_mem _ (List.mem_cons_self ..)) HX3.out
              have H := Lib.hid h9.nil
              clear hb9 h9 hx4
              go_wp2_with fail
              refine (lq_due H.out t HSH3.out.le (by have := HN.out; omega) _ rfl _ rfl).mono ?_
              rintro e w10 ⟨v10, c10, rfl, h10⟩
              have H := Lib.hid h10
              clear h10
              go_wp2_with fail
              refine (lq_at H.out key HKY.out (.tuple #[.int .i64 0, .bool false]) (by rw [at_gone]; rfl)).mono ?_
              rintro e w11 ⟨rfl, hb11⟩
              have H := Lib.hid (H.out.below hb11)
              clear hb11
              go_wp2_with fail
              refine (known_any _).mono ?_
              rintro e wk ⟨rfl, hk⟩
              have HK := Lib.hid hk
              clear hk
              go_wp2
              go_ret
              exact ⟨rfl, H.out.bel.trans (HK.out.mono H.out.bel.size)⟩
      | succ gko =>
        have hlt : i < l.length := by omega
        have l0 : (0 : Int) ≤ (i : Int) := by omega
        have l1 : (i : Int) < (l.length : Int) := by omega
        have i40 : (i : Int) < 40 := by omega
        obtain ⟨i1, hi1⟩ : ∃ i1, i + 1 = i1 := ⟨_, rfl⟩
        have wk : IntKind.i64.wrap ((i : Int) + 1) = (i1 : Int) := by rw [show (i : Int) + 1 = (i1 : Int) by omega]; exact IntWalk.i64_in _ (by omega)
        have HI1 : Hid (i1 + gko = min l.length 40 ∧ n + 1 ≤ i1 ∧ n ≤ 40) := Lib.hid (by omega)
        have hop := HL.out.below hS.bel
        obtain ⟨ob, oo, oc, he, hcp, hx⟩ := hop.inv (by omega)
        injection he with he1 _ he3
        subst he1 he3
        obtain ⟨op, hop0⟩ : ∃ o, l[i] = o := ⟨_, rfl⟩
        obtain ⟨⟨q0, q1⟩, x0, x1, x2⟩ := hx i op (by rw [List.getElem?_eq_getElem hlt, hop0])
        obtain ⟨kd, k, z⟩ := op
        simp only at x0 x1 x2 q0 q1
        have HLI := Lib.hid hlt
        have HOPI : Hid (l[i]? = some (kd, k, z)) := Lib.hid (by rw [List.getElem?_eq_getElem hlt, hop0])
        have HX : Hid (ob < wr.heap.size) := Lib.hid (World.block_lt_of_cell? _ _ x1)
        clear hi hn hsh hS hlt hi1 hop hcp hx hop0 q0 q1 x0
        by_cases h100 : k.size ≤ 100
        · have k100 : (k.size : Int) ≤ 100 := by omega
          have HK100 := Lib.hid h100
          clear h100
          go_wp2_with fail
          refine wp_region_held_drew (S := (fun w' => w'.cell? ⟨ob, oo + i * 3 + 1, none⟩ = some (.string k) ∧ w'.cell? ⟨ob, oo + i * 3 + 2, none⟩ = some (.int .i64 z))) (by kernel_rfl) ?_ (fun hS => ?_)
          · exact ⟨x1, x2⟩
          have H := Lib.hid (H.out.below (show Below wr.heap.size wr wr.drew from below_drewN _ _ 1))
          have HXB := Lib.hid (show Below wr.heap.size wr wr.drew from below_drewN _ _ 1)
          refine tkY 0 ?_ rfl hS ?_ ?_
          rotate_left
          · intro wz hz
            obtain ⟨z1, z2⟩ := hz
            go_simp
            all_goals first | with_reducible rfl | omega
          try simp only [Act.put, pu]
          refine tkY 1 ?_ rfl hS ?_ ?_
          rotate_left
          · intro wz hz
            obtain ⟨z1, z2⟩ := hz
            go_simp
            all_goals first | with_reducible rfl | omega
          try simp only [Act.put, pu]
          refine tkY 2 ?_ rfl hS ?_ ?_
          rotate_left
          · intro wz hz
            obtain ⟨z1, z2⟩ := hz
            go_simp
            all_goals first | with_reducible rfl | omega
          try simp only [Act.put, pu]
          refine tkY 3 ?_ rfl hS ?_ ?_
          rotate_left
          · intro wz hz
            obtain ⟨z1, z2⟩ := hz
            go_simp
            all_goals first | with_reducible rfl | omega
          try simp only [Act.put, pu]
          refine tkY 4 ?_ rfl hS ?_ ?_
          rotate_left
          · intro wz hz
            obtain ⟨z1, z2⟩ := hz
            go_simp
            all_goals first | with_reducible rfl | omega
          try simp only [Act.put, pu]
          refine tkY 5 ?_ rfl hS ?_ ?_
          rotate_left
          · intro wz hz
            obtain ⟨z1, z2⟩ := hz
            go_simp
            all_goals first | with_reducible rfl | omega
          try simp only [Act.put, pu]
          refine tkY 6 ?_ rfl hS ?_ ?_
          rotate_left
          · intro wz hz
            obtain ⟨z1, z2⟩ := hz
            go_simp
            all_goals first | with_reducible rfl | omega
          try simp only [Act.put, pu]
          refine tkY 7 ?_ rfl hS ?_ ?_
          rotate_left
          · intro wz hz
            obtain ⟨z1, z2⟩ := hz
            go_simp
            all_goals first | with_reducible rfl | omega
          try simp only [Act.put, pu]
          refine tkY 8 ?_ rfl hS ?_ ?_
          rotate_left
          · intro wz hz
            obtain ⟨z1, z2⟩ := hz
            go_simp
            all_goals first | with_reducible rfl | omega
          try simp only [Act.put, pu]
          refine tkY 9 ?_ rfl hS ?_ ?_
          rotate_left
          · intro wz hz
            obtain ⟨z1, z2⟩ := hz
            go_simp
            all_goals first | with_reducible rfl | omega
          try simp only [Act.put, pu]
          refine tkY 10 ?_ rfl hS ?_ ?_
          rotate_left
          · intro wz hz
            obtain ⟨z1, z2⟩ := hz
            go_simp
            all_goals first | with_reducible rfl | omega
          try simp only [Act.put, pu]
          refine wpAnyH_ready (rs := [11]) (by kernel_rfl) (by simp) (AllReadyH.cons rfl (fun K' hK' => ?_) AllReadyH.nil)
          go_simp
          refine (lq_seta H.out k (by have := HK100.out; omega) z (by have := HI1.out; omega)).mono ?_
          rintro e w2 ⟨rfl, n2, hn2, h2⟩
          have H := Lib.hid h2
          have HN2 := Lib.hid hn2
          have hc : w2.cell? ⟨ob, oo + i * 3 + 1, none⟩ = some (.string k) ∧ w2.cell? ⟨ob, oo + i * 3 + 2, none⟩ = some (.int .i64 z) := by
            obtain ⟨ob', oo', oc', he, _, hx⟩ := (HL.out.below h2.bel).inv (by have := HLI.out; omega)
            injection he with he1 _ _
            injection he1 with he1
            injection he1 with he1 he2
            subst he1 he2
            obtain ⟨_, _, y1, y2⟩ := hx i (kd, k, z) HOPI.out
            exact ⟨y1, y2⟩
          clear hn2 h2
          refine hK'.out _ _ ?_ (fun hSn => ?_)
          · exact hc
          clear hK' K' hS
          have hS := hSn
          clear hSn
          try simp only [Act.put, pu]
          refine wpAnyH_done (by kernel_rfl) ?_ _
          clear hS x1 x2
          go_wp2
          go_roundg gko
          case measure => exact Nat.lt_succ_self _
          case rel => exact ⟨i1, n2, _, rfl, HI1.out.1, by have := HI1.out; have := HN2.out; omega, HSH.out.setA HK100.out z, H.out⟩
        · have k100 : ¬ ((k.size : Int) ≤ 100) := by omega
          clear h100
          go_wp2
          go_roundg gko
          case measure => exact Nat.lt_succ_self _
          case rel => exact ⟨i1, n, _, rfl, HI1.out.1, by have := HI1.out; omega, HSH.out, H.out⟩
  · have nk : (100 : Int) < (key.size : Int) := by omega
    clear hk0
    go_wp2_with fail
    refine (known_any _).mono ?_
    rintro e wk ⟨rfl, hk⟩
    have HK := Lib.hid hk
    clear hk
    go_wp2
    go_ret
    exact ⟨rfl, H.out.bel.trans (HK.out.mono H.out.bel.size)⟩
end Go.Proofs.Ytfilmbeoggmglaa.EX
