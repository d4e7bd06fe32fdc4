/- What package back's Encode answers, for every kind that there is. Condition: what is told is of at most so many and so long texts (Few). -/
import Derived.Test.YtnjifbgjglniaaaBkt
namespace Go.Proofs.Ytnjifbgjglniaaa.BK
open Go.Proofs.Ytnjifbgjglniaaa
open Go.ChangeShapes Go.WideShapes Go.ChangeAt Go.RowKit
set_option linter.unusedVariables false
set_option linter.unusedSimpArgs false
set_option maxRecDepth 100000
attribute [local go_sem ↓] Go.wp_at_zero Go.wp_at_succ


set_option maxHeartbeats 2000000 in
theorem enc_done (a : Tell) (kv vv nv : Value) (w : World) (hk : kd a.kind = some .done) (f : Few a)
    (har : AR (fun i => i < w.heap.size) w (.agg (tellV a kv vv nv)) a) (hla : Lens a) :
    Calls Try.prog 13 #[.agg (tellV a kv vv nv)] w (EncP (encR a .done) w) := by
  have hst : ∀ (i : Nat) (W : World) (p : Addr) (md), (store p (.func (.func i) #[] #[]) md).run Try.prog W = stored Try.prog W p (.func (.func i) #[] #[]) md := fun i W p md => run_store Try.prog W p _ md rfl
  have db := bodies_some a.kind .done hk
  have hmn := fun w1 => @mi2_new w w1 (tellV a kv vv nv) (fnV (rdN .done)) (fnV (wrN .done))
  simp only [wrN] at db hmn
  generalize rdN .done = rd at *
  have hop := lrs_at har
  have hsh : ∀ W : World, Below w.heap.size w W → Calls Try.prog 25 #[.agg (tellV a kv vv nv)] W fun e w' => e = .returned (.bool (shortB a)) ∧ Below W.heap.size W w' := fun W hB => by
    obtain ⟨o1, o2, o3⟩ := hop W hB
    exact short_any a kv vv nv W f o1 o2
  have hwr : ∀ W : World, Below w.heap.size w W → Calls Try.prog 44 #[.agg (tellV a kv vv nv)] W (WrP (bodyD .done a) W) := fun W hB => by
    obtain ⟨o1, o2, o3⟩ := hop W hB
    exact wdone_any a kv vv nv W f
  have hbl := body_few .done a f
  have hdec := fun W => dec_any a.kind (ba (bodyD .done a)) W (by rw [ba_size]; omega)
  rw [ba_list] at hdec
  have harW : ∀ W : World, Below w.heap.size w W → AR (fun i => i < W.heap.size) W (.agg (tellV a kv vv nv)) a := fun W hB => har.step (fun b hb => hB.block b hb) (fun b hb => Nat.lt_of_lt_of_le hb hB.size)
  obtain ⟨DR, hDR⟩ : ∃ DR, decP a.kind (bodyD .done a) = DR := ⟨_, rfl⟩
  obtain ⟨da, er⟩ := DR
  rw [hDR] at hdec
  have HR : Hid (encR a .done = if shortB a = true ∧ er = 0 ∧ a = da then ((a.kind, bodyD .done a), 0) else ((0, []), 4)) := Lib.hid (by unfold encR; rw [hDR])
  have HLD : Hid (er = 0 → Lens da) := Lib.hid (fun h => by
    have := (dec_inv (k := a.kind) (s := bodyD .done a) (by rw [hDR]; exact h)).1
    rw [hDR] at this
    exact lens_right this)
  clear hDR hop
  obtain ⟨B, hB0⟩ : ∃ B, bodyD .done a = B := ⟨_, rfl⟩
  rw [hB0] at hwr hdec HR hbl
  obtain ⟨sb, hsb⟩ : ∃ sb, shortB a = sb := ⟨_, rfl⟩
  rw [hsb] at hsh HR
  clear hsb hB0 hk
  rw [box_cut] at hmn hsh hwr harW ⊢
  clear har
  go_enter Try.func13, Try.ntmps13
  go_wp2_with fail
  refine (db _).mono ?_; rintro e w1 ⟨rfl, hb1⟩
  have hM := hmn w1 hb1
  clear hmn hb1 db
  have hlt : w.heap.size + 1 < w1.heap.size := by have := hM.hX; omega
  obtain ⟨c0, c1, c2, c3, c4, c5, c6, c7⟩ := Blk.all8 hM.b0
  cases sb
  · clear hdec hwr harW HLD
    go_wp2_with fail
    refine (hsh _ hM.bel).mono ?_; rintro e w2 ⟨rfl, hb2⟩
    have hM2 := hM.below hb2
    clear hsh c0 c1 c2 c3 c4 c5 c6 c7 hb2 hM
    have f0 := hM2.b1.frozen 0
    have f1 := hM2.b1.frozen 1
    have z0 := hM2.b1.cell 0
    have z1 := hM2.b1.cell 1
    try simp only [List.getElem?_toArray, List.getElem?_cons_zero, List.getElem?_cons_succ] at z0 z1
    have hb9 := (hM2.b1.set_ 0 (.int .u8 0)).set_ 1 (.string ⟨#[]⟩)
    have hB9 := (hM2.bel.setCell (p := ⟨w.heap.size + 1, 0, none⟩) (by simp) (.int .u8 0)).setCell (p := ⟨w.heap.size + 1, 1, none⟩) (by simp) (.string ⟨#[]⟩)
    go_wp2
    refine bodyPost_ret (v := .tuple #[.agg #[.int .u8 0, .string ⟨#[]⟩], .int .i64 4]) (enc_out _ _ _ _ _ (by rfl) (by rfl) hb9 rfl) rfl ?_
    rw [HR.out, if_neg (by rintro ⟨h, _⟩; cases h)]
    exact ⟨rfl, hB9⟩
  · go_wp2_with fail
    refine (hsh _ hM.bel).mono ?_; rintro e w2 ⟨rfl, hb2⟩
    have hM2 := hM.below hb2
    clear hsh c0 c1 c2 c3 c4 c5 c6 c7 hb2 hM
    obtain ⟨c0, c1, c2, c3, c4, c5, c6, c7⟩ := Blk.all8 hM2.b0
    have lX1 : w2.cell? ⟨w1.heap.size, 1, none⟩ = some (fnV 44) := hM2.bX.cell 1
    have l0 := hM2.b0.lt
    have l1 := hM2.b1.lt
    have lX := hM2.bX.lt
    have hSD : Mi2 w #[.int .u8 (a.kind.toNat : Int), .int .u8 (a.status.toNat : Int), .string (ba a.text), kv, vv, nv, .int .i64 a.n, .int .i64 a.m] w1.heap.size (fnV rd) (fnV 44) w2.drew := hM2.below ((Below.refl _ _).drew)
    have HSD := Lib.hid hSD
    have HM2 := Lib.hid hM2
    have HWR := Lib.hid hwr
    clear hSD hwr hM2
    go_upto_region 4 with fail
    go_cut [6] (fun s6 wx => ∃ Y, s6 = .pointer (some ⟨Y, 0, none⟩) ∧ Mi3 w #[.int .u8 (a.kind.toNat : Int), .int .u8 (a.status.toNat : Int), .string (ba a.text), kv, vv, nv, .int .i64 a.n, .int .i64 a.m] w1.heap.size (fnV rd) (fnV 44) Y #[.int .u8 (a.kind.toNat : Int), .string (ba B)] wx)
    case first =>
      clear c0 c1 c2 c3 c4 c5 c6 c7 lX1 hdec harW hla HR HLD
      refine wp_region_held_drew (S := fun W => Mi2 w #[.int .u8 (a.kind.toNat : Int), .int .u8 (a.status.toNat : Int), .string (ba a.text), kv, vv, nv, .int .i64 a.n, .int .i64 a.m] w1.heap.size (fnV rd) (fnV 44) W) (by kernel_rfl) ?_ (fun hS => ?_)
      · exact HSD.out
      refine tkY 0 ?_ rfl hS ?_ ?_
      rotate_left
      · intro wz hz
        obtain ⟨c0, c1, c2, c3, c4, c5, c6, c7⟩ := Blk.all8 hz.b0
        have cX := hz.bX.cell 1
        simp only [List.getElem?_toArray, List.getElem?_cons_zero, List.getElem?_cons_succ] at cX
        go_simp
        all_goals first | with_reducible rfl | omega
      try simp only [Act.put, pu]
      refine tkY 1 ?_ rfl hS ?_ ?_
      rotate_left
      · intro wz hz
        obtain ⟨c0, c1, c2, c3, c4, c5, c6, c7⟩ := Blk.all8 hz.b0
        have cX := hz.bX.cell 1
        simp only [List.getElem?_toArray, List.getElem?_cons_zero, List.getElem?_cons_succ] at cX
        go_simp
        all_goals first | with_reducible rfl | omega
      try simp only [Act.put, pu]
      refine tkY 2 ?_ rfl hS ?_ ?_
      rotate_left
      · intro wz hz
        obtain ⟨c0, c1, c2, c3, c4, c5, c6, c7⟩ := Blk.all8 hz.b0
        have cX := hz.bX.cell 1
        simp only [List.getElem?_toArray, List.getElem?_cons_zero, List.getElem?_cons_succ] at cX
        go_simp
        all_goals first | with_reducible rfl | omega
      try simp only [Act.put, pu]
      refine tkY 3 ?_ rfl hS ?_ ?_
      rotate_left
      · intro wz hz
        obtain ⟨c0, c1, c2, c3, c4, c5, c6, c7⟩ := Blk.all8 hz.b0
        have cX := hz.bX.cell 1
        simp only [List.getElem?_toArray, List.getElem?_cons_zero, List.getElem?_cons_succ] at cX
        go_simp
        all_goals first | with_reducible rfl | omega
      try simp only [Act.put, pu]
      refine tkY 4 (.agg #[.int .u8 (a.kind.toNat : Int), .int .u8 (a.status.toNat : Int), .string (ba a.text), kv, vv, nv, .int .i64 a.n, .int .i64 a.m]) rfl hS ?_ ?_
      · intro wz hz
        obtain ⟨c0, c1, c2, c3, c4, c5, c6, c7⟩ := Blk.all8 hz.b0
        have cX := hz.bX.cell 1
        simp only [List.getElem?_toArray, List.getElem?_cons_zero, List.getElem?_cons_succ] at cX
        go_simp
        all_goals first | with_reducible rfl | omega
      try simp only [Act.put, pu]
      refine wpAnyH_ready (rs := [5, 7]) (by kernel_rfl) (by simp) (AllReadyH.cons rfl (fun K' hK' => ?_) (AllReadyH.cons rfl (fun K' hK' => ?_) AllReadyH.nil))
      · skip
        go_simp
        refine (HWR.out _ hS.bel).mono ?_
        rintro e w4 ⟨rfl, hb4⟩
        refine hK'.out _ _ (hS.below hb4) (fun hSn => ?_)
        clear hK' K' hS
        have hS := hSn
        clear hSn
        try simp only [Act.put, pu]
        refine tkY 6 ?_ rfl hS ?_ ?_
        rotate_left
        · intro wz hz
          obtain ⟨c0, c1, c2, c3, c4, c5, c6, c7⟩ := Blk.all8 hz.b0
          have cX := hz.bX.cell 1
          simp only [List.getElem?_toArray, List.getElem?_cons_zero, List.getElem?_cons_succ] at cX
          go_simp
          all_goals first | with_reducible rfl | omega
        try simp only [Act.put, pu]
        have hS0 := hS
        refine wpAnyH_ready (rs := [7]) (by kernel_rfl) (by simp) (AllReadyH.cons rfl (fun K' hK' => ?_) AllReadyH.nil)
        go_simp
        refine hK'.out _ _ (hS.below ((Below.refl _ _).alloc (Nat.le_refl _) _)) (fun hSn => ?_)
        clear hK' K' hS
        have hS := hSn
        clear hSn
        try simp only [Act.put, pu]
        refine wpAnyH_ready (rs := [8]) (by kernel_rfl) (by simp) (AllReadyH.cons rfl (fun K' hK' => ?_) AllReadyH.nil)
        go_simp
        have hm3 := mi3_late hS0 #[.int .u8 (a.kind.toNat : Int), .string (ba B)]
        have HM3 := Lib.hid hm3
        refine hK'.out _ _ hm3.m (fun hSn => ?_)
        clear hK' K' hS
        have hS := hSn
        clear hSn
        try simp only [Act.put, pu]
        clear hm3
        refine wpAnyH_done (by kernel_rfl) ?_ _
        clear hS
        go_wp2_with fail
        go_meet
        exact ⟨_, rfl, HM3.out⟩
      · skip
        go_simp
        refine hK'.out _ _ (hS.below ((Below.refl _ _).alloc (Nat.le_refl _) _)) (fun hSn => ?_)
        clear hK' K' hS
        have hS := hSn
        clear hSn
        try simp only [Act.put, pu]
        refine wpAnyH_ready (rs := [5]) (by kernel_rfl) (by simp) (AllReadyH.cons rfl (fun K' hK' => ?_) AllReadyH.nil)
        go_simp
        refine (HWR.out _ hS.bel).mono ?_
        rintro e w4 ⟨rfl, hb4⟩
        have HBY := Lib.hid hb4
        refine hK'.out _ _ (hS.below hb4) (fun hSn => ?_)
        clear hK' K' hS
        have hS := hSn
        clear hSn
        try simp only [Act.put, pu]
        refine tkY 6 ?_ rfl hS ?_ ?_
        rotate_left
        · intro wz hz
          obtain ⟨c0, c1, c2, c3, c4, c5, c6, c7⟩ := Blk.all8 hz.b0
          have cX := hz.bX.cell 1
          simp only [List.getElem?_toArray, List.getElem?_cons_zero, List.getElem?_cons_succ] at cX
          go_simp
          all_goals first | with_reducible rfl | omega
        try simp only [Act.put, pu]
        refine wpAnyH_ready (rs := [8]) (by kernel_rfl) (by simp) (AllReadyH.cons rfl (fun K' hK' => ?_) AllReadyH.nil)
        have gY : Blk w4 w2.heap.size 23 #[.int .u8 0, .string ⟨#[]⟩] := (Blk.drew_ (Blk.new w2 23 #[.int .u8 0, .string ⟨#[]⟩])).below HBY.out (by simp)
        have y0 := gY.cell 0
        have y1 := gY.cell 1
        have fy0 := gY.frozen 0
        have fy1 := gY.frozen 1
        simp only [List.getElem?_toArray, List.getElem?_cons_zero, List.getElem?_cons_succ] at y0 y1
        go_simp
        have hm3 := mi3_early HM2.out _ _ (.int .u8 (a.kind.toNat : Int)) (.string (ba B)) HBY.out
        have HM3 := Lib.hid hm3
        refine hK'.out _ _ hm3.m (fun hSn => ?_)
        clear hK' K' hS
        have hS := hSn
        clear hSn
        try simp only [Act.put, pu]
        clear hm3
        refine wpAnyH_done (by kernel_rfl) ?_ _
        clear hS
        go_wp2_with fail
        go_meet
        exact ⟨_, rfl, HM3.out⟩
    case rest =>
      obtain ⟨Y, rfl, hM3⟩ := hcut
      clear HSD HM2 HWR hst c0 c1 c2 c3 c4 c5 c6 c7 lX1 l0 l1 lX
      have d0 : wc.cell? ⟨Y, 0, none⟩ = some (.int .u8 (a.kind.toNat : Int)) := hM3.bY.cell 0
      have d1 : wc.cell? ⟨Y, 1, none⟩ = some (.string (ba B)) := hM3.bY.cell 1
      go_wp2_with fail
      refine (hdec _).mono ?_; rintro e w5 ⟨v, rfl, hv, hb5⟩
      have hM6 := hM3.below hb5
      obtain ⟨kv', vv', nv', rfl, o1, o2, o3⟩ := hv.ex
      obtain ⟨A1, p1, rfl, _, _⟩ := o1.form
      obtain ⟨A2, p2, rfl, _, _⟩ := o2.form
      obtain ⟨A3, p3, rfl, _, _⟩ := o3.form
      rw [box_cut da]
      clear hdec d0 d1 hM3 hb5
      have l0 := hM6.m.b0.lt
      have l1 := hM6.m.b1.lt
      have lY := hM6.bY.lt
      have hBB := (Below.refl w5.heap.size w5).alloc (Nat.le_refl _) (.cells (tellV da (.slice A1 (strs da.keys).length p1) (.slice A2 (strs da.vals).length p2) (.slice A3 (bools da.null).length p3)) 28)
      have hM7 := hM6.below hBB
      have hv7 : AR (fun i => i < (w5.alloc (.cells (tellV da (.slice A1 (strs da.keys).length p1) (.slice A2 (strs da.vals).length p2) (.slice A3 (bools da.null).length p3)) 28)).heap.size) (w5.alloc (.cells (tellV da (.slice A1 (strs da.keys).length p1) (.slice A2 (strs da.vals).length p2) (.slice A3 (bools da.null).length p3)) 28)) (.agg (tellV da (.slice A1 (strs da.keys).length p1) (.slice A2 (strs da.vals).length p2) (.slice A3 (bools da.null).length p3))) da :=
        AR.step ⟨_, _, _, rfl, o1, o2, o3⟩ (fun b hb => hBB.block b hb.2) (fun b hb => by have := hb.2; simp; omega)
      have ha7 := harW _ hM7.m.bel
      clear o1 o2 o3 hv hBB harW
      rw [box_cut da] at hM7 hv7 ha7
      have hs7 := same_any _ a da _ _ _ _ _ _ ha7 hv7 hla
      rw [box_cut, box_cut da] at hs7
      clear ha7 hv7
      by_cases he : er = 0
      · subst he
        obtain ⟨c0, c1, c2, c3, c4, c5, c6, c7⟩ := Blk.all8 hM6.m.b0
        have hlda := HLD.out rfl
        clear HLD
        cases heq : decide (a = da)
        all_goals
          go_wp2_with fail
          refine (hs7 hlda).mono ?_; rintro e w7 ⟨rfl, hb7⟩
          rw [heq]
          have hM8 := hM7.below hb7
          clear c0 c1 c2 c3 c4 c5 c6 c7 hM6 hM7 hs7 hb7 hlda
        · have HN := Lib.hid (of_decide_eq_false heq)
          clear heq
          have f0 := hM8.m.b1.frozen 0
          have f1 := hM8.m.b1.frozen 1
          have z0 := hM8.m.b1.cell 0
          have z1 := hM8.m.b1.cell 1
          try simp only [List.getElem?_toArray, List.getElem?_cons_zero, List.getElem?_cons_succ] at z0 z1
          have hb9 := (hM8.m.b1.set_ 0 (.int .u8 0)).set_ 1 (.string ⟨#[]⟩)
          have hB9 := (hM8.m.bel.setCell (p := ⟨w.heap.size + 1, 0, none⟩) (by simp) (.int .u8 0)).setCell (p := ⟨w.heap.size + 1, 1, none⟩) (by simp) (.string ⟨#[]⟩)
          go_wp2
          refine bodyPost_ret (v := .tuple #[.agg #[.int .u8 0, .string ⟨#[]⟩], .int .i64 4]) (enc_out _ _ _ _ _ (by rfl) (by rfl) hb9 rfl) rfl ?_
          rw [HR.out, if_neg (by rintro ⟨_, _, h⟩; exact HN.out h)]
          exact ⟨rfl, hB9⟩
        · have HN := Lib.hid (of_decide_eq_true heq)
          clear heq
          have y0 : w7.cell? ⟨Y, 0, none⟩ = some (.int .u8 (a.kind.toNat : Int)) := hM8.bY.cell 0
          have y1 : w7.cell? ⟨Y, 1, none⟩ = some (.string (ba B)) := hM8.bY.cell 1
          have f0 := hM8.m.b1.frozen 0
          have f1 := hM8.m.b1.frozen 1
          have z0 := hM8.m.b1.cell 0
          have z1 := hM8.m.b1.cell 1
          try simp only [List.getElem?_toArray, List.getElem?_cons_zero, List.getElem?_cons_succ] at z0 z1
          have hb9 := (hM8.m.b1.set_ 0 (.int .u8 (a.kind.toNat : Int))).set_ 1 (.string (ba B))
          have hB9 := (hM8.m.bel.setCell (p := ⟨w.heap.size + 1, 0, none⟩) (by simp) (.int .u8 (a.kind.toNat : Int))).setCell (p := ⟨w.heap.size + 1, 1, none⟩) (by simp) (.string (ba B))
          go_wp2
          refine bodyPost_ret (v := .tuple #[.agg #[.int .u8 (a.kind.toNat : Int), .string (ba B)], .int .i64 0]) (enc_out _ _ _ _ _ (by rfl) (by rfl) hb9 rfl) rfl ?_
          rw [HR.out, if_pos (by first | exact ⟨rfl, rfl, HN.out⟩ | exact ⟨trivial, trivial, HN.out⟩ | exact ⟨rfl, trivial, HN.out⟩ | exact ⟨trivial, rfl, HN.out⟩)]
          exact ⟨rfl, hB9⟩
      · have hbe : (er != 0) = true := by simpa using he
        have HN := Lib.hid he
        clear he HLD hs7 hla
        have f0 := hM6.m.b1.frozen 0
        have f1 := hM6.m.b1.frozen 1
        have z0 : w5.cell? ⟨w.heap.size + 1, 0, none⟩ = some (.int .u8 0) := hM6.m.b1.cell 0
        have z1 : w5.cell? ⟨w.heap.size + 1, 1, none⟩ = some (.string ⟨#[]⟩) := hM6.m.b1.cell 1
        have hb9 := ((hM6.m.b1.set_ 0 (.int .u8 0)).set_ 1 (.string ⟨#[]⟩)).alloc (.cells #[.int .u8 (da.kind.toNat : Int), .int .u8 (da.status.toNat : Int), .string (ba da.text), .slice A1 (strs da.keys).length p1, .slice A2 (strs da.vals).length p2, .slice A3 (bools da.null).length p3, .int .i64 da.n, .int .i64 da.m] 28)
        have hB9 := ((hM6.m.bel.setCell (p := ⟨w.heap.size + 1, 0, none⟩) (by simp) (.int .u8 0)).setCell (p := ⟨w.heap.size + 1, 1, none⟩) (by simp) (.string ⟨#[]⟩)).alloc (by simp [World.setCell]; omega) (.cells #[.int .u8 (da.kind.toNat : Int), .int .u8 (da.status.toNat : Int), .string (ba da.text), .slice A1 (strs da.keys).length p1, .slice A2 (strs da.vals).length p2, .slice A3 (bools da.null).length p3, .int .i64 da.n, .int .i64 da.m] 28)
        go_wp2
        refine bodyPost_ret (v := .tuple #[.agg #[.int .u8 0, .string ⟨#[]⟩], .int .i64 4]) (enc_out _ _ _ _ _ (by rfl) (by rfl) hb9 rfl) rfl ?_
        rw [HR.out, if_neg (by rintro ⟨_, h, _⟩; exact HN.out h)]
        exact ⟨rfl, hB9⟩

set_option maxHeartbeats 2000000 in
theorem enc_setting (a : Tell) (kv vv nv : Value) (w : World) (hk : kd a.kind = some .setting) (f : Few a)
    (har : AR (fun i => i < w.heap.size) w (.agg (tellV a kv vv nv)) a) (hla : Lens a) :
    Calls Try.prog 13 #[.agg (tellV a kv vv nv)] w (EncP (encR a .setting) w) := by
  have hst : ∀ (i : Nat) (W : World) (p : Addr) (md), (store p (.func (.func i) #[] #[]) md).run Try.prog W = stored Try.prog W p (.func (.func i) #[] #[]) md := fun i W p md => run_store Try.prog W p _ md rfl
  have db := bodies_some a.kind .setting hk
  have hmn := fun w1 => @mi2_new w w1 (tellV a kv vv nv) (fnV (rdN .setting)) (fnV (wrN .setting))
  simp only [wrN] at db hmn
  generalize rdN .setting = rd at *
  have hop := lrs_at har
  have hsh : ∀ W : World, Below w.heap.size w W → Calls Try.prog 25 #[.agg (tellV a kv vv nv)] W fun e w' => e = .returned (.bool (shortB a)) ∧ Below W.heap.size W w' := fun W hB => by
    obtain ⟨o1, o2, o3⟩ := hop W hB
    exact short_any a kv vv nv W f o1 o2
  have hwr : ∀ W : World, Below w.heap.size w W → Calls Try.prog 46 #[.agg (tellV a kv vv nv)] W (WrP (bodyD .setting a) W) := fun W hB => by
    obtain ⟨o1, o2, o3⟩ := hop W hB
    exact wsetting_any a kv vv nv W f o2
  have hbl := body_few .setting a f
  have hdec := fun W => dec_any a.kind (ba (bodyD .setting a)) W (by rw [ba_size]; omega)
  rw [ba_list] at hdec
  have harW : ∀ W : World, Below w.heap.size w W → AR (fun i => i < W.heap.size) W (.agg (tellV a kv vv nv)) a := fun W hB => har.step (fun b hb => hB.block b hb) (fun b hb => Nat.lt_of_lt_of_le hb hB.size)
  obtain ⟨DR, hDR⟩ : ∃ DR, decP a.kind (bodyD .setting a) = DR := ⟨_, rfl⟩
  obtain ⟨da, er⟩ := DR
  rw [hDR] at hdec
  have HR : Hid (encR a .setting = if shortB a = true ∧ er = 0 ∧ a = da then ((a.kind, bodyD .setting a), 0) else ((0, []), 4)) := Lib.hid (by unfold encR; rw [hDR])
  have HLD : Hid (er = 0 → Lens da) := Lib.hid (fun h => by
    have := (dec_inv (k := a.kind) (s := bodyD .setting a) (by rw [hDR]; exact h)).1
    rw [hDR] at this
    exact lens_right this)
  clear hDR hop
  obtain ⟨B, hB0⟩ : ∃ B, bodyD .setting a = B := ⟨_, rfl⟩
  rw [hB0] at hwr hdec HR hbl
  obtain ⟨sb, hsb⟩ : ∃ sb, shortB a = sb := ⟨_, rfl⟩
  rw [hsb] at hsh HR
  clear hsb hB0 hk
  rw [box_cut] at hmn hsh hwr harW ⊢
  clear har
  go_enter Try.func13, Try.ntmps13
  go_wp2_with fail
  refine (db _).mono ?_; rintro e w1 ⟨rfl, hb1⟩
  have hM := hmn w1 hb1
  clear hmn hb1 db
  have hlt : w.heap.size + 1 < w1.heap.size := by have := hM.hX; omega
  obtain ⟨c0, c1, c2, c3, c4, c5, c6, c7⟩ := Blk.all8 hM.b0
  cases sb
  · clear hdec hwr harW HLD
    go_wp2_with fail
    refine (hsh _ hM.bel).mono ?_; rintro e w2 ⟨rfl, hb2⟩
    have hM2 := hM.below hb2
    clear hsh c0 c1 c2 c3 c4 c5 c6 c7 hb2 hM
    have f0 := hM2.b1.frozen 0
    have f1 := hM2.b1.frozen 1
    have z0 := hM2.b1.cell 0
    have z1 := hM2.b1.cell 1
    try simp only [List.getElem?_toArray, List.getElem?_cons_zero, List.getElem?_cons_succ] at z0 z1
    have hb9 := (hM2.b1.set_ 0 (.int .u8 0)).set_ 1 (.string ⟨#[]⟩)
    have hB9 := (hM2.bel.setCell (p := ⟨w.heap.size + 1, 0, none⟩) (by simp) (.int .u8 0)).setCell (p := ⟨w.heap.size + 1, 1, none⟩) (by simp) (.string ⟨#[]⟩)
    go_wp2
    refine bodyPost_ret (v := .tuple #[.agg #[.int .u8 0, .string ⟨#[]⟩], .int .i64 4]) (enc_out _ _ _ _ _ (by rfl) (by rfl) hb9 rfl) rfl ?_
    rw [HR.out, if_neg (by rintro ⟨h, _⟩; cases h)]
    exact ⟨rfl, hB9⟩
  · go_wp2_with fail
    refine (hsh _ hM.bel).mono ?_; rintro e w2 ⟨rfl, hb2⟩
    have hM2 := hM.below hb2
    clear hsh c0 c1 c2 c3 c4 c5 c6 c7 hb2 hM
    obtain ⟨c0, c1, c2, c3, c4, c5, c6, c7⟩ := Blk.all8 hM2.b0
    have lX1 : w2.cell? ⟨w1.heap.size, 1, none⟩ = some (fnV 46) := hM2.bX.cell 1
    have l0 := hM2.b0.lt
    have l1 := hM2.b1.lt
    have lX := hM2.bX.lt
    have hSD : Mi2 w #[.int .u8 (a.kind.toNat : Int), .int .u8 (a.status.toNat : Int), .string (ba a.text), kv, vv, nv, .int .i64 a.n, .int .i64 a.m] w1.heap.size (fnV rd) (fnV 46) w2.drew := hM2.below ((Below.refl _ _).drew)
    have HSD := Lib.hid hSD
    have HM2 := Lib.hid hM2
    have HWR := Lib.hid hwr
    clear hSD hwr hM2
    go_upto_region 4 with fail
    go_cut [6] (fun s6 wx => ∃ Y, s6 = .pointer (some ⟨Y, 0, none⟩) ∧ Mi3 w #[.int .u8 (a.kind.toNat : Int), .int .u8 (a.status.toNat : Int), .string (ba a.text), kv, vv, nv, .int .i64 a.n, .int .i64 a.m] w1.heap.size (fnV rd) (fnV 46) Y #[.int .u8 (a.kind.toNat : Int), .string (ba B)] wx)
    case first =>
      clear c0 c1 c2 c3 c4 c5 c6 c7 lX1 hdec harW hla HR HLD
      refine wp_region_held_drew (S := fun W => Mi2 w #[.int .u8 (a.kind.toNat : Int), .int .u8 (a.status.toNat : Int), .string (ba a.text), kv, vv, nv, .int .i64 a.n, .int .i64 a.m] w1.heap.size (fnV rd) (fnV 46) W) (by kernel_rfl) ?_ (fun hS => ?_)
      · exact HSD.out
      refine tkY 0 ?_ rfl hS ?_ ?_
      rotate_left
      · intro wz hz
        obtain ⟨c0, c1, c2, c3, c4, c5, c6, c7⟩ := Blk.all8 hz.b0
        have cX := hz.bX.cell 1
        simp only [List.getElem?_toArray, List.getElem?_cons_zero, List.getElem?_cons_succ] at cX
        go_simp
        all_goals first | with_reducible rfl | omega
      try simp only [Act.put, pu]
      refine tkY 1 ?_ rfl hS ?_ ?_
      rotate_left
      · intro wz hz
        obtain ⟨c0, c1, c2, c3, c4, c5, c6, c7⟩ := Blk.all8 hz.b0
        have cX := hz.bX.cell 1
        simp only [List.getElem?_toArray, List.getElem?_cons_zero, List.getElem?_cons_succ] at cX
        go_simp
        all_goals first | with_reducible rfl | omega
      try simp only [Act.put, pu]
      refine tkY 2 ?_ rfl hS ?_ ?_
      rotate_left
      · intro wz hz
        obtain ⟨c0, c1, c2, c3, c4, c5, c6, c7⟩ := Blk.all8 hz.b0
        have cX := hz.bX.cell 1
        simp only [List.getElem?_toArray, List.getElem?_cons_zero, List.getElem?_cons_succ] at cX
        go_simp
        all_goals first | with_reducible rfl | omega
      try simp only [Act.put, pu]
      refine tkY 3 ?_ rfl hS ?_ ?_
      rotate_left
      · intro wz hz
        obtain ⟨c0, c1, c2, c3, c4, c5, c6, c7⟩ := Blk.all8 hz.b0
        have cX := hz.bX.cell 1
        simp only [List.getElem?_toArray, List.getElem?_cons_zero, List.getElem?_cons_succ] at cX
        go_simp
        all_goals first | with_reducible rfl | omega
      try simp only [Act.put, pu]
      refine tkY 4 (.agg #[.int .u8 (a.kind.toNat : Int), .int .u8 (a.status.toNat : Int), .string (ba a.text), kv, vv, nv, .int .i64 a.n, .int .i64 a.m]) rfl hS ?_ ?_
      · intro wz hz
        obtain ⟨c0, c1, c2, c3, c4, c5, c6, c7⟩ := Blk.all8 hz.b0
        have cX := hz.bX.cell 1
        simp only [List.getElem?_toArray, List.getElem?_cons_zero, List.getElem?_cons_succ] at cX
        go_simp
        all_goals first | with_reducible rfl | omega
      try simp only [Act.put, pu]
      refine wpAnyH_ready (rs := [5, 7]) (by kernel_rfl) (by simp) (AllReadyH.cons rfl (fun K' hK' => ?_) (AllReadyH.cons rfl (fun K' hK' => ?_) AllReadyH.nil))
      · skip
        go_simp
        refine (HWR.out _ hS.bel).mono ?_
        rintro e w4 ⟨rfl, hb4⟩
        refine hK'.out _ _ (hS.below hb4) (fun hSn => ?_)
        clear hK' K' hS
        have hS := hSn
        clear hSn
        try simp only [Act.put, pu]
        refine tkY 6 ?_ rfl hS ?_ ?_
        rotate_left
        · intro wz hz
          obtain ⟨c0, c1, c2, c3, c4, c5, c6, c7⟩ := Blk.all8 hz.b0
          have cX := hz.bX.cell 1
          simp only [List.getElem?_toArray, List.getElem?_cons_zero, List.getElem?_cons_succ] at cX
          go_simp
          all_goals first | with_reducible rfl | omega
        try simp only [Act.put, pu]
        have hS0 := hS
        refine wpAnyH_ready (rs := [7]) (by kernel_rfl) (by simp) (AllReadyH.cons rfl (fun K' hK' => ?_) AllReadyH.nil)
        go_simp
        refine hK'.out _ _ (hS.below ((Below.refl _ _).alloc (Nat.le_refl _) _)) (fun hSn => ?_)
        clear hK' K' hS
        have hS := hSn
        clear hSn
        try simp only [Act.put, pu]
        refine wpAnyH_ready (rs := [8]) (by kernel_rfl) (by simp) (AllReadyH.cons rfl (fun K' hK' => ?_) AllReadyH.nil)
        go_simp
        have hm3 := mi3_late hS0 #[.int .u8 (a.kind.toNat : Int), .string (ba B)]
        have HM3 := Lib.hid hm3
        refine hK'.out _ _ hm3.m (fun hSn => ?_)
        clear hK' K' hS
        have hS := hSn
        clear hSn
        try simp only [Act.put, pu]
        clear hm3
        refine wpAnyH_done (by kernel_rfl) ?_ _
        clear hS
        go_wp2_with fail
        go_meet
        exact ⟨_, rfl, HM3.out⟩
      · skip
        go_simp
        refine hK'.out _ _ (hS.below ((Below.refl _ _).alloc (Nat.le_refl _) _)) (fun hSn => ?_)
        clear hK' K' hS
        have hS := hSn
        clear hSn
        try simp only [Act.put, pu]
        refine wpAnyH_ready (rs := [5]) (by kernel_rfl) (by simp) (AllReadyH.cons rfl (fun K' hK' => ?_) AllReadyH.nil)
        go_simp
        refine (HWR.out _ hS.bel).mono ?_
        rintro e w4 ⟨rfl, hb4⟩
        have HBY := Lib.hid hb4
        refine hK'.out _ _ (hS.below hb4) (fun hSn => ?_)
        clear hK' K' hS
        have hS := hSn
        clear hSn
        try simp only [Act.put, pu]
        refine tkY 6 ?_ rfl hS ?_ ?_
        rotate_left
        · intro wz hz
          obtain ⟨c0, c1, c2, c3, c4, c5, c6, c7⟩ := Blk.all8 hz.b0
          have cX := hz.bX.cell 1
          simp only [List.getElem?_toArray, List.getElem?_cons_zero, List.getElem?_cons_succ] at cX
          go_simp
          all_goals first | with_reducible rfl | omega
        try simp only [Act.put, pu]
        refine wpAnyH_ready (rs := [8]) (by kernel_rfl) (by simp) (AllReadyH.cons rfl (fun K' hK' => ?_) AllReadyH.nil)
        have gY : Blk w4 w2.heap.size 23 #[.int .u8 0, .string ⟨#[]⟩] := (Blk.drew_ (Blk.new w2 23 #[.int .u8 0, .string ⟨#[]⟩])).below HBY.out (by simp)
        have y0 := gY.cell 0
        have y1 := gY.cell 1
        have fy0 := gY.frozen 0
        have fy1 := gY.frozen 1
        simp only [List.getElem?_toArray, List.getElem?_cons_zero, List.getElem?_cons_succ] at y0 y1
        go_simp
        have hm3 := mi3_early HM2.out _ _ (.int .u8 (a.kind.toNat : Int)) (.string (ba B)) HBY.out
        have HM3 := Lib.hid hm3
        refine hK'.out _ _ hm3.m (fun hSn => ?_)
        clear hK' K' hS
        have hS := hSn
        clear hSn
        try simp only [Act.put, pu]
        clear hm3
        refine wpAnyH_done (by kernel_rfl) ?_ _
        clear hS
        go_wp2_with fail
        go_meet
        exact ⟨_, rfl, HM3.out⟩
    case rest =>
      obtain ⟨Y, rfl, hM3⟩ := hcut
      clear HSD HM2 HWR hst c0 c1 c2 c3 c4 c5 c6 c7 lX1 l0 l1 lX
      have d0 : wc.cell? ⟨Y, 0, none⟩ = some (.int .u8 (a.kind.toNat : Int)) := hM3.bY.cell 0
      have d1 : wc.cell? ⟨Y, 1, none⟩ = some (.string (ba B)) := hM3.bY.cell 1
      go_wp2_with fail
      refine (hdec _).mono ?_; rintro e w5 ⟨v, rfl, hv, hb5⟩
      have hM6 := hM3.below hb5
      obtain ⟨kv', vv', nv', rfl, o1, o2, o3⟩ := hv.ex
      obtain ⟨A1, p1, rfl, _, _⟩ := o1.form
      obtain ⟨A2, p2, rfl, _, _⟩ := o2.form
      obtain ⟨A3, p3, rfl, _, _⟩ := o3.form
      rw [box_cut da]
      clear hdec d0 d1 hM3 hb5
      have l0 := hM6.m.b0.lt
      have l1 := hM6.m.b1.lt
      have lY := hM6.bY.lt
      have hBB := (Below.refl w5.heap.size w5).alloc (Nat.le_refl _) (.cells (tellV da (.slice A1 (strs da.keys).length p1) (.slice A2 (strs da.vals).length p2) (.slice A3 (bools da.null).length p3)) 28)
      have hM7 := hM6.below hBB
      have hv7 : AR (fun i => i < (w5.alloc (.cells (tellV da (.slice A1 (strs da.keys).length p1) (.slice A2 (strs da.vals).length p2) (.slice A3 (bools da.null).length p3)) 28)).heap.size) (w5.alloc (.cells (tellV da (.slice A1 (strs da.keys).length p1) (.slice A2 (strs da.vals).length p2) (.slice A3 (bools da.null).length p3)) 28)) (.agg (tellV da (.slice A1 (strs da.keys).length p1) (.slice A2 (strs da.vals).length p2) (.slice A3 (bools da.null).length p3))) da :=
        AR.step ⟨_, _, _, rfl, o1, o2, o3⟩ (fun b hb => hBB.block b hb.2) (fun b hb => by have := hb.2; simp; omega)
      have ha7 := harW _ hM7.m.bel
      clear o1 o2 o3 hv hBB harW
      rw [box_cut da] at hM7 hv7 ha7
      have hs7 := same_any _ a da _ _ _ _ _ _ ha7 hv7 hla
      rw [box_cut, box_cut da] at hs7
      clear ha7 hv7
      by_cases he : er = 0
      · subst he
        obtain ⟨c0, c1, c2, c3, c4, c5, c6, c7⟩ := Blk.all8 hM6.m.b0
        have hlda := HLD.out rfl
        clear HLD
        cases heq : decide (a = da)
        all_goals
          go_wp2_with fail
          refine (hs7 hlda).mono ?_; rintro e w7 ⟨rfl, hb7⟩
          rw [heq]
          have hM8 := hM7.below hb7
          clear c0 c1 c2 c3 c4 c5 c6 c7 hM6 hM7 hs7 hb7 hlda
        · have HN := Lib.hid (of_decide_eq_false heq)
          clear heq
          have f0 := hM8.m.b1.frozen 0
          have f1 := hM8.m.b1.frozen 1
          have z0 := hM8.m.b1.cell 0
          have z1 := hM8.m.b1.cell 1
          try simp only [List.getElem?_toArray, List.getElem?_cons_zero, List.getElem?_cons_succ] at z0 z1
          have hb9 := (hM8.m.b1.set_ 0 (.int .u8 0)).set_ 1 (.string ⟨#[]⟩)
          have hB9 := (hM8.m.bel.setCell (p := ⟨w.heap.size + 1, 0, none⟩) (by simp) (.int .u8 0)).setCell (p := ⟨w.heap.size + 1, 1, none⟩) (by simp) (.string ⟨#[]⟩)
          go_wp2
          refine bodyPost_ret (v := .tuple #[.agg #[.int .u8 0, .string ⟨#[]⟩], .int .i64 4]) (enc_out _ _ _ _ _ (by rfl) (by rfl) hb9 rfl) rfl ?_
          rw [HR.out, if_neg (by rintro ⟨_, _, h⟩; exact HN.out h)]
          exact ⟨rfl, hB9⟩
        · have HN := Lib.hid (of_decide_eq_true heq)
          clear heq
          have y0 : w7.cell? ⟨Y, 0, none⟩ = some (.int .u8 (a.kind.toNat : Int)) := hM8.bY.cell 0
          have y1 : w7.cell? ⟨Y, 1, none⟩ = some (.string (ba B)) := hM8.bY.cell 1
          have f0 := hM8.m.b1.frozen 0
          have f1 := hM8.m.b1.frozen 1
          have z0 := hM8.m.b1.cell 0
          have z1 := hM8.m.b1.cell 1
          try simp only [List.getElem?_toArray, List.getElem?_cons_zero, List.getElem?_cons_succ] at z0 z1
          have hb9 := (hM8.m.b1.set_ 0 (.int .u8 (a.kind.toNat : Int))).set_ 1 (.string (ba B))
          have hB9 := (hM8.m.bel.setCell (p := ⟨w.heap.size + 1, 0, none⟩) (by simp) (.int .u8 (a.kind.toNat : Int))).setCell (p := ⟨w.heap.size + 1, 1, none⟩) (by simp) (.string (ba B))
          go_wp2
          refine bodyPost_ret (v := .tuple #[.agg #[.int .u8 (a.kind.toNat : Int), .string (ba B)], .int .i64 0]) (enc_out _ _ _ _ _ (by rfl) (by rfl) hb9 rfl) rfl ?_
          rw [HR.out, if_pos (by first | exact ⟨rfl, rfl, HN.out⟩ | exact ⟨trivial, trivial, HN.out⟩ | exact ⟨rfl, trivial, HN.out⟩ | exact ⟨trivial, rfl, HN.out⟩)]
          exact ⟨rfl, hB9⟩
      · have hbe : (er != 0) = true := by simpa using he
        have HN := Lib.hid he
        clear he HLD hs7 hla
        have f0 := hM6.m.b1.frozen 0
        have f1 := hM6.m.b1.frozen 1
        have z0 : w5.cell? ⟨w.heap.size + 1, 0, none⟩ = some (.int .u8 0) := hM6.m.b1.cell 0
        have z1 : w5.cell? ⟨w.heap.size + 1, 1, none⟩ = some (.string ⟨#[]⟩) := hM6.m.b1.cell 1
        have hb9 := ((hM6.m.b1.set_ 0 (.int .u8 0)).set_ 1 (.string ⟨#[]⟩)).alloc (.cells #[.int .u8 (da.kind.toNat : Int), .int .u8 (da.status.toNat : Int), .string (ba da.text), .slice A1 (strs da.keys).length p1, .slice A2 (strs da.vals).length p2, .slice A3 (bools da.null).length p3, .int .i64 da.n, .int .i64 da.m] 28)
        have hB9 := ((hM6.m.bel.setCell (p := ⟨w.heap.size + 1, 0, none⟩) (by simp) (.int .u8 0)).setCell (p := ⟨w.heap.size + 1, 1, none⟩) (by simp) (.string ⟨#[]⟩)).alloc (by simp [World.setCell]; omega) (.cells #[.int .u8 (da.kind.toNat : Int), .int .u8 (da.status.toNat : Int), .string (ba da.text), .slice A1 (strs da.keys).length p1, .slice A2 (strs da.vals).length p2, .slice A3 (bools da.null).length p3, .int .i64 da.n, .int .i64 da.m] 28)
        go_wp2
        refine bodyPost_ret (v := .tuple #[.agg #[.int .u8 0, .string ⟨#[]⟩], .int .i64 4]) (enc_out _ _ _ _ _ (by rfl) (by rfl) hb9 rfl) rfl ?_
        rw [HR.out, if_neg (by rintro ⟨_, h, _⟩; exact HN.out h)]
        exact ⟨rfl, hB9⟩

set_option maxHeartbeats 2000000 in
theorem enc_nothing (a : Tell) (kv vv nv : Value) (w : World) (hk : kd a.kind = some .nothing) (f : Few a)
    (har : AR (fun i => i < w.heap.size) w (.agg (tellV a kv vv nv)) a) (hla : Lens a) :
    Calls Try.prog 13 #[.agg (tellV a kv vv nv)] w (EncP (encR a .nothing) w) := by
  have hst : ∀ (i : Nat) (W : World) (p : Addr) (md), (store p (.func (.func i) #[] #[]) md).run Try.prog W = stored Try.prog W p (.func (.func i) #[] #[]) md := fun i W p md => run_store Try.prog W p _ md rfl
  have db := bodies_some a.kind .nothing hk
  have hmn := fun w1 => @mi2_new w w1 (tellV a kv vv nv) (fnV (rdN .nothing)) (fnV (wrN .nothing))
  simp only [wrN] at db hmn
  generalize rdN .nothing = rd at *
  have hop := lrs_at har
  have hsh : ∀ W : World, Below w.heap.size w W → Calls Try.prog 25 #[.agg (tellV a kv vv nv)] W fun e w' => e = .returned (.bool (shortB a)) ∧ Below W.heap.size W w' := fun W hB => by
    obtain ⟨o1, o2, o3⟩ := hop W hB
    exact short_any a kv vv nv W f o1 o2
  have hwr : ∀ W : World, Below w.heap.size w W → Calls Try.prog 54 #[.agg (tellV a kv vv nv)] W (WrP (bodyD .nothing a) W) := fun W hB => by
    obtain ⟨o1, o2, o3⟩ := hop W hB
    exact wnothing_any a kv vv nv W
  have hbl := body_few .nothing a f
  have hdec := fun W => dec_any a.kind (ba (bodyD .nothing a)) W (by rw [ba_size]; omega)
  rw [ba_list] at hdec
  have harW : ∀ W : World, Below w.heap.size w W → AR (fun i => i < W.heap.size) W (.agg (tellV a kv vv nv)) a := fun W hB => har.step (fun b hb => hB.block b hb) (fun b hb => Nat.lt_of_lt_of_le hb hB.size)
  obtain ⟨DR, hDR⟩ : ∃ DR, decP a.kind (bodyD .nothing a) = DR := ⟨_, rfl⟩
  obtain ⟨da, er⟩ := DR
  rw [hDR] at hdec
  have HR : Hid (encR a .nothing = if shortB a = true ∧ er = 0 ∧ a = da then ((a.kind, bodyD .nothing a), 0) else ((0, []), 4)) := Lib.hid (by unfold encR; rw [hDR])
  have HLD : Hid (er = 0 → Lens da) := Lib.hid (fun h => by
    have := (dec_inv (k := a.kind) (s := bodyD .nothing a) (by rw [hDR]; exact h)).1
    rw [hDR] at this
    exact lens_right this)
  clear hDR hop
  obtain ⟨B, hB0⟩ : ∃ B, bodyD .nothing a = B := ⟨_, rfl⟩
  rw [hB0] at hwr hdec HR hbl
  obtain ⟨sb, hsb⟩ : ∃ sb, shortB a = sb := ⟨_, rfl⟩
  rw [hsb] at hsh HR
  clear hsb hB0 hk
  rw [box_cut] at hmn hsh hwr harW ⊢
  clear har
  go_enter Try.func13, Try.ntmps13
  go_wp2_with fail
  refine (db _).mono ?_; rintro e w1 ⟨rfl, hb1⟩
  have hM := hmn w1 hb1
  clear hmn hb1 db
  have hlt : w.heap.size + 1 < w1.heap.size := by have := hM.hX; omega
  obtain ⟨c0, c1, c2, c3, c4, c5, c6, c7⟩ := Blk.all8 hM.b0
  cases sb
  · clear hdec hwr harW HLD
    go_wp2_with fail
    refine (hsh _ hM.bel).mono ?_; rintro e w2 ⟨rfl, hb2⟩
    have hM2 := hM.below hb2
    clear hsh c0 c1 c2 c3 c4 c5 c6 c7 hb2 hM
    have f0 := hM2.b1.frozen 0
    have f1 := hM2.b1.frozen 1
    have z0 := hM2.b1.cell 0
    have z1 := hM2.b1.cell 1
    try simp only [List.getElem?_toArray, List.getElem?_cons_zero, List.getElem?_cons_succ] at z0 z1
    have hb9 := (hM2.b1.set_ 0 (.int .u8 0)).set_ 1 (.string ⟨#[]⟩)
    have hB9 := (hM2.bel.setCell (p := ⟨w.heap.size + 1, 0, none⟩) (by simp) (.int .u8 0)).setCell (p := ⟨w.heap.size + 1, 1, none⟩) (by simp) (.string ⟨#[]⟩)
    go_wp2
    refine bodyPost_ret (v := .tuple #[.agg #[.int .u8 0, .string ⟨#[]⟩], .int .i64 4]) (enc_out _ _ _ _ _ (by rfl) (by rfl) hb9 rfl) rfl ?_
    rw [HR.out, if_neg (by rintro ⟨h, _⟩; cases h)]
    exact ⟨rfl, hB9⟩
  · go_wp2_with fail
    refine (hsh _ hM.bel).mono ?_; rintro e w2 ⟨rfl, hb2⟩
    have hM2 := hM.below hb2
    clear hsh c0 c1 c2 c3 c4 c5 c6 c7 hb2 hM
    obtain ⟨c0, c1, c2, c3, c4, c5, c6, c7⟩ := Blk.all8 hM2.b0
    have lX1 : w2.cell? ⟨w1.heap.size, 1, none⟩ = some (fnV 54) := hM2.bX.cell 1
    have l0 := hM2.b0.lt
    have l1 := hM2.b1.lt
    have lX := hM2.bX.lt
    have hSD : Mi2 w #[.int .u8 (a.kind.toNat : Int), .int .u8 (a.status.toNat : Int), .string (ba a.text), kv, vv, nv, .int .i64 a.n, .int .i64 a.m] w1.heap.size (fnV rd) (fnV 54) w2.drew := hM2.below ((Below.refl _ _).drew)
    have HSD := Lib.hid hSD
    have HM2 := Lib.hid hM2
    have HWR := Lib.hid hwr
    clear hSD hwr hM2
    go_upto_region 4 with fail
    go_cut [6] (fun s6 wx => ∃ Y, s6 = .pointer (some ⟨Y, 0, none⟩) ∧ Mi3 w #[.int .u8 (a.kind.toNat : Int), .int .u8 (a.status.toNat : Int), .string (ba a.text), kv, vv, nv, .int .i64 a.n, .int .i64 a.m] w1.heap.size (fnV rd) (fnV 54) Y #[.int .u8 (a.kind.toNat : Int), .string (ba B)] wx)
    case first =>
      clear c0 c1 c2 c3 c4 c5 c6 c7 lX1 hdec harW hla HR HLD
      refine wp_region_held_drew (S := fun W => Mi2 w #[.int .u8 (a.kind.toNat : Int), .int .u8 (a.status.toNat : Int), .string (ba a.text), kv, vv, nv, .int .i64 a.n, .int .i64 a.m] w1.heap.size (fnV rd) (fnV 54) W) (by kernel_rfl) ?_ (fun hS => ?_)
      · exact HSD.out
      refine tkY 0 ?_ rfl hS ?_ ?_
      rotate_left
      · intro wz hz
        obtain ⟨c0, c1, c2, c3, c4, c5, c6, c7⟩ := Blk.all8 hz.b0
        have cX := hz.bX.cell 1
        simp only [List.getElem?_toArray, List.getElem?_cons_zero, List.getElem?_cons_succ] at cX
        go_simp
        all_goals first | with_reducible rfl | omega
      try simp only [Act.put, pu]
      refine tkY 1 ?_ rfl hS ?_ ?_
      rotate_left
      · intro wz hz
        obtain ⟨c0, c1, c2, c3, c4, c5, c6, c7⟩ := Blk.all8 hz.b0
        have cX := hz.bX.cell 1
        simp only [List.getElem?_toArray, List.getElem?_cons_zero, List.getElem?_cons_succ] at cX
        go_simp
        all_goals first | with_reducible rfl | omega
      try simp only [Act.put, pu]
      refine tkY 2 ?_ rfl hS ?_ ?_
      rotate_left
      · intro wz hz
        obtain ⟨c0, c1, c2, c3, c4, c5, c6, c7⟩ := Blk.all8 hz.b0
        have cX := hz.bX.cell 1
        simp only [List.getElem?_toArray, List.getElem?_cons_zero, List.getElem?_cons_succ] at cX
        go_simp
        all_goals first | with_reducible rfl | omega
      try simp only [Act.put, pu]
      refine tkY 3 ?_ rfl hS ?_ ?_
      rotate_left
      · intro wz hz
        obtain ⟨c0, c1, c2, c3, c4, c5, c6, c7⟩ := Blk.all8 hz.b0
        have cX := hz.bX.cell 1
        simp only [List.getElem?_toArray, List.getElem?_cons_zero, List.getElem?_cons_succ] at cX
        go_simp
        all_goals first | with_reducible rfl | omega
      try simp only [Act.put, pu]
      refine tkY 4 (.agg #[.int .u8 (a.kind.toNat : Int), .int .u8 (a.status.toNat : Int), .string (ba a.text), kv, vv, nv, .int .i64 a.n, .int .i64 a.m]) rfl hS ?_ ?_
      · intro wz hz
        obtain ⟨c0, c1, c2, c3, c4, c5, c6, c7⟩ := Blk.all8 hz.b0
        have cX := hz.bX.cell 1
        simp only [List.getElem?_toArray, List.getElem?_cons_zero, List.getElem?_cons_succ] at cX
        go_simp
        all_goals first | with_reducible rfl | omega
      try simp only [Act.put, pu]
      refine wpAnyH_ready (rs := [5, 7]) (by kernel_rfl) (by simp) (AllReadyH.cons rfl (fun K' hK' => ?_) (AllReadyH.cons rfl (fun K' hK' => ?_) AllReadyH.nil))
      · skip
        go_simp
        refine (HWR.out _ hS.bel).mono ?_
        rintro e w4 ⟨rfl, hb4⟩
        refine hK'.out _ _ (hS.below hb4) (fun hSn => ?_)
        clear hK' K' hS
        have hS := hSn
        clear hSn
        try simp only [Act.put, pu]
        refine tkY 6 ?_ rfl hS ?_ ?_
        rotate_left
        · intro wz hz
          obtain ⟨c0, c1, c2, c3, c4, c5, c6, c7⟩ := Blk.all8 hz.b0
          have cX := hz.bX.cell 1
          simp only [List.getElem?_toArray, List.getElem?_cons_zero, List.getElem?_cons_succ] at cX
          go_simp
          all_goals first | with_reducible rfl | omega
        try simp only [Act.put, pu]
        have hS0 := hS
        refine wpAnyH_ready (rs := [7]) (by kernel_rfl) (by simp) (AllReadyH.cons rfl (fun K' hK' => ?_) AllReadyH.nil)
        go_simp
        refine hK'.out _ _ (hS.below ((Below.refl _ _).alloc (Nat.le_refl _) _)) (fun hSn => ?_)
        clear hK' K' hS
        have hS := hSn
        clear hSn
        try simp only [Act.put, pu]
        refine wpAnyH_ready (rs := [8]) (by kernel_rfl) (by simp) (AllReadyH.cons rfl (fun K' hK' => ?_) AllReadyH.nil)
        go_simp
        have hm3 := mi3_late hS0 #[.int .u8 (a.kind.toNat : Int), .string (ba B)]
        have HM3 := Lib.hid hm3
        refine hK'.out _ _ hm3.m (fun hSn => ?_)
        clear hK' K' hS
        have hS := hSn
        clear hSn
        try simp only [Act.put, pu]
        clear hm3
        refine wpAnyH_done (by kernel_rfl) ?_ _
        clear hS
        go_wp2_with fail
        go_meet
        exact ⟨_, rfl, HM3.out⟩
      · skip
        go_simp
        refine hK'.out _ _ (hS.below ((Below.refl _ _).alloc (Nat.le_refl _) _)) (fun hSn => ?_)
        clear hK' K' hS
        have hS := hSn
        clear hSn
        try simp only [Act.put, pu]
        refine wpAnyH_ready (rs := [5]) (by kernel_rfl) (by simp) (AllReadyH.cons rfl (fun K' hK' => ?_) AllReadyH.nil)
        go_simp
        refine (HWR.out _ hS.bel).mono ?_
        rintro e w4 ⟨rfl, hb4⟩
        have HBY := Lib.hid hb4
        refine hK'.out _ _ (hS.below hb4) (fun hSn => ?_)
        clear hK' K' hS
        have hS := hSn
        clear hSn
        try simp only [Act.put, pu]
        refine tkY 6 ?_ rfl hS ?_ ?_
        rotate_left
        · intro wz hz
          obtain ⟨c0, c1, c2, c3, c4, c5, c6, c7⟩ := Blk.all8 hz.b0
          have cX := hz.bX.cell 1
          simp only [List.getElem?_toArray, List.getElem?_cons_zero, List.getElem?_cons_succ] at cX
          go_simp
          all_goals first | with_reducible rfl | omega
        try simp only [Act.put, pu]
        refine wpAnyH_ready (rs := [8]) (by kernel_rfl) (by simp) (AllReadyH.cons rfl (fun K' hK' => ?_) AllReadyH.nil)
        have gY : Blk w4 w2.heap.size 23 #[.int .u8 0, .string ⟨#[]⟩] := (Blk.drew_ (Blk.new w2 23 #[.int .u8 0, .string ⟨#[]⟩])).below HBY.out (by simp)
        have y0 := gY.cell 0
        have y1 := gY.cell 1
        have fy0 := gY.frozen 0
        have fy1 := gY.frozen 1
        simp only [List.getElem?_toArray, List.getElem?_cons_zero, List.getElem?_cons_succ] at y0 y1
        go_simp
        have hm3 := mi3_early HM2.out _ _ (.int .u8 (a.kind.toNat : Int)) (.string (ba B)) HBY.out
        have HM3 := Lib.hid hm3
        refine hK'.out _ _ hm3.m (fun hSn => ?_)
        clear hK' K' hS
        have hS := hSn
        clear hSn
        try simp only [Act.put, pu]
        clear hm3
        refine wpAnyH_done (by kernel_rfl) ?_ _
        clear hS
        go_wp2_with fail
        go_meet
        exact ⟨_, rfl, HM3.out⟩
    case rest =>
      obtain ⟨Y, rfl, hM3⟩ := hcut
      clear HSD HM2 HWR hst c0 c1 c2 c3 c4 c5 c6 c7 lX1 l0 l1 lX
      have d0 : wc.cell? ⟨Y, 0, none⟩ = some (.int .u8 (a.kind.toNat : Int)) := hM3.bY.cell 0
      have d1 : wc.cell? ⟨Y, 1, none⟩ = some (.string (ba B)) := hM3.bY.cell 1
      go_wp2_with fail
      refine (hdec _).mono ?_; rintro e w5 ⟨v, rfl, hv, hb5⟩
      have hM6 := hM3.below hb5
      obtain ⟨kv', vv', nv', rfl, o1, o2, o3⟩ := hv.ex
      obtain ⟨A1, p1, rfl, _, _⟩ := o1.form
      obtain ⟨A2, p2, rfl, _, _⟩ := o2.form
      obtain ⟨A3, p3, rfl, _, _⟩ := o3.form
      rw [box_cut da]
      clear hdec d0 d1 hM3 hb5
      have l0 := hM6.m.b0.lt
      have l1 := hM6.m.b1.lt
      have lY := hM6.bY.lt
      have hBB := (Below.refl w5.heap.size w5).alloc (Nat.le_refl _) (.cells (tellV da (.slice A1 (strs da.keys).length p1) (.slice A2 (strs da.vals).length p2) (.slice A3 (bools da.null).length p3)) 28)
      have hM7 := hM6.below hBB
      have hv7 : AR (fun i => i < (w5.alloc (.cells (tellV da (.slice A1 (strs da.keys).length p1) (.slice A2 (strs da.vals).length p2) (.slice A3 (bools da.null).length p3)) 28)).heap.size) (w5.alloc (.cells (tellV da (.slice A1 (strs da.keys).length p1) (.slice A2 (strs da.vals).length p2) (.slice A3 (bools da.null).length p3)) 28)) (.agg (tellV da (.slice A1 (strs da.keys).length p1) (.slice A2 (strs da.vals).length p2) (.slice A3 (bools da.null).length p3))) da :=
        AR.step ⟨_, _, _, rfl, o1, o2, o3⟩ (fun b hb => hBB.block b hb.2) (fun b hb => by have := hb.2; simp; omega)
      have ha7 := harW _ hM7.m.bel
      clear o1 o2 o3 hv hBB harW
      rw [box_cut da] at hM7 hv7 ha7
      have hs7 := same_any _ a da _ _ _ _ _ _ ha7 hv7 hla
      rw [box_cut, box_cut da] at hs7
      clear ha7 hv7
      by_cases he : er = 0
      · subst he
        obtain ⟨c0, c1, c2, c3, c4, c5, c6, c7⟩ := Blk.all8 hM6.m.b0
        have hlda := HLD.out rfl
        clear HLD
        cases heq : decide (a = da)
        all_goals
          go_wp2_with fail
          refine (hs7 hlda).mono ?_; rintro e w7 ⟨rfl, hb7⟩
          rw [heq]
          have hM8 := hM7.below hb7
          clear c0 c1 c2 c3 c4 c5 c6 c7 hM6 hM7 hs7 hb7 hlda
        · have HN := Lib.hid (of_decide_eq_false heq)
          clear heq
          have f0 := hM8.m.b1.frozen 0
          have f1 := hM8.m.b1.frozen 1
          have z0 := hM8.m.b1.cell 0
          have z1 := hM8.m.b1.cell 1
          try simp only [List.getElem?_toArray, List.getElem?_cons_zero, List.getElem?_cons_succ] at z0 z1
          have hb9 := (hM8.m.b1.set_ 0 (.int .u8 0)).set_ 1 (.string ⟨#[]⟩)
          have hB9 := (hM8.m.bel.setCell (p := ⟨w.heap.size + 1, 0, none⟩) (by simp) (.int .u8 0)).setCell (p := ⟨w.heap.size + 1, 1, none⟩) (by simp) (.string ⟨#[]⟩)
          go_wp2
          refine bodyPost_ret (v := .tuple #[.agg #[.int .u8 0, .string ⟨#[]⟩], .int .i64 4]) (enc_out _ _ _ _ _ (by rfl) (by rfl) hb9 rfl) rfl ?_
          rw [HR.out, if_neg (by rintro ⟨_, _, h⟩; exact HN.out h)]
          exact ⟨rfl, hB9⟩
        · have HN := Lib.hid (of_decide_eq_true heq)
          clear heq
          have y0 : w7.cell? ⟨Y, 0, none⟩ = some (.int .u8 (a.kind.toNat : Int)) := hM8.bY.cell 0
          have y1 : w7.cell? ⟨Y, 1, none⟩ = some (.string (ba B)) := hM8.bY.cell 1
          have f0 := hM8.m.b1.frozen 0
          have f1 := hM8.m.b1.frozen 1
          have z0 := hM8.m.b1.cell 0
          have z1 := hM8.m.b1.cell 1
          try simp only [List.getElem?_toArray, List.getElem?_cons_zero, List.getElem?_cons_succ] at z0 z1
          have hb9 := (hM8.m.b1.set_ 0 (.int .u8 (a.kind.toNat : Int))).set_ 1 (.string (ba B))
          have hB9 := (hM8.m.bel.setCell (p := ⟨w.heap.size + 1, 0, none⟩) (by simp) (.int .u8 (a.kind.toNat : Int))).setCell (p := ⟨w.heap.size + 1, 1, none⟩) (by simp) (.string (ba B))
          go_wp2
          refine bodyPost_ret (v := .tuple #[.agg #[.int .u8 (a.kind.toNat : Int), .string (ba B)], .int .i64 0]) (enc_out _ _ _ _ _ (by rfl) (by rfl) hb9 rfl) rfl ?_
          rw [HR.out, if_pos (by first | exact ⟨rfl, rfl, HN.out⟩ | exact ⟨trivial, trivial, HN.out⟩ | exact ⟨rfl, trivial, HN.out⟩ | exact ⟨trivial, rfl, HN.out⟩)]
          exact ⟨rfl, hB9⟩
      · have hbe : (er != 0) = true := by simpa using he
        have HN := Lib.hid he
        clear he HLD hs7 hla
        have f0 := hM6.m.b1.frozen 0
        have f1 := hM6.m.b1.frozen 1
        have z0 : w5.cell? ⟨w.heap.size + 1, 0, none⟩ = some (.int .u8 0) := hM6.m.b1.cell 0
        have z1 : w5.cell? ⟨w.heap.size + 1, 1, none⟩ = some (.string ⟨#[]⟩) := hM6.m.b1.cell 1
        have hb9 := ((hM6.m.b1.set_ 0 (.int .u8 0)).set_ 1 (.string ⟨#[]⟩)).alloc (.cells #[.int .u8 (da.kind.toNat : Int), .int .u8 (da.status.toNat : Int), .string (ba da.text), .slice A1 (strs da.keys).length p1, .slice A2 (strs da.vals).length p2, .slice A3 (bools da.null).length p3, .int .i64 da.n, .int .i64 da.m] 28)
        have hB9 := ((hM6.m.bel.setCell (p := ⟨w.heap.size + 1, 0, none⟩) (by simp) (.int .u8 0)).setCell (p := ⟨w.heap.size + 1, 1, none⟩) (by simp) (.string ⟨#[]⟩)).alloc (by simp [World.setCell]; omega) (.cells #[.int .u8 (da.kind.toNat : Int), .int .u8 (da.status.toNat : Int), .string (ba da.text), .slice A1 (strs da.keys).length p1, .slice A2 (strs da.vals).length p2, .slice A3 (bools da.null).length p3, .int .i64 da.n, .int .i64 da.m] 28)
        go_wp2
        refine bodyPost_ret (v := .tuple #[.agg #[.int .u8 0, .string ⟨#[]⟩], .int .i64 4]) (enc_out _ _ _ _ _ (by rfl) (by rfl) hb9 rfl) rfl ?_
        rw [HR.out, if_neg (by rintro ⟨_, h, _⟩; exact HN.out h)]
        exact ⟨rfl, hB9⟩
end Go.Proofs.Ytnjifbgjglniaaa.BK
