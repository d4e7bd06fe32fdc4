/- Package expiry: Set. Conditions: how long keys are, how many. -/
import Derived.Test.YtjngangojgjceaaGreatG13
set_option linter.unusedSimpArgs false
set_option linter.unusedVariables false
namespace Go.Proofs.YtjngangojgjceaaGreat.EX
open Go.ChangeShapes Go.WideShapes Go.ChangeAt Go.RowKit Go.Maps Go.ChangeMaps
open Go.Proofs.YtjngangojgjceaaGreat.SL Go.Proofs.YtjngangojgjceaaGreat.RW
set_option maxRecDepth 100000
set_option linter.unusedVariables false
set_option linter.unusedSimpArgs false

theorem set_err (w : World) (B g n : Nat) (x : Qx) (h : QT B w g n x) (k : ByteArray) (t : Int) (ht : ¬ (0 ≤ t ∧ t ≤ 1099511627776)) :
    Calls Tryz.prog 35 #[ptr g, .string k, .int .i64 t] w fun e w' => e = .returned (.int .i64 1) ∧ w = w' := by
  obtain ⟨c0, _, _, _, _⟩ := h.cells
  clear h
  by_cases h0 : t < 0
  · have d0 : decide (t < 0) = true := decide_eq_true h0
    go_enter Tryz.func35, Tryz.ntmps35
    go_wp2_with fail
    refine (given_yes _ g c0).mono ?_
    rintro e w' ⟨rfl, rfl⟩
    go_wp2
    go_ret
    exact ⟨rfl, rfl⟩
  · have d0 : decide (t < 0) = false := decide_eq_false h0
    have d1 : decide (1099511627776 < t) = true := decide_eq_true (by omega)
    have d2 : (1099511627776 : Int) < t := by omega
    go_enter Tryz.func35, Tryz.ntmps35
    go_wp2_with fail
    refine (given_yes _ g c0).mono ?_
    rintro e w' ⟨rfl, rfl⟩
    go_wp2
    go_ret
    exact ⟨rfl, rfl⟩
theorem set_nil (w : World) (k : ByteArray) (t : Int) :
    Calls Tryz.prog 35 #[.pointer none, .string k, .int .i64 t] w fun e w' => e = .returned (.int .i64 12) ∧ w = w' := by
  go_enter Tryz.func35, Tryz.ntmps35
  go_wp2_with (go_at_call 71; refine (given_nil _).mono ?_; rintro e w' ⟨rfl, rfl⟩)
  go_ret
  exact ⟨rfl, rfl⟩
theorem set_zero (w : World) (g : Nat) (k : ByteArray) (t : Int) (h : w.cell? ⟨g, 0, none⟩ = some (.pointer none)) :
    Calls Tryz.prog 35 #[ptr g, .string k, .int .i64 t] w fun e w' => e = .returned (.int .i64 12) ∧ w = w' := by
  go_enter Tryz.func35, Tryz.ntmps35
  go_wp2_with (go_at_call 71; refine (given_zero _ g h).mono ?_; rintro e w' ⟨rfl, rfl⟩)
  go_ret
  exact ⟨rfl, rfl⟩
def SetQ (B g n : Nat) (x : Qx) (k : ByteArray) (t : Int) (w : World) (e : Ending) (w' : World) : Prop := e = .returned (.int .i64 0) ∧ StepQ B g (n + 1) x (setI k t (x.L.map it)) w w'
set_option maxHeartbeats 16000000 in
theorem set_any (w : World) (B g n : Nat) (x : Qx) (h : QT B w g n x) (k : ByteArray) (hk : k.size ≤ 281474976710656) (t : Int) (ht : 0 ≤ t ∧ t ≤ 1099511627776) (hn : n ≤ 490) (hB : B ≤ w.heap.size) :
    Calls Tryz.prog 35 #[ptr g, .string k, .int .i64 t] w (SetQ B g n x k t w) := by
  obtain ⟨c0, _, _, _, _⟩ := h.cells
  have HD := Lib.hid (drop_any w B g n x h k hk (by omega) hB)
  have HH := Lib.hid h
  have HN := Lib.hid hn
  have HB0 := Lib.hid hB
  have HCL := Lib.hid (fun W => clone_any k W hk)
  have hkey := keyB k hk
  have d0 : decide (t < 0) = false := decide_eq_false (by omega)
  have d1 : decide (1099511627776 < t) = false := decide_eq_false (by omega)
  obtain ⟨n1, hn1⟩ : ∃ n1, n + 1 = n1 := ⟨_, rfl⟩
  have wk : IntKind.i64.wrap ((n : Int) + 1) = (n1 : Int) := by rw [show (n : Int) + 1 = (n1 : Int) by omega]; exact IntWalk.i64_in _ (by omega)
  have HN1 := Lib.hid hn1
  unfold SetQ
  rw [hn1]
  clear h hk hn hB ht hn1
  go_enter Tryz.func35, Tryz.ntmps35
  go_wp2_with fail
  refine (given_yes _ g c0).mono ?_
  rintro e w' ⟨rfl, rfl⟩
  go_wp2_with fail
  refine HD.out.mono ?_
  rintro e w1 ⟨rfl, x1, h1, hi1, ho1, hch1⟩
  have hno : fnd k x1.L = none := fnd_none.2 fun e he hke => by
    have := List.mem_map_of_mem (f := it) he
    rw [hi1] at this
    exact of_decide_eq_true (List.mem_filter.1 this).2 hke
  obtain ⟨nb1, nb2, nb3, nb4, nb5, nb6⟩ := h1.nob
  have s1 := h1.bk.cell 1
  have f1 := h1.bk.frozen 1
  have hg2 := h1.bk.set_ 1 (.int .i64 (n1 : Int))
  have hkeep : ∀ b, b ≠ g → (w1.setCell ⟨g, 1, none⟩ (.int .i64 (n1 : Int))).heap[b]? = w1.heap[b]? := fun b hb => Below.heap_setCell _ _ _ _ hb
  have ko2 := h1.ko.heap (hkeep _ nb1.symm)
  have he2 := h1.eq.keep (w' := w1.setCell ⟨g, 1, none⟩ (.int .i64 (n1 : Int))) fun q hq => hkeep q (fun e => nb4 (e ▸ hq))
  have hm2 := h1.mp.keep (hkeep _ nb2)
  have hc2 : Chg (fun b => x.own g b ∨ x1.own g b ∧ w.heap.size ≤ b) w (w1.setCell ⟨g, 1, none⟩ (.int .i64 (n1 : Int))) := (hch1.mono fun b _ hb => .inl hb).setCell (p := ⟨g, 1, none⟩) (.inl (.inl rfl)) _
  obtain ⟨W2, hW2⟩ : ∃ W, w1.setCell ⟨g, 1, none⟩ (.int .i64 (n1 : Int)) = W := ⟨_, rfl⟩
  rw [hW2] at hg2 ko2 he2 hm2 hc2
  have KG := Lib.hid hg2
  have KO := Lib.hid ko2
  have KE := Lib.hid he2
  have KM := Lib.hid hm2
  have HC2 := Lib.hid hc2
  have HNO := Lib.hid hno
  have HI1 := Lib.hid hi1
  have H1 := Lib.hid h1
  have HO1 := Lib.hid ho1
  have HW1 : Hid (w.heap.size ≤ w1.heap.size) := Lib.hid hch1.size
  clear nb1 nb2 nb3 nb4 nb5 nb6 hg2 hkeep ko2 he2 hm2 hc2 hno hi1 h1 ho1 hch1
  go_wp2_with fail
  try rw [hW2]
  clear hW2 s1 f1
  have c1 : W2.cell? ⟨g, 1, none⟩ = some (.int .i64 (n1 : Int)) := KG.out.cell 1
  have HGL := Lib.hid KG.out.lt
  refine wp_region_held_drew (S := (fun w' => Below W2.heap.size W2 w')) (by kernel_rfl) ?_ (fun hS => ?_)
  · exact (Below.refl _ _).drew
  refine tkY 0 ?_ rfl hS ?_ ?_
  rotate_left
  · intro wz hz
    have z1 := (hz.cell (p := ⟨g, 1, none⟩) HGL.out).trans c1
    go_simp
    all_goals first | with_reducible rfl | omega
  try simp only [Act.put, pu]
  refine tkY 2 ?_ rfl hS ?_ ?_
  rotate_left
  · intro wz hz
    have z1 := (hz.cell (p := ⟨g, 1, none⟩) HGL.out).trans c1
    go_simp
    all_goals first | with_reducible rfl | omega
  try simp only [Act.put, pu]
  refine tkY 3 ?_ rfl hS ?_ ?_
  rotate_left
  · intro wz hz
    have z1 := (hz.cell (p := ⟨g, 1, none⟩) HGL.out).trans c1
    go_simp
    all_goals first | with_reducible rfl | omega
  try simp only [Act.put, pu]
  refine tkY 4 ?_ rfl hS ?_ ?_
  rotate_left
  · intro wz hz
    have z1 := (hz.cell (p := ⟨g, 1, none⟩) HGL.out).trans c1
    go_simp
    all_goals first | with_reducible rfl | omega
  try simp only [Act.put, pu]
  refine tkY 5 ?_ rfl hS ?_ ?_
  rotate_left
  · intro wz hz
    have z1 := (hz.cell (p := ⟨g, 1, none⟩) HGL.out).trans c1
    go_simp
    all_goals first | with_reducible rfl | omega
  try simp only [Act.put, pu]
  refine tkY 6 ?_ rfl hS ?_ ?_
  rotate_left
  · intro wz hz
    have z1 := (hz.cell (p := ⟨g, 1, none⟩) HGL.out).trans c1
    go_simp
    all_goals first | with_reducible rfl | omega
  try simp only [Act.put, pu]
  refine wpAnyH_ready (rs := [1, 8]) (by kernel_rfl) (by simp) (AllReadyH.cons rfl (fun K' hK' => ?_) (AllReadyH.cons rfl (fun K' hK' => ?_) AllReadyH.nil))
  · go_simp
    refine (HCL.out _).mono ?_
    rintro e w3 ⟨rfl, hb3⟩
    have hb3' := hS.trans (hb3.mono hS.size)
    have HB3 := Lib.hid hb3'
    clear hb3
    refine hK'.out _ _ ?_ (fun hSn => ?_)
    · exact hb3'
    clear hb3'
    clear hK' K' hS
    have hS := hSn
    clear hSn
    try simp only [Act.put, pu]
    refine tkY 7 ?_ rfl hS ?_ ?_
    rotate_left
    · intro wz hz
      have z1 := (hz.cell (p := ⟨g, 1, none⟩) HGL.out).trans c1
      go_simp
      all_goals first | with_reducible rfl | omega
    try simp only [Act.put, pu]
    refine wpAnyH_ready (rs := [8]) (by kernel_rfl) (by simp) (AllReadyH.cons rfl (fun K' hK' => ?_) AllReadyH.nil)
    go_simp
    refine hK'.out _ _ ?_ (fun hSn => ?_)
    · exact hS.alloc hS.size _
    clear hK' K' hS
    have hS := hSn
    clear hSn
    try simp only [Act.put, pu]
    refine wpAnyH_ready (rs := [9]) (by kernel_rfl) (by simp) (AllReadyH.cons rfl (fun K' hK' => ?_) AllReadyH.nil)
    go_simp
    refine hK'.out _ _ ?_ (fun hSn => ?_)
    · exact HB3.out.alloc HB3.out.size _
    clear hK' K' hS
    have hS := hSn
    clear hSn
    try simp only [Act.put, pu]
    refine wpAnyH_done (by kernel_rfl) ?_ _
    clear hS
    obtain ⟨W5, hW5⟩ : ∃ W, w3.alloc (.cells #[.string k, .int .i64 t, .int .i64 (n1 : Int)] 131) = W := ⟨_, rfl⟩
    obtain ⟨eb, heb⟩ : ∃ b, w3.heap.size = b := ⟨_, rfl⟩
    have HB5 : Hid (Below W2.heap.size W2 W5) := Lib.hid (by rw [← hW5]; exact HB3.out.alloc HB3.out.size _)
    have KX : Hid (Bk W5 eb 131 #[.string k, .int .i64 t, .int .i64 (n1 : Int)]) := Lib.hid (by rw [← hW5, ← heb]; exact Bk.new _ _ _)
    have HEB : Hid (W2.heap.size ≤ eb) := Lib.hid (by rw [← heb]; exact HB3.out.size)
    try rw [hW5]
    try rw [heb]
    clear hW5 heb HB3 c1
    have KG5 := Lib.hid (KG.out.below HB5.out)
    have KO5 := Lib.hid (KO.out.below HB5.out)
    have KE5 := Lib.hid (KE.out.below HB5.out)
    have c2 : W5.cell? ⟨g, 2, none⟩ = some (.map (some x1.m)) := KG5.out.cell 2
    have e0 : W5.cell? ⟨eb, 0, none⟩ = some (.string k) := KX.out.cell 0
    have e1 : W5.cell? ⟨eb, 1, none⟩ = some (.int .i64 t) := KX.out.cell 1
    have e2 : W5.cell? ⟨eb, 2, none⟩ = some (.int .i64 (n1 : Int)) := KX.out.cell 2
    obtain ⟨D, hown, hd1, hd2, hd3⟩ := KM.out.below HB5.out
    obtain ⟨w6, hrun, ho6, hg6⟩ := (hown.drew).update strK Tryz.underlying112 (by have := HN.out; unfold maxLen; omega) hkey (val := eV (k, t, (n1 : Int))) (d := eD1 (k, t, (n1 : Int))) (ps := []) (entE_mk (k, t, (n1 : Int)))
    have hm6 := MapF.putD (e := (k, t, (n1 : Int))) hown hd1 hd2 hd3 HNO.out ho6
    obtain ⟨nb1, nb2, nb3, nb4, nb5, nb6⟩ := H1.out.nob
    have hg6' : W5.grownBy w6 (some x1.m) := ⟨hg6.os, hg6.tape, hg6.output, hg6.size, hg6.block⟩
    have kg6 := Bk.grown KG5.out hg6' (fun q hq => by have hq2 : x1.m = q := (by injection hq); rw [← hq2]; exact nb2.symm)
    have ko6 := Bk.grown KO5.out hg6' (fun q hq => by have hq2 : x1.m = q := (by injection hq); rw [← hq2]; exact nb3.symm)
    have hml : x1.m < W2.heap.size := KM.out.lt
    have kx6 := Bk.grown KX.out hg6' (fun q hq => by have hq2 : x1.m = q := (by injection hq); have := HEB.out; omega)
    have ke6 : EQ B w6 x1.v x1.L := KE5.out.keep fun q hq => hg6'.block q (KE5.out.lt q hq).2 (fun e => by have e2 : q = x1.m := (by injection e); rw [e2] at hq; exact nb6 hq)
    have hc6 : Chg (fun b => x.own g b ∨ x1.own g b ∧ w.heap.size ≤ b) w w6 := (HC2.out.trans (Chg.of_below HB5.out)).grown hg6' (fun q hq hlt => by
      have hq2 : x1.m = q := (by injection hq)
      rcases HO1.out x1.m (.inr (.inl rfl)) with h | h
      · exact .inl (hq2 ▸ h)
      · omega)
    have KG6 := Lib.hid kg6
    have KO6 := Lib.hid ko6
    have KX6 := Lib.hid kx6
    have KE6 := Lib.hid ke6
    have HC6 := Lib.hid hc6
    have HM6 := Lib.hid hm6
    clear hown hd1 hd2 hd3 ho6 hm6 hg6 hg6' kg6 ko6 kx6 ke6 hc6 hml nb1 nb2 nb3 nb4 nb5 nb6
    go_wp2_with fail
    refine wp_region_held_drew (S := (fun w' => w'.cell? ⟨g, 2, none⟩ = some (.map (some x1.m)) ∧ w'.cell? ⟨eb, 0, none⟩ = some (.string k) ∧ w'.cell? ⟨eb, 1, none⟩ = some (.int .i64 t) ∧ w'.cell? ⟨eb, 2, none⟩ = some (.int .i64 (n1 : Int)))) (by kernel_rfl) ?_ (fun hS => ?_)
    · exact ⟨c2, e0, e1, e2⟩
    refine tkY 0 ?_ rfl hS ?_ ?_
    rotate_left
    · intro wz hz
      obtain ⟨z0, z1, z2, z3⟩ := hz
      go_simp
      all_goals first | with_reducible rfl | omega
    try simp only [Act.put, pu]
    refine tkY 1 ?_ rfl hS ?_ ?_
    rotate_left
    · intro wz hz
      obtain ⟨z0, z1, z2, z3⟩ := hz
      go_simp
      all_goals first | with_reducible rfl | omega
    try simp only [Act.put, pu]
    refine tkY 2 ?_ rfl hS ?_ ?_
    rotate_left
    · intro wz hz
      obtain ⟨z0, z1, z2, z3⟩ := hz
      go_simp
      all_goals first | with_reducible rfl | omega
    try simp only [Act.put, pu]
    refine tkY 3 ?_ rfl hS ?_ ?_
    rotate_left
    · intro wz hz
      obtain ⟨z0, z1, z2, z3⟩ := hz
      go_simp
      all_goals first | with_reducible rfl | omega
    try simp only [Act.put, pu]
    refine tkY 4 ?_ rfl hS ?_ ?_
    rotate_left
    · intro wz hz
      obtain ⟨z0, z1, z2, z3⟩ := hz
      go_simp
      all_goals first | with_reducible rfl | omega
    try simp only [Act.put, pu]
    refine tkY 5 ?_ rfl hS ?_ ?_
    rotate_left
    · intro wz hz
      obtain ⟨z0, z1, z2, z3⟩ := hz
      go_simp
      all_goals first | with_reducible rfl | omega
    try simp only [Act.put, pu]
    refine tkY 6 ?_ rfl hS ?_ ?_
    rotate_left
    · intro wz hz
      obtain ⟨z0, z1, z2, z3⟩ := hz
      go_simp
      all_goals first | with_reducible rfl | omega
    try simp only [Act.put, pu]
    refine wpAnyH_ready (rs := [7]) (by kernel_rfl) (by simp) (AllReadyH.cons rfl (fun K' hK' => ?_) AllReadyH.nil)
    go_simp
    refine hK'.out _ _ ?_ (fun hSn => ?_)
    · exact ⟨KG6.out.cell 2, KX6.out.cell 0, KX6.out.cell 1, KX6.out.cell 2⟩
    clear hK' K' hS
    have hS := hSn
    clear hSn
    refine wpAnyH_done (by kernel_rfl) ?_ _
    clear hS
    clear c2 e0 e1 e2 hrun
    have e0 : w6.cell? ⟨eb, 0, none⟩ = some (.string k) := KX6.out.cell 0
    have e1 : w6.cell? ⟨eb, 1, none⟩ = some (.int .i64 t) := KX6.out.cell 1
    have e2 : w6.cell? ⟨eb, 2, none⟩ = some (.int .i64 (n1 : Int)) := KX6.out.cell 2
    go_wp2_with fail
    refine wp_region_held_drew (S := (fun w' => w'.cell? ⟨eb, 0, none⟩ = some (.string k) ∧ w'.cell? ⟨eb, 1, none⟩ = some (.int .i64 t) ∧ w'.cell? ⟨eb, 2, none⟩ = some (.int .i64 (n1 : Int)))) (by kernel_rfl) ?_ (fun hS => ?_)
    · exact ⟨e0, e1, e2⟩
    refine tkY 0 ?_ rfl hS ?_ ?_
    rotate_left
    · intro wz hz
      obtain ⟨z0, z1, z2⟩ := hz
      go_simp
      all_goals first | with_reducible rfl | omega
    try simp only [Act.put, pu]
    refine tkY 1 ?_ rfl hS ?_ ?_
    rotate_left
    · intro wz hz
      obtain ⟨z0, z1, z2⟩ := hz
      go_simp
      all_goals first | with_reducible rfl | omega
    try simp only [Act.put, pu]
    refine tkY 2 ?_ rfl hS ?_ ?_
    rotate_left
    · intro wz hz
      obtain ⟨z0, z1, z2⟩ := hz
      go_simp
      all_goals first | with_reducible rfl | omega
    try simp only [Act.put, pu]
    refine tkY 3 ?_ rfl hS ?_ ?_
    rotate_left
    · intro wz hz
      obtain ⟨z0, z1, z2⟩ := hz
      go_simp
      all_goals first | with_reducible rfl | omega
    try simp only [Act.put, pu]
    refine wpAnyH_ready (rs := [4]) (by kernel_rfl) (by simp) (AllReadyH.cons rfl (fun K' hK' => ?_) AllReadyH.nil)
    go_simp
    have hbd : Below w6.heap.size w6 w6.drew := (Below.refl _ _).drew
    refine (add_any w6.drew B g x1.ob x1.v x1.L n (k, t, (n1 : Int)) _ (KG6.out.below hbd) rfl (KO6.out.below hbd) (KE6.out.below hbd) H1.out.sr (by have := H1.out.le; have := HN.out; omega) (Nat.le_trans HB0.out HC6.out.size)).mono ?_
    rintro e w7 ⟨rfl, a7, c7, k7, q7, h7, o7⟩
    have hke : ¬ (eb = x1.ob ∨ x1.v.ownBlock = some eb) := by
      have h0 := HEB.out
      rintro (e | e)
      · have := KO.out.lt; omega
      · have := (KE.out.lt eb e).2; omega
    have ke7 := (KX6.out.below hbd).chg h7 hke
    have hSC := (show _ ∧ _ ∧ _ from ⟨ke7.cell 0, ke7.cell 1, ke7.cell 2⟩)
    have K7 := Lib.hid k7
    have Q7 := Lib.hid q7
    have H7 := Lib.hid h7
    have O7 := Lib.hid o7
    clear k7 q7 h7 o7 ke7 hke
    refine hK'.out _ _ ?_ (fun hSn => ?_)
    · exact hSC
    clear hK' K' hS
    have hS := hSn
    clear hSn
    try simp only [Act.put, pu]
    refine wpAnyH_done (by kernel_rfl) ?_ _
    clear hS
    clear e0 e1 e2
    go_wp2
    go_ret
    obtain ⟨nb1, nb2, nb3, nb4, nb5, nb6⟩ := H1.out.nob
    have hbd : Below w6.heap.size w6 w6.drew := (Below.refl _ _).drew
    have hset : setL k t (n1 : Int) x1.L = leL t x1.L ++ (k, t, (n1 : Int)) :: gtL t x1.L := by unfold setL; rw [dropL_no (fnd_none.1 HNO.out)]
    have hit : (setL k t (n1 : Int) x1.L).map it = setI k t (x.L.map it) := by
      rw [hset, List.map_append, List.map_cons, it_leL, it_gtL, HI1.out]; rfl
    have hlen : (setL k t (n1 : Int) x1.L).length = x1.L.length + 1 := by
      rw [hset, List.length_append, List.length_cons]
      have := congrArg List.length (H1.out.sr.split t)
      rw [List.length_append] at this
      omega
    have hn1 : ((n1 : Nat) : Int) = (n : Int) + 1 := by have := HN1.out; omega
    refine ⟨rfl, ⟨x1.m, x1.ob, a7, c7, setL k t (n1 : Int) x1.L⟩, ⟨?_, ?_, ?_, ?_, ?_, ?_, H1.out.bs⟩, hit, fun b hb => ?_, ?_⟩
    · exact (KG6.out.below hbd).chg H7.out (fun e => e.elim nb1 (fun e => nb4 e))
    · have := K7.out; rw [← hset] at this; exact this
    · have := Q7.out; rw [← hset] at this; exact this
    · have h9 := (HM6.out.below hbd).keep (H7.out.block _ (HM6.out.below hbd).lt (fun e => e.elim nb3 (fun e => nb6 e)))
      have e1 : (fun x_1 => if x_1 = k then some (k, t, (n1 : Int)) else fnd x_1 x1.L) = fun y => fnd y (setL k t (n1 : Int) x1.L) := by
        funext y; rw [fnd_set H1.out.sr k y]
      rw [e1, ← hlen, HN1.out] at h9
      exact h9
    · show Srt ((n1 : Nat) : Int) (setL k t (n1 : Int) x1.L)
      rw [hn1]; exact H1.out.sr.setL k t
    · show (setL k t (n1 : Int) x1.L).length ≤ n1
      have := H1.out.le; have := HN1.out; omega
    · have key : x1.own g b ∨ w6.drew.heap.size ≤ b := by
        rcases hb with hb | hb | hb | hb
        · exact .inl (.inl hb)
        · exact .inl (.inr (.inl hb))
        · exact .inl (.inr (.inr (.inl hb)))
        · have hb' : (Value.slice a7 (leL t x1.L ++ (k, t, (n1 : Int)) :: gtL t x1.L).length c7).ownBlock = some b := by rw [← hset]; exact hb
          rcases O7.out b hb' with h | h
          · exact .inl (.inr (.inr (.inr h)))
          · exact .inr h
      rcases key with h | h
      · exact HO1.out b h
      · exact .inr (Nat.le_trans HC6.out.size h)
    · refine ((HC6.out.drew).trans (H7.out.mono fun b hbl hb => ?_)).mono fun b hbl hb => hb.elim id (fun h => absurd hbl (Nat.not_lt.2 h.2))
      have hb2 : x1.own g b := hb.elim (fun e => .inr (.inr (.inl e))) (fun e => .inr (.inr (.inr e)))
      rcases HO1.out b hb2 with h | h
      · exact .inl h
      · exact .inr ⟨hb2, h⟩
  · go_simp
    obtain ⟨W3, hW3⟩ : ∃ W, (W2.alloc (.cells #[.string ⟨#[]⟩, .int .i64 0, .int .i64 0] 131)).drew = W := ⟨_, rfl⟩
    obtain ⟨eb, heb⟩ : ∃ b, W2.heap.size = b := ⟨_, rfl⟩
    have HB3 : Hid (Below W2.heap.size W2 W3) := Lib.hid (by rw [← hW3]; exact ((Below.refl _ _).alloc (Nat.le_refl _) _).drew)
    have KZ : Hid (Bk W3 eb 131 #[.string ⟨#[]⟩, .int .i64 0, .int .i64 0]) := Lib.hid (by rw [← hW3, ← heb]; exact (Bk.new _ _ _).drew)
    have HEB : Hid (W2.heap.size ≤ eb) := Lib.hid (by omega)
    rw [hW3]
    try rw [heb]
    refine hK'.out _ W3 ?_ (fun hSn => ?_)
    · exact HB3.out
    clear hW3 heb
    clear hK' K' hS
    have hS := hSn
    clear hSn
    try simp only [Act.put, pu]
    refine wpAnyH_ready (rs := [1]) (by kernel_rfl) (by simp) (AllReadyH.cons rfl (fun K' hK' => ?_) AllReadyH.nil)
    go_simp
    refine (HCL.out _).mono ?_
    rintro e w4 ⟨rfl, hb4⟩
    have hb4' := HB3.out.trans (hb4.mono HB3.out.size)
    have HB4 := Lib.hid hb4'
    have KZ4 := Lib.hid (KZ.out.below hb4)
    clear hb4
    refine hK'.out _ _ ?_ (fun hSn => ?_)
    · exact hb4'
    clear hb4'
    clear hK' K' hS
    have hS := hSn
    clear hSn
    try simp only [Act.put, pu]
    refine tkY 7 ?_ rfl hS ?_ ?_
    rotate_left
    · intro wz hz
      have z1 := (hz.cell (p := ⟨g, 1, none⟩) HGL.out).trans c1
      go_simp
      all_goals first | with_reducible rfl | omega
    try simp only [Act.put, pu]
    have r0 := KZ4.out.cell 0
    have r1 := KZ4.out.cell 1
    have r2 := KZ4.out.cell 2
    have g0 := KZ4.out.frozen 0
    have g1 := KZ4.out.frozen 1
    have g2 := KZ4.out.frozen 2
    refine wpAnyH_ready (rs := [9]) (by kernel_rfl) (by simp) (AllReadyH.cons rfl (fun K' hK' => ?_) AllReadyH.nil)
    go_simp
    have kx := ((KZ4.out.set_ 0 (.string k)).set_ 1 (.int .i64 t)).set_ 2 (.int .i64 (n1 : Int))
    have hb5 := ((HB4.out.setCell (p := ⟨eb, 0, none⟩) HEB.out (.string k)).setCell (p := ⟨eb, 1, none⟩) HEB.out (.int .i64 t)).setCell (p := ⟨eb, 2, none⟩) HEB.out (.int .i64 (n1 : Int))
    obtain ⟨W5, hW5⟩ : ∃ W, ((w4.setCell ⟨eb, 0, none⟩ (.string k)).setCell ⟨eb, 1, none⟩ (.int .i64 t)).setCell ⟨eb, 2, none⟩ (.int .i64 (n1 : Int)) = W := ⟨_, rfl⟩
    rw [hW5] at kx hb5 ⊢
    have HB5 : Hid (Below W2.heap.size W2 W5) := Lib.hid hb5
    have KX : Hid (Bk W5 eb 131 #[.string k, .int .i64 t, .int .i64 (n1 : Int)]) := Lib.hid kx
    refine hK'.out _ _ ?_ (fun hSn => ?_)
    · exact hb5
    clear kx hb5 hW5 r0 r1 r2 g0 g1 g2 KZ4 HB4 KZ HB3
    clear hK' K' hS
    have hS := hSn
    clear hSn
    try simp only [Act.put, pu]
    refine wpAnyH_done (by kernel_rfl) ?_ _
    clear hS
    clear c1
    have KG5 := Lib.hid (KG.out.below HB5.out)
    have KO5 := Lib.hid (KO.out.below HB5.out)
    have KE5 := Lib.hid (KE.out.below HB5.out)
    have c2 : W5.cell? ⟨g, 2, none⟩ = some (.map (some x1.m)) := KG5.out.cell 2
    have e0 : W5.cell? ⟨eb, 0, none⟩ = some (.string k) := KX.out.cell 0
    have e1 : W5.cell? ⟨eb, 1, none⟩ = some (.int .i64 t) := KX.out.cell 1
    have e2 : W5.cell? ⟨eb, 2, none⟩ = some (.int .i64 (n1 : Int)) := KX.out.cell 2
    obtain ⟨D, hown, hd1, hd2, hd3⟩ := KM.out.below HB5.out
    obtain ⟨w6, hrun, ho6, hg6⟩ := (hown.drew).update strK Tryz.underlying112 (by have := HN.out; unfold maxLen; omega) hkey (val := eV (k, t, (n1 : Int))) (d := eD1 (k, t, (n1 : Int))) (ps := []) (entE_mk (k, t, (n1 : Int)))
    have hm6 := MapF.putD (e := (k, t, (n1 : Int))) hown hd1 hd2 hd3 HNO.out ho6
    obtain ⟨nb1, nb2, nb3, nb4, nb5, nb6⟩ := H1.out.nob
    have hg6' : W5.grownBy w6 (some x1.m) := ⟨hg6.os, hg6.tape, hg6.output, hg6.size, hg6.block⟩
    have kg6 := Bk.grown KG5.out hg6' (fun q hq => by have hq2 : x1.m = q := (by injection hq); rw [← hq2]; exact nb2.symm)
    have ko6 := Bk.grown KO5.out hg6' (fun q hq => by have hq2 : x1.m = q := (by injection hq); rw [← hq2]; exact nb3.symm)
    have hml : x1.m < W2.heap.size := KM.out.lt
    have kx6 := Bk.grown KX.out hg6' (fun q hq => by have hq2 : x1.m = q := (by injection hq); have := HEB.out; omega)
    have ke6 : EQ B w6 x1.v x1.L := KE5.out.keep fun q hq => hg6'.block q (KE5.out.lt q hq).2 (fun e => by have e2 : q = x1.m := (by injection e); rw [e2] at hq; exact nb6 hq)
    have hc6 : Chg (fun b => x.own g b ∨ x1.own g b ∧ w.heap.size ≤ b) w w6 := (HC2.out.trans (Chg.of_below HB5.out)).grown hg6' (fun q hq hlt => by
      have hq2 : x1.m = q := (by injection hq)
      rcases HO1.out x1.m (.inr (.inl rfl)) with h | h
      · exact .inl (hq2 ▸ h)
      · omega)
    have KG6 := Lib.hid kg6
    have KO6 := Lib.hid ko6
    have KX6 := Lib.hid kx6
    have KE6 := Lib.hid ke6
    have HC6 := Lib.hid hc6
    have HM6 := Lib.hid hm6
    clear hown hd1 hd2 hd3 ho6 hm6 hg6 hg6' kg6 ko6 kx6 ke6 hc6 hml nb1 nb2 nb3 nb4 nb5 nb6
    go_wp2_with fail
    refine wp_region_held_drew (S := (fun w' => w'.cell? ⟨g, 2, none⟩ = some (.map (some x1.m)) ∧ w'.cell? ⟨eb, 0, none⟩ = some (.string k) ∧ w'.cell? ⟨eb, 1, none⟩ = some (.int .i64 t) ∧ w'.cell? ⟨eb, 2, none⟩ = some (.int .i64 (n1 : Int)))) (by kernel_rfl) ?_ (fun hS => ?_)
    · exact ⟨c2, e0, e1, e2⟩
    refine tkY 0 ?_ rfl hS ?_ ?_
    rotate_left
    · intro wz hz
      obtain ⟨z0, z1, z2, z3⟩ := hz
      go_simp
      all_goals first | with_reducible rfl | omega
    try simp only [Act.put, pu]
    refine tkY 1 ?_ rfl hS ?_ ?_
    rotate_left
    · intro wz hz
      obtain ⟨z0, z1, z2, z3⟩ := hz
      go_simp
      all_goals first | with_reducible rfl | omega
    try simp only [Act.put, pu]
    refine tkY 2 ?_ rfl hS ?_ ?_
    rotate_left
    · intro wz hz
      obtain ⟨z0, z1, z2, z3⟩ := hz
      go_simp
      all_goals first | with_reducible rfl | omega
    try simp only [Act.put, pu]
    refine tkY 3 ?_ rfl hS ?_ ?_
    rotate_left
    · intro wz hz
      obtain ⟨z0, z1, z2, z3⟩ := hz
      go_simp
      all_goals first | with_reducible rfl | omega
    try simp only [Act.put, pu]
    refine tkY 4 ?_ rfl hS ?_ ?_
    rotate_left
    · intro wz hz
      obtain ⟨z0, z1, z2, z3⟩ := hz
      go_simp
      all_goals first | with_reducible rfl | omega
    try simp only [Act.put, pu]
    refine tkY 5 ?_ rfl hS ?_ ?_
    rotate_left
    · intro wz hz
      obtain ⟨z0, z1, z2, z3⟩ := hz
      go_simp
      all_goals first | with_reducible rfl | omega
    try simp only [Act.put, pu]
    refine tkY 6 ?_ rfl hS ?_ ?_
    rotate_left
    · intro wz hz
      obtain ⟨z0, z1, z2, z3⟩ := hz
      go_simp
      all_goals first | with_reducible rfl | omega
    try simp only [Act.put, pu]
    refine wpAnyH_ready (rs := [7]) (by kernel_rfl) (by simp) (AllReadyH.cons rfl (fun K' hK' => ?_) AllReadyH.nil)
    go_simp
    refine hK'.out _ _ ?_ (fun hSn => ?_)
    · exact ⟨KG6.out.cell 2, KX6.out.cell 0, KX6.out.cell 1, KX6.out.cell 2⟩
    clear hK' K' hS
    have hS := hSn
    clear hSn
    refine wpAnyH_done (by kernel_rfl) ?_ _
    clear hS
    clear c2 e0 e1 e2 hrun
    have e0 : w6.cell? ⟨eb, 0, none⟩ = some (.string k) := KX6.out.cell 0
    have e1 : w6.cell? ⟨eb, 1, none⟩ = some (.int .i64 t) := KX6.out.cell 1
    have e2 : w6.cell? ⟨eb, 2, none⟩ = some (.int .i64 (n1 : Int)) := KX6.out.cell 2
    go_wp2_with fail
    refine wp_region_held_drew (S := (fun w' => w'.cell? ⟨eb, 0, none⟩ = some (.string k) ∧ w'.cell? ⟨eb, 1, none⟩ = some (.int .i64 t) ∧ w'.cell? ⟨eb, 2, none⟩ = some (.int .i64 (n1 : Int)))) (by kernel_rfl) ?_ (fun hS => ?_)
    · exact ⟨e0, e1, e2⟩
    refine tkY 0 ?_ rfl hS ?_ ?_
    rotate_left
    · intro wz hz
      obtain ⟨z0, z1, z2⟩ := hz
      go_simp
      all_goals first | with_reducible rfl | omega
    try simp only [Act.put, pu]
    refine tkY 1 ?_ rfl hS ?_ ?_
    rotate_left
    · intro wz hz
      obtain ⟨z0, z1, z2⟩ := hz
      go_simp
      all_goals first | with_reducible rfl | omega
    try simp only [Act.put, pu]
    refine tkY 2 ?_ rfl hS ?_ ?_
    rotate_left
    · intro wz hz
      obtain ⟨z0, z1, z2⟩ := hz
      go_simp
      all_goals first | with_reducible rfl | omega
    try simp only [Act.put, pu]
    refine tkY 3 ?_ rfl hS ?_ ?_
    rotate_left
    · intro wz hz
      obtain ⟨z0, z1, z2⟩ := hz
      go_simp
      all_goals first | with_reducible rfl | omega
    try simp only [Act.put, pu]
    refine wpAnyH_ready (rs := [4]) (by kernel_rfl) (by simp) (AllReadyH.cons rfl (fun K' hK' => ?_) AllReadyH.nil)
    go_simp
    have hbd : Below w6.heap.size w6 w6.drew := (Below.refl _ _).drew
    refine (add_any w6.drew B g x1.ob x1.v x1.L n (k, t, (n1 : Int)) _ (KG6.out.below hbd) rfl (KO6.out.below hbd) (KE6.out.below hbd) H1.out.sr (by have := H1.out.le; have := HN.out; omega) (Nat.le_trans HB0.out HC6.out.size)).mono ?_
    rintro e w7 ⟨rfl, a7, c7, k7, q7, h7, o7⟩
    have hke : ¬ (eb = x1.ob ∨ x1.v.ownBlock = some eb) := by
      have h0 := HEB.out
      rintro (e | e)
      · have := KO.out.lt; omega
      · have := (KE.out.lt eb e).2; omega
    have ke7 := (KX6.out.below hbd).chg h7 hke
    have hSC := (show _ ∧ _ ∧ _ from ⟨ke7.cell 0, ke7.cell 1, ke7.cell 2⟩)
    have K7 := Lib.hid k7
    have Q7 := Lib.hid q7
    have H7 := Lib.hid h7
    have O7 := Lib.hid o7
    clear k7 q7 h7 o7 ke7 hke
    refine hK'.out _ _ ?_ (fun hSn => ?_)
    · exact hSC
    clear hK' K' hS
    have hS := hSn
    clear hSn
    try simp only [Act.put, pu]
    refine wpAnyH_done (by kernel_rfl) ?_ _
    clear hS
    clear e0 e1 e2
    go_wp2
    go_ret
    obtain ⟨nb1, nb2, nb3, nb4, nb5, nb6⟩ := H1.out.nob
    have hbd : Below w6.heap.size w6 w6.drew := (Below.refl _ _).drew
    have hset : setL k t (n1 : Int) x1.L = leL t x1.L ++ (k, t, (n1 : Int)) :: gtL t x1.L := by unfold setL; rw [dropL_no (fnd_none.1 HNO.out)]
    have hit : (setL k t (n1 : Int) x1.L).map it = setI k t (x.L.map it) := by
      rw [hset, List.map_append, List.map_cons, it_leL, it_gtL, HI1.out]; rfl
    have hlen : (setL k t (n1 : Int) x1.L).length = x1.L.length + 1 := by
      rw [hset, List.length_append, List.length_cons]
      have := congrArg List.length (H1.out.sr.split t)
      rw [List.length_append] at this
      omega
    have hn1 : ((n1 : Nat) : Int) = (n : Int) + 1 := by have := HN1.out; omega
    refine ⟨rfl, ⟨x1.m, x1.ob, a7, c7, setL k t (n1 : Int) x1.L⟩, ⟨?_, ?_, ?_, ?_, ?_, ?_, H1.out.bs⟩, hit, fun b hb => ?_, ?_⟩
    · exact (KG6.out.below hbd).chg H7.out (fun e => e.elim nb1 (fun e => nb4 e))
    · have := K7.out; rw [← hset] at this; exact this
    · have := Q7.out; rw [← hset] at this; exact this
    · have h9 := (HM6.out.below hbd).keep (H7.out.block _ (HM6.out.below hbd).lt (fun e => e.elim nb3 (fun e => nb6 e)))
      have e1 : (fun x_1 => if x_1 = k then some (k, t, (n1 : Int)) else fnd x_1 x1.L) = fun y => fnd y (setL k t (n1 : Int) x1.L) := by
        funext y; rw [fnd_set H1.out.sr k y]
      rw [e1, ← hlen, HN1.out] at h9
      exact h9
    · show Srt ((n1 : Nat) : Int) (setL k t (n1 : Int) x1.L)
      rw [hn1]; exact H1.out.sr.setL k t
    · show (setL k t (n1 : Int) x1.L).length ≤ n1
      have := H1.out.le; have := HN1.out; omega
    · have key : x1.own g b ∨ w6.drew.heap.size ≤ b := by
        rcases hb with hb | hb | hb | hb
        · exact .inl (.inl hb)
        · exact .inl (.inr (.inl hb))
        · exact .inl (.inr (.inr (.inl hb)))
        · have hb' : (Value.slice a7 (leL t x1.L ++ (k, t, (n1 : Int)) :: gtL t x1.L).length c7).ownBlock = some b := by rw [← hset]; exact hb
          rcases O7.out b hb' with h | h
          · exact .inl (.inr (.inr (.inr h)))
          · exact .inr h
      rcases key with h | h
      · exact HO1.out b h
      · exact .inr (Nat.le_trans HC6.out.size h)
    · refine ((HC6.out.drew).trans (H7.out.mono fun b hbl hb => ?_)).mono fun b hbl hb => hb.elim id (fun h => absurd hbl (Nat.not_lt.2 h.2))
      have hb2 : x1.own g b := hb.elim (fun e => .inr (.inr (.inl e))) (fun e => .inr (.inr (.inr e)))
      rcases HO1.out b hb2 with h | h
      · exact .inl h
      · exact .inr ⟨hb2, h⟩
end Go.Proofs.YtjngangojgjceaaGreat.EX
