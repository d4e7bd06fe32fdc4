/- Package expiry: an entry let out of its order. Conditions: how many. -/
import Derived.Test.YtfilmbeoggmglaaExg
namespace Go.Proofs.Ytfilmbeoggmglaa.EX
open Go.ChangeShapes Go.WideShapes Go.ChangeAt Go.RowKit
open Go.Proofs.Ytfilmbeoggmglaa.SL Go.Proofs.Ytfilmbeoggmglaa.RW
set_option maxRecDepth 100000
set_option linter.unusedVariables false
set_option linter.unusedSimpArgs false

def behB (x y : Et) : Bool := decide (x.2.1 < y.2.1) || (decide (y.2.1 = x.2.1) && decide (x.2.2 ≤ y.2.2))
theorem beh_iff (x y : Et) : behB x y = true ↔ x.2.1 < y.2.1 ∨ (y.2.1 = x.2.1 ∧ x.2.2 ≤ y.2.2) := by unfold behB; simp
theorem mono_beh {n : Int} {L : List Et} (h : Srt n L) (x : Et) : L.Pairwise fun a b => behB x a = true → behB x b = true := h.ord.imp fun {a b} hab ha => by
  rw [beh_iff] at ha ⊢
  unfold ltE at hab
  omega
/-- what stands ahead of an entry that is there, and behind it -/
theorem beh_cut {n : Int} {A C : List Et} {x : Et} (h : Srt n (A ++ x :: C)) : (A ++ x :: C).filter (fun y => !behB x y) = A ∧ (A ++ x :: C).filter (behB x) = x :: C := by
  obtain ⟨_, h1, h2⟩ := h.out
  have ha : ∀ a ∈ A, behB x a = false := fun a ha => by
    have := h1 a ha
    cases hb : behB x a with
    | false => rfl
    | true =>
      rw [beh_iff] at hb
      unfold ltE at this
      omega
  have hx : behB x x = true := by rw [beh_iff]; exact .inr ⟨rfl, Int.le_refl _⟩
  have hc : ∀ c ∈ C, behB x c = true := fun c hc => by
    have := h2 c hc
    rw [beh_iff]
    unfold ltE at this
    omega
  refine ⟨?_, ?_⟩
  · rw [List.filter_append, List.filter_cons, hx]
    rw [List.filter_eq_self.2 (fun a h => by rw [ha a h]; rfl), List.filter_eq_nil_iff.2 (fun c h => by rw [hc c h]; simp)]
    simp
  · rw [List.filter_append, List.filter_cons, hx, List.filter_eq_nil_iff.2 (fun a h => by rw [ha a h]; simp), List.filter_eq_self.2 hc]
    simp
set_option maxHeartbeats 8000000 in
theorem remove_any (w : World) (B g ob : Nat) (v : Value) (A C : List Et) (n : Int) (x : Et) (qc : Array Value) (hg : Bk w g 73 qc) (hq : qc[3]? = some (.slice (some ⟨ob, 0, none⟩) 1 1)) (ho : Bk w ob 108 #[v]) (hv : EQ B w v (A ++ x :: C)) (hs : Srt n (A ++ x :: C)) (hl : (A ++ x :: C).length ≤ 500) (hB : B ≤ w.heap.size) :
    Calls Try.prog 61 #[.pointer (some ⟨g, 3, none⟩), eV x] w (OrdP B ob v (A ++ C) w) := by
  obtain ⟨f1, f2⟩ := beh_cut hs
  obtain ⟨R, hR⟩ : ∃ R, A ++ C = R := ⟨_, rfl⟩
  obtain ⟨L, hL⟩ : ∃ L, A ++ x :: C = L := ⟨_, rfl⟩
  have hdd : ∀ c, L.take c = A → L.drop c = x :: C → L.take c ++ L.drop (c + 1) = R := fun c h1 h2 => by rw [h1, ← hR, show c + 1 = c + 1 from rfl, ← List.drop_drop, h2]; rfl
  rw [hL] at hv hs hl f1 f2
  rw [hR]
  have HF1 := Lib.hid f1
  have HF2 := Lib.hid f2
  have HDD := Lib.hid hdd
  have HS := Lib.hid hs
  have HL := Lib.hid hl
  obtain ⟨xb, hxb⟩ : ∃ b, w.heap.size = b := ⟨_, rfl⟩
  obtain ⟨W1, hW1⟩ : ∃ W, w.alloc (.cells #[.string x.1, .int .i64 x.2.1, .int .i64 x.2.2] 101) = W := ⟨_, rfl⟩
  have hb1 : Below w.heap.size w W1 := by rw [← hW1]; exact (Below.refl _ _).alloc (Nat.le_refl _) _
  have kx : Bk W1 xb 101 #[.string x.1, .int .i64 x.2.1, .int .i64 x.2.2] := by rw [← hW1, ← hxb]; exact Bk.new _ _ _
  have HB1 := Lib.hid hb1
  have KX := Lib.hid kx
  have KG := Lib.hid (hg.below hb1)
  have KO := Lib.hid (ho.below hb1)
  have HV := Lib.hid (hv.below hb1)
  have HB0 : Hid (B ≤ W1.heap.size) := Lib.hid (Nat.le_trans hB hb1.size)
  have q3 : W1.cell? ⟨g, 3, none⟩ = some (.slice (some ⟨ob, 0, none⟩) 1 1) := ((hg.below hb1).cell 3).trans hq
  have henter : ∀ args W, (callFunc 75 args).run Try.prog W = .ok (.enter 75 args) W := fun args W => by show Sem.run Try.prog (callFunc 75 args) W = _; go_simp
  have HE := Lib.hid henter
  have HNB : Hid (∀ q, v.ownBlock = some q → q < xb) := Lib.hid fun q hq => by have := (hv.lt q hq).2; omega
  have HQ3 := Lib.hid hq
  clear hs hl hb1 kx hg ho hv hB henter hq f1 f2 hdd hR hL
  go_enter Try.func61, Try.ntmps61
  go_wp2_with fail
  try rw [hxb]
  refine (first_any W1 B ob _ #[ptr xb] v L (behB x) KO.out HV.out ⟨HE.out, fun W hb e _ => remc_any W xb x e (KX.out.below hb) _ rfl⟩ (mono_beh HS.out x) (by have := HL.out; omega)).mono ?_
  rintro e w2 ⟨c, rfl, hc, ht, hd, hb2⟩
  rw [HF1.out] at ht
  rw [HF2.out] at hd
  have hdd := HDD.out c ht hd
  have hcl : c < L.length := by
    have h1 := congrArg List.length hd
    rw [List.length_drop, List.length_cons] at h1
    omega
  obtain ⟨c1, hc1⟩ : ∃ c1, c + 1 = c1 := ⟨_, rfl⟩
  rw [hc1] at hdd
  have wk : IntKind.i64.wrap ((c : Int) + 1) = (c1 : Int) := by rw [show (c : Int) + 1 = (c1 : Int) by omega]; exact IntWalk.i64_in _ (by have := HL.out; omega)
  have HD := Lib.hid hdd
  have HC : Hid (c ≤ c1 ∧ c1 ≤ L.length) := Lib.hid (by omega)
  have HB2 := Lib.hid (HB1.out.trans (hb2.mono HB1.out.size))
  have KG2 := Lib.hid (KG.out.below hb2)
  have KO2 := Lib.hid (KO.out.below hb2)
  have HV2 := Lib.hid (HV.out.below hb2)
  have c3 : w2.cell? ⟨g, 3, none⟩ = some (.slice (some ⟨ob, 0, none⟩) 1 1) := (KG2.out.cell 3).trans HQ3.out
  have c0 : w2.cell? ⟨ob, 0, none⟩ = some v := KO2.out.cell 0
  clear ht hd hc hb2 q3 KX KG KO HV HB0 HB1 hxb hW1 hdd hcl hc1 HF1 HF2 HDD
  go_wp2_with fail
  refine wp_region_held_drew (S := (fun w' => w'.cell? ⟨g, 3, none⟩ = some (.slice (some ⟨ob, 0, none⟩) 1 1))) (by kernel_rfl) ?_ (fun hS => ?_)
  · exact c3
  refine tkY 0 ?_ rfl hS ?_ ?_
  rotate_left
  · intro wz hz
    go_simp
    all_goals first | with_reducible rfl | omega
  try simp only [Act.put, pu]
  refine tkY 1 ?_ rfl hS ?_ ?_
  rotate_left
  · intro wz hz
    go_simp
    all_goals first | with_reducible rfl | omega
  try simp only [Act.put, pu]
  refine tkY 2 ?_ rfl hS ?_ ?_
  rotate_left
  · intro wz hz
    go_simp
    all_goals first | with_reducible rfl | omega
  try simp only [Act.put, pu]
  refine tkY 3 ?_ rfl hS ?_ ?_
  rotate_left
  · intro wz hz
    go_simp
    all_goals first | with_reducible rfl | omega
  try simp only [Act.put, pu]
  refine tkY 4 ?_ rfl hS ?_ ?_
  rotate_left
  · intro wz hz
    go_simp
    all_goals first | with_reducible rfl | omega
  try simp only [Act.put, pu]
  refine tkY 5 ?_ rfl hS ?_ ?_
  rotate_left
  · intro wz hz
    go_simp
    all_goals first | with_reducible rfl | omega
  try simp only [Act.put, pu]
  refine tkY 6 ?_ rfl hS ?_ ?_
  rotate_left
  · intro wz hz
    go_simp
    all_goals first | with_reducible rfl | omega
  try simp only [Act.put, pu]
  refine tkY 7 ?_ rfl hS ?_ ?_
  rotate_left
  · intro wz hz
    go_simp
    all_goals first | with_reducible rfl | omega
  try simp only [Act.put, pu]
  refine tkY 8 ?_ rfl hS ?_ ?_
  rotate_left
  · intro wz hz
    go_simp
    all_goals first | with_reducible rfl | omega
  try simp only [Act.put, pu]
  refine tkY 10 ?_ rfl hS ?_ ?_
  rotate_left
  · intro wz hz
    go_simp
    all_goals first | with_reducible rfl | omega
  try simp only [Act.put, pu]
  refine tkY 11 ?_ rfl hS ?_ ?_
  rotate_left
  · intro wz hz
    go_simp
    all_goals first | with_reducible rfl | omega
  try simp only [Act.put, pu]
  refine tkY 12 ?_ rfl hS ?_ ?_
  rotate_left
  · intro wz hz
    go_simp
    all_goals first | with_reducible rfl | omega
  try simp only [Act.put, pu]
  refine wpAnyH_ready (rs := [9]) (by kernel_rfl) (by simp) (AllReadyH.cons rfl (fun K' hK' => ?_) AllReadyH.nil)
  go_simp
  refine hK'.out _ _ ?_ (fun hSn => ?_)
  · exact c3
  clear hK' K' hS
  have hS := hSn
  clear hSn
  try simp only [Act.put, pu]
  refine wpAnyH_ready (rs := [13]) (by kernel_rfl) (by simp) (AllReadyH.cons rfl (fun K' hK' => ?_) AllReadyH.nil)
  go_simp
  have hbd : Below w2.heap.size w2 w2.drew := (Below.refl _ _).drew
  refine (edelete_any B v L c c1 w2.drew (HV2.out.below hbd) HC.out.1 HC.out.2 (by have := HL.out; omega)).mono ?_
  rintro e w5 ⟨a5, c5, rfl, he5, hg5, ho5⟩
  rw [HD.out] at he5 ho5
  rw [HD.out]
  have kg5 := Bk.grown (KG2.out.below hbd) hg5 (fun q hq => (HV2.out.below hbd).off (KG2.out.below hbd) ty_qe q hq)
  have ko5 := Bk.grown (KO2.out.below hbd) hg5 (fun q hq => (HV2.out.below hbd).off (KO2.out.below hbd) ty_oe q hq)
  have hSC := (kg5.cell 3).trans HQ3.out
  have f0 := ko5.frozen 0
  have s0 : w5.cell? ⟨ob, 0, none⟩ = some v := ko5.cell 0
  have KG5 := Lib.hid kg5
  have KO5 := Lib.hid ko5
  have HE5 := Lib.hid he5
  have HG5 := Lib.hid hg5
  have HO5 := Lib.hid ho5
  clear kg5 ko5 he5 hg5 ho5
  refine hK'.out _ _ ?_ (fun hSn => ?_)
  · exact hSC
  clear hK' K' hS
  have hS := hSn
  clear hSn
  try simp only [Act.put, pu]
  refine tkY 14 ?_ rfl hS ?_ ?_
  rotate_left
  · intro wz hz
    go_simp
    all_goals first | with_reducible rfl | omega
  try simp only [Act.put, pu]
  refine wpAnyH_ready (rs := [15]) (by kernel_rfl) (by simp) (AllReadyH.cons rfl (fun K' hK' => ?_) AllReadyH.nil)
  go_simp
  refine hK'.out _ _ ?_ (fun hSn => ?_)
  · exact (KG5.out.far (p := ⟨ob, 0, none⟩) (KG5.out.ne_ KO5.out ty_qo) _).cell 3 |>.trans HQ3.out
  clear hK' K' hS
  have hS := hSn
  clear hSn
  refine wpAnyH_done (by kernel_rfl) ?_ _
  clear hS
  have hko := KO5.out.set_ 0 (.slice a5 R.length c5)
  have hkg := KG5.out.far (p := ⟨ob, 0, none⟩) (KG5.out.ne_ KO5.out ty_qo) (.slice a5 R.length c5)
  have hEE : EQ B (w5.setCell ⟨ob, 0, none⟩ (.slice a5 R.length c5)) (.slice a5 R.length c5) R := HE5.out.keep fun q hq => Below.heap_setCell _ _ _ _ (fun e => (HE5.out.off KO5.out ty_oe q hq) e.symm)
  have h1 : Chg (fun b => b = ob ∨ v.ownBlock = some b) w w5 := (Chg.of_below (S := fun b => b = ob ∨ v.ownBlock = some b) HB2.out).grown (w1 := w2) ⟨HG5.out.os, HG5.out.tape, HG5.out.output, HG5.out.size, HG5.out.block⟩ (fun k hk _ => .inr hk)
  have hch := h1.setCell (p := ⟨ob, 0, none⟩) (.inl rfl) (.slice a5 R.length c5)
  obtain ⟨w6, hw6⟩ : ∃ w6, w5.setCell ⟨ob, 0, none⟩ (.slice a5 R.length c5) = w6 := ⟨_, rfl⟩
  rw [hw6] at hko hkg hEE hch
  rw [hw6]
  have KO6 : Hid (Bk w6 ob 108 #[.slice a5 R.length c5]) := Lib.hid hko
  have y3 : w6.cell? ⟨g, 3, none⟩ = some (.slice (some ⟨ob, 0, none⟩) 1 1) := (hkg.cell 3).trans HQ3.out
  have y0 : w6.cell? ⟨ob, 0, none⟩ = some (.slice a5 R.length c5) := KO6.out.cell 0
  have HEE := Lib.hid hEE
  have HCH := Lib.hid hch
  clear hko hkg hEE hch h1 hw6 c3 c0 f0 s0
  by_cases hz : R.length = 0
  · have z1 : ((R.length : Int) == 0) = true := by rw [hz]; rfl
    have z2 : (R.length : Int) = 0 := by omega
    clear hz
    go_wp2
    refine bodyPost_ret (v := .tuple #[]) (by simp [results, Try.results61, go_sem]) rfl ⟨rfl, a5, c5, KO6.out, HEE.out, HCH.out, fun q hq => .inl (HO5.out q hq)⟩
  · have z1 : ((R.length : Int) == 0) = false := beq_eq_false_iff_ne.2 (by omega)
    have z2 : ¬ ((R.length : Int) = 0) := by omega
    clear hz
    go_wp2
    refine bodyPost_ret (v := .tuple #[]) (by simp [results, Try.results61, go_sem]) rfl ⟨rfl, a5, c5, KO6.out, HEE.out, HCH.out, fun q hq => .inl (HO5.out q hq)⟩
end Go.Proofs.Ytfilmbeoggmglaa.EX
