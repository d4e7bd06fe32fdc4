/- Package expiry: an entry let into its order, and out of it. Conditions: how many. -/
import Derived.Test.YtfilmbeoggmglaaExe
namespace Go.Proofs.Ytfilmbeoggmglaa.EX
open Go.ChangeShapes Go.WideShapes Go.ChangeAt Go.RowKit
open Go.Proofs.Ytfilmbeoggmglaa.SL Go.Proofs.Ytfilmbeoggmglaa.RW
set_option maxRecDepth 100000
set_option linter.unusedVariables false
set_option linter.unusedSimpArgs false

theorem ty_qe : (73 : TypeId) ≠ 101 := by decide
theorem ty_oe : (108 : TypeId) ≠ 101 := by decide
theorem ty_qo : (73 : TypeId) ≠ 108 := by decide
/-- a block of another type is none of a row of entries -/
theorem EQ.off {B : Nat} {w : World} {v : Value} {l : List Et} (h : EQ B w v l) {b : Nat} {t : TypeId} {cs : Array Value} (hb : Bk w b t cs) (ht : t ≠ 101) : ∀ q, v.ownBlock = some q → b ≠ q := by
  rintro q hq rfl
  obtain ⟨_, cur, fz, h9⟩ := h.ty b hq
  unfold Bk at hb
  rw [hb] at h9
  injection h9 with h9
  injection h9 with _ h9
  exact ht h9
theorem Bk.grown {w w' : World} {b : Nat} {t : TypeId} {cs : Array Value} {row : Option Nat} (h : Bk w b t cs) (hg : w.grownBy w' row) (hn : ∀ q, row = some q → b ≠ q) : Bk w' b t cs := h.heap (hg.block b h.lt (fun e => hn b e.symm rfl))
theorem delLenR {L A C : List Et} {c : Nat} (h1 : L.take c = A) (h2 : L.drop c = C) (hc : c ≤ L.length) (x : Et) : (A ++ x :: C).length = L.length + 1 := by
  rw [← h1, ← h2]; exact insLen L c x hc
def OrdP (B ob : Nat) (v : Value) (R : List Et) (w : World) (e : Ending) (w' : World) : Prop :=
  e = .returned (.tuple #[]) ∧ ∃ a c, Bk w' ob 108 #[.slice a R.length c] ∧ EQ B w' (.slice a R.length c) R ∧ Chg (fun b => b = ob ∨ v.ownBlock = some b) w w' ∧ ∀ q, (Value.slice a R.length c).ownBlock = some q → v.ownBlock = some q ∨ w.heap.size ≤ q
theorem mono_gt {n t : Int} {L : List Et} (h : Srt n L) : L.Pairwise fun a b => decide (t < a.2.1) = true → decide (t < b.2.1) = true := h.ord.imp fun {a b} hab ha => by
  have := of_decide_eq_true ha
  exact decide_eq_true (by rcases hab with e | e <;> omega)
set_option maxHeartbeats 8000000 in
theorem add_any (w : World) (B g ob : Nat) (v : Value) (L : List Et) (n : Int) (x : Et) (qc : Array Value) (hg : Bk w g 73 qc) (hq : qc[3]? = some (.slice (some ⟨ob, 0, none⟩) 1 1)) (ho : Bk w ob 108 #[v]) (hv : EQ B w v L) (hs : Srt n L) (hl : L.length ≤ 500) (hB : B ≤ w.heap.size) :
    Calls Try.prog 59 #[.pointer (some ⟨g, 3, none⟩), eV x] w (OrdP B ob v (leL x.2.1 L ++ x :: gtL x.2.1 L) w) := by
  obtain ⟨R, hR⟩ : ∃ R, leL x.2.1 L ++ x :: gtL x.2.1 L = R := ⟨_, rfl⟩
  have HR := Lib.hid hR
  rw [hR]
  clear hR
  have HS := Lib.hid hs
  have HL := Lib.hid hl
  obtain ⟨xb, hxb⟩ : ∃ b, w.heap.size = b := ⟨_, rfl⟩
  obtain ⟨W1, hW1⟩ : ∃ W, w.alloc (.cells #[.string x.1, .int .i64 x.2.1, .int .i64 x.2.2] 101) = W := ⟨_, rfl⟩
  have hb1 : Below w.heap.size w W1 := by rw [← hW1]; exact (Below.refl _ _).alloc (Nat.le_refl _) _
  have kx : Bk W1 xb 101 #[.string x.1, .int .i64 x.2.1, .int .i64 x.2.2] := by rw [← hW1, ← hxb]; exact Bk.new _ _ _
  have HB1 := Lib.hid hb1
  have KX := Lib.hid kx
  have KG := Lib.hid (hg.below hb1)
  have KO := Lib.hid (ho.below hb1)
  have HV := Lib.hid (hv.below hb1)
  have HB0 : Hid (B ≤ W1.heap.size) := Lib.hid (Nat.le_trans hB hb1.size)
  have q3 : W1.cell? ⟨g, 3, none⟩ = some (.slice (some ⟨ob, 0, none⟩) 1 1) := ((hg.below hb1).cell 3).trans hq
  have henter : ∀ args W, (callFunc 70 args).run Try.prog W = .ok (.enter 70 args) W := fun args W => by show Sem.run Try.prog (callFunc 70 args) W = _; go_simp
  have HE := Lib.hid henter
  have HNB : Hid (∀ q, v.ownBlock = some q → q < xb) := Lib.hid fun q hq => by have := (hv.lt q hq).2; omega
  have HOB : Hid (∀ q, v.ownBlock = some q → q < w.heap.size) := Lib.hid fun q hq => (hv.lt q hq).2
  have HQ3 := Lib.hid hq
  clear hs hl hb1 kx hg ho hv hB henter hq
  go_enter Try.func59, Try.ntmps59
  go_wp2_with fail
  try rw [hxb]
  refine (first_any W1 B ob _ #[ptr xb] v L (fun e => decide (x.2.1 < e.2.1)) KO.out HV.out ⟨HE.out, fun W hb e _ => addc_any W xb x e (KX.out.below hb) _ rfl⟩ (mono_gt HS.out) (by have := HL.out; omega)).mono ?_
  rintro e w2 ⟨c, rfl, hc, ht, hd, hb2⟩
  have ht2 : L.take c = leL x.2.1 L := ht
  have hd2 : L.drop c = gtL x.2.1 L := hd
  have HT := Lib.hid ht2
  have HD := Lib.hid hd2
  have HC := Lib.hid hc
  have HB2 := Lib.hid (HB1.out.trans (hb2.mono HB1.out.size))
  have KX2 := Lib.hid (KX.out.below hb2)
  have KG2 := Lib.hid (KG.out.below hb2)
  have KO2 := Lib.hid (KO.out.below hb2)
  have HV2 := Lib.hid (HV.out.below hb2)
  have HB3 : Hid (B ≤ w2.heap.size) := Lib.hid (Nat.le_trans HB0.out hb2.size)
  have c3 : w2.cell? ⟨g, 3, none⟩ = some (.slice (some ⟨ob, 0, none⟩) 1 1) := (KG2.out.cell 3).trans HQ3.out
  have c0 : w2.cell? ⟨ob, 0, none⟩ = some v := KO2.out.cell 0
  have x0 : w2.cell? ⟨xb, 0, none⟩ = some (.string x.1) := KX2.out.cell 0
  have x1 : w2.cell? ⟨xb, 1, none⟩ = some (.int .i64 x.2.1) := KX2.out.cell 1
  have x2 : w2.cell? ⟨xb, 2, none⟩ = some (.int .i64 x.2.2) := KX2.out.cell 2
  clear ht hd hc hb2 ht2 hd2 q3 KX KG KO HV HB0 HB1 hxb hW1
  go_wp2_with fail
  refine wp_region_held_drew (S := (fun w' => w'.cell? ⟨g, 3, none⟩ = some (.slice (some ⟨ob, 0, none⟩) 1 1) ∧ w'.cell? ⟨ob, 0, none⟩ = some v ∧ w'.cell? ⟨xb, 0, none⟩ = some (.string x.1) ∧ w'.cell? ⟨xb, 1, none⟩ = some (.int .i64 x.2.1) ∧ w'.cell? ⟨xb, 2, none⟩ = some (.int .i64 x.2.2))) (by kernel_rfl) ?_ (fun hS => ?_)
  · exact ⟨c3, c0, x0, x1, x2⟩
  refine tkY 0 ?_ rfl hS ?_ ?_
  rotate_left
  · intro wz hz
    obtain ⟨z0, z1, z2, z3, z4⟩ := hz
    go_simp
    all_goals first | with_reducible rfl | omega
  try simp only [Act.put, pu]
  refine tkY 1 ?_ rfl hS ?_ ?_
  rotate_left
  · intro wz hz
    obtain ⟨z0, z1, z2, z3, z4⟩ := hz
    go_simp
    all_goals first | with_reducible rfl | omega
  try simp only [Act.put, pu]
  refine tkY 2 ?_ rfl hS ?_ ?_
  rotate_left
  · intro wz hz
    obtain ⟨z0, z1, z2, z3, z4⟩ := hz
    go_simp
    all_goals first | with_reducible rfl | omega
  try simp only [Act.put, pu]
  refine tkY 3 ?_ rfl hS ?_ ?_
  rotate_left
  · intro wz hz
    obtain ⟨z0, z1, z2, z3, z4⟩ := hz
    go_simp
    all_goals first | with_reducible rfl | omega
  try simp only [Act.put, pu]
  refine tkY 4 ?_ rfl hS ?_ ?_
  rotate_left
  · intro wz hz
    obtain ⟨z0, z1, z2, z3, z4⟩ := hz
    go_simp
    all_goals first | with_reducible rfl | omega
  try simp only [Act.put, pu]
  refine tkY 5 ?_ rfl hS ?_ ?_
  rotate_left
  · intro wz hz
    obtain ⟨z0, z1, z2, z3, z4⟩ := hz
    go_simp
    all_goals first | with_reducible rfl | omega
  try simp only [Act.put, pu]
  refine tkY 6 ?_ rfl hS ?_ ?_
  rotate_left
  · intro wz hz
    obtain ⟨z0, z1, z2, z3, z4⟩ := hz
    go_simp
    all_goals first | with_reducible rfl | omega
  try simp only [Act.put, pu]
  refine tkY 7 ?_ rfl hS ?_ ?_
  rotate_left
  · intro wz hz
    obtain ⟨z0, z1, z2, z3, z4⟩ := hz
    go_simp
    all_goals first | with_reducible rfl | omega
  try simp only [Act.put, pu]
  refine wpAnyH_ready (rs := [8]) (by kernel_rfl) (by simp) (AllReadyH.cons rfl (fun K' hK' => ?_) AllReadyH.nil)
  go_simp
  obtain ⟨W4, hW4⟩ : ∃ W, (w2.alloc (.cells #[.string x.1, .int .i64 x.2.1, .int .i64 x.2.2] 101)).drew = W := ⟨_, rfl⟩
  have hb4 : Below w2.heap.size w2 W4 := by rw [← hW4]; exact ((Below.refl _ _).alloc (Nat.le_refl _) _).drew
  have kv : Bk W4 w2.heap.size 101 #[.string x.1, .int .i64 x.2.1, .int .i64 x.2.2] := by rw [← hW4]; exact (Bk.new w2 _ _).drew
  try rw [hW4]
  have HB4 := Lib.hid hb4
  have KV := Lib.hid kv
  have KX4 := KX2.out.below hb4
  have hSC := (show _ ∧ _ ∧ _ ∧ _ ∧ _ from ⟨((KG2.out.below hb4).cell 3).trans HQ3.out, (KO2.out.below hb4).cell 0, KX4.cell 0, KX4.cell 1, KX4.cell 2⟩)
  clear kv KX4 hW4
  refine hK'.out _ _ ?_ (fun hSn => ?_)
  · exact hSC
  clear hK' K' hS
  have hS := hSn
  clear hSn
  try simp only [Act.put, pu]
  refine wpAnyH_ready (rs := [9]) (by kernel_rfl) (by simp) (AllReadyH.cons rfl (fun K' hK' => ?_) AllReadyH.nil)
  go_simp
  refine (einsert_any B v L c x w2.heap.size W4 (HV2.out.below HB4.out) KV.out (fun q hq => by have := (HV2.out.lt q hq).2; omega) HC.out (by have := HL.out; omega) (Nat.le_trans HB3.out HB4.out.size)).mono ?_
  rintro e w5 ⟨a5, c5, rfl, he5, hg5, ho5⟩
  rw [HT.out, HD.out, HR.out] at he5 ho5
  rw [HT.out, HD.out, HR.out]
  have kg5 := Bk.grown (KG2.out.below HB4.out) hg5 (fun q hq => (HV2.out.below HB4.out).off (KG2.out.below HB4.out) ty_qe q hq)
  have ko5 := Bk.grown (KO2.out.below HB4.out) hg5 (fun q hq => (HV2.out.below HB4.out).off (KO2.out.below HB4.out) ty_oe q hq)
  have kx5 := Bk.grown (KX2.out.below HB4.out) hg5 (fun q hq => by have := HNB.out q hq; omega)
  have hSC := (show _ ∧ _ ∧ _ ∧ _ ∧ _ from ⟨(kg5.cell 3).trans HQ3.out, ko5.cell 0, kx5.cell 0, kx5.cell 1, kx5.cell 2⟩)
  have KG5 := Lib.hid kg5
  have KO5 := Lib.hid ko5
  have HE5 := Lib.hid he5
  have HG5 := Lib.hid hg5
  have HO5 := Lib.hid ho5
  clear kg5 ko5 kx5 he5 hg5 ho5
  refine hK'.out _ _ ?_ (fun hSn => ?_)
  · exact hSC
  clear hK' K' hS
  have hS := hSn
  clear hSn
  try simp only [Act.put, pu]
  refine tkY 10 ?_ rfl hS ?_ ?_
  rotate_left
  · intro wz hz
    obtain ⟨z0, z1, z2, z3, z4⟩ := hz
    go_simp
    all_goals first | with_reducible rfl | omega
  try simp only [Act.put, pu]
  refine wpAnyH_done (by kernel_rfl) ?_ _
  clear hS
  have hrl : R.length ≤ 512 := by
    have h1 := delLenR HT.out HD.out HC.out x
    rw [HR.out] at h1
    have := HL.out
    omega
  have HRL : Hid (R.length ≤ 512) := Lib.hid hrl
  have rl : ¬ ((512 : Int) < (R.length : Int)) := by omega
  have y3 : w5.cell? ⟨g, 3, none⟩ = some (.slice (some ⟨ob, 0, none⟩) 1 1) := (KG5.out.cell 3).trans HQ3.out
  have y0 : w5.cell? ⟨ob, 0, none⟩ = some v := KO5.out.cell 0
  have f0 := KO5.out.frozen 0
  clear c3 c0 x0 x1 x2 hrl
  go_wp2
  refine bodyPost_ret (v := .tuple #[]) (by simp [results, Try.results59, go_sem]) rfl ⟨rfl, a5, c5, KO5.out.set_ 0 _, ?_, ?_, ?_⟩
  · exact HE5.out.keep fun q hq => Below.heap_setCell _ _ _ _ (fun e => (HE5.out.off KO5.out ty_oe q hq) e.symm)
  · have h1 : Chg (fun b => b = ob ∨ v.ownBlock = some b) w w5 := ((Chg.of_below (S := fun b => b = ob ∨ v.ownBlock = some b) HB2.out).trans (Chg.of_below HB4.out)).grown HG5.out (fun k hk _ => .inr hk)
    exact h1.setCell (p := ⟨ob, 0, none⟩) (.inl rfl) _
  · intro q hq
    rcases HO5.out q hq with h | h
    · exact .inl h
    · exact .inr (Nat.le_trans HB2.out.size (Nat.le_trans HB4.out.size h))
end Go.Proofs.Ytfilmbeoggmglaa.EX
