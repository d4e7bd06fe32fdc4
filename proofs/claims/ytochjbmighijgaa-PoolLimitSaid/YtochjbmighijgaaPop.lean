/- Package pool, its code: Reap. Conditions: how many; what goes is there. -/
import Derived.Test.YtochjbmighijgaaPoo
namespace Go.Proofs.Ytochjbmighijgaa.PO
open Go.ChangeShapes Go.WideShapes Go.ChangeAt Go.RowKit Go.Maps Go.ChangeMaps
open Go.Proofs.Ytochjbmighijgaa.SL Go.Proofs.Ytochjbmighijgaa.RW
open Go.Proofs.Ytochjbmighijgaa.LN (tkY tkN pu OI IS RdP)
set_option maxRecDepth 100000
set_option linter.unusedVariables false
set_option linter.unusedSimpArgs false

/-- connections ended one after another -/
inductive Ends : Raw → List Int → Raw → Prop
  | nil (R : Raw) : Ends R [] R
  | cons {R R' : Raw} {n : Int} {t : List Int} {g : Nat} {c s : Int} {q : Row} (h1 : R.nm n = some (g, c, s)) (h2 : R.rows g = some q) (h3 : 1 ≤ q.conns ∧ q.conns ≤ 1000000) (h4 : I9 n) (h : Ends (endR R n g q) t R') : Ends R (n :: t) R'
def ReapP (B : Nat) (w : World) (a N : Nat) (C : Cf) (R : Raw) (T : Int) (e : Ending) (w' : World) : Prop :=
  ∃ (v : Value) (l : List Int) (ks : List ByteArray) (R' : Raw), e = .returned v ∧ OI w.heap.size w' v l ∧ PL B w' a N C R' ∧ Fr B w w' ∧ Ends { R with rows := actR R (reapA T) fun _ => false } l R' ∧ ks.Nodup ∧ (∀ k, k ∈ ks ↔ (gonR R (reapO T) (fun _ => false) k).isSome = true) ∧ l = (ks.flatMap fun k => (gonR R (reapO T) (fun _ => false) k).getD []).mergeSort fun x y => decide (x ≤ y)
section
variable {B : Nat} {w w' : World} {a N : Nat} {C : Cf} {R : Raw}
set_option maxHeartbeats 8000000 in
theorem preap_early (h : PL B w a N C R) (now : Int) (hT : now < -9223372036854775808 + (C.idl : Int)) :
    Calls Try.prog 14 #[ptr a, nV now] w (RdP (.slice none 0 0) w) := by
  obtain ⟨W0, hW0⟩ : ∃ W, w.alloc (.cells #[ptr a] 23) = W := ⟨_, rfl⟩
  obtain ⟨pb, hpb⟩ : ∃ b, w.heap.size = b := ⟨_, rfl⟩
  have HB0 : Hid (Below w.heap.size w W0) := Lib.hid (by rw [← hW0]; exact (Below.refl _ _).alloc (Nat.le_refl _) _)
  have HK0 : Hid (Bk W0 pb 23 #[ptr a]) := Lib.hid (by rw [← hW0, ← hpb]; exact Bk.new _ _ _)
  obtain ⟨W1, hW1⟩ : ∃ W, W0.alloc (.cells #[nV now] 3) = W := ⟨_, rfl⟩
  obtain ⟨nb, hnb⟩ : ∃ b, W0.heap.size = b := ⟨_, rfl⟩
  have HB1 : Hid (Below W0.heap.size W0 W1) := Lib.hid (by rw [← hW1]; exact (Below.refl _ _).alloc (Nat.le_refl _) _)
  have HK1 : Hid (Bk W1 nb 3 #[nV now]) := Lib.hid (by rw [← hW1, ← hnb]; exact Bk.new _ _ _)
  have HKP : Hid (Bk W1 pb 23 #[ptr a]) := Lib.hid (HK0.out.heap (HB1.out.block pb HK0.out.lt))
  have HBB := Lib.hid (HB0.out.trans (HB1.out.mono HB0.out.size))
  have h1 := h.below HBB.out
  obtain ⟨c0, _, _, _, c4, _, _, _, _, _⟩ := h1.cells
  have p0 := HKP.out.cell 0
  have k0 := HK1.out.cell 0
  simp at p0 k0
  have HG := Lib.hid (fun W (hc : W.cell? ⟨a, 0, none⟩ = some (ptr a)) => given_yes W a hc)
  have hcf : C.idl ≤ 549755813888 := by obtain ⟨M, h9⟩ := h; exact h9.cf.2.2.2.2.2
  obtain ⟨M0, hM0⟩ : ∃ M0 : Int, -9223372036854775808 + (C.idl : Int) = M0 := ⟨_, rfl⟩
  have wk : IntKind.i64.wrap (-9223372036854775808 + (C.idl : Int)) = M0 := by rw [hM0]; exact IntWalk.i64_in _ (by omega)
  have l1 : now < M0 := by omega
  clear h hT hM0
  go_enter Try.func14, Try.ntmps14
  go_wp2_with fail
  try rw [hW0]
  try rw [hpb]
  try rw [hW1]
  try rw [hnb]
  clear hW0 hW1 hpb hnb
  refine wp_region_held_drew (S := fun W => W.cell? ⟨pb, 0, none⟩ = some (ptr a) ∧ W.cell? ⟨nb, 0, none⟩ = some (nV now) ∧ W.cell? ⟨a, 4, none⟩ = some (nV (C.idl : Int)) ∧ W.cell? ⟨a, 0, none⟩ = some (ptr a)) (by kernel_rfl) ?_ (fun hS => ?_)
  · exact ⟨p0, k0, c4, c0⟩
  refine tkY 0 ?_ rfl hS ?_ ?_
  rotate_left
  · intro wz hz
    obtain ⟨z0, z1, z2, z3⟩ := hz
    go_simp
    all_goals first | with_reducible rfl | omega
  try simp only [Act.put, pu]
  refine wpAnyH_ready (rs := [1]) (by kernel_rfl) (by simp) (AllReadyH.cons rfl (fun K' hK' => ?_) AllReadyH.nil)
  go_simp
  refine (HG.out _ hS.2.2.2).mono ?_
  rintro e w2 ⟨rfl, rfl⟩
  refine hK'.out _ _ ?_ (fun hSn => ?_)
  · exact hS
  clear hK' K' hS
  have hS := hSn
  clear hSn
  try simp only [Act.put, pu]
  refine tkY 2 (.bool false) rfl hS ?_ ?_
  · intro wz hz
    go_simp
    all_goals first | with_reducible rfl | omega
  try simp only [Act.put, pu]
  refine tkY 3 (.bool false) rfl hS ?_ ?_
  · intro wz hz
    go_simp
    all_goals first | with_reducible rfl | omega
  try simp only [Act.put, pu]
  refine tkY 4 ?_ rfl hS ?_ ?_
  rotate_left
  · intro wz hz
    obtain ⟨z0, z1, z2, z3⟩ := hz
    go_simp
    all_goals first | with_reducible rfl | omega
  try simp only [Act.put, pu]
  refine tkY 5 ?_ rfl hS ?_ ?_
  rotate_left
  · intro wz hz
    obtain ⟨z0, z1, z2, z3⟩ := hz
    go_simp
    all_goals first | with_reducible rfl | omega
  try simp only [Act.put, pu]
  refine tkY 6 ?_ rfl hS ?_ ?_
  rotate_left
  · intro wz hz
    obtain ⟨z0, z1, z2, z3⟩ := hz
    go_simp
    all_goals first | with_reducible rfl | omega
  try simp only [Act.put, pu]
  refine tkY 7 ?_ rfl hS ?_ ?_
  rotate_left
  · intro wz hz
    obtain ⟨z0, z1, z2, z3⟩ := hz
    go_simp
    all_goals first | with_reducible rfl | omega
  try simp only [Act.put, pu]
  refine tkY 8 ?_ rfl hS ?_ ?_
  rotate_left
  · intro wz hz
    obtain ⟨z0, z1, z2, z3⟩ := hz
    go_simp
    all_goals first | with_reducible rfl | omega
  try simp only [Act.put, pu]
  refine tkY 9 ?_ rfl hS ?_ ?_
  rotate_left
  · intro wz hz
    obtain ⟨z0, z1, z2, z3⟩ := hz
    go_simp
    all_goals first | with_reducible rfl | omega
  try simp only [Act.put, pu]
  refine tkY 10 (.bool true) rfl hS ?_ ?_
  · intro wz hz
    go_simp
    all_goals first | with_reducible rfl | omega
  try simp only [Act.put, pu]
  refine tkY 11 (.bool true) rfl hS ?_ ?_
  · intro wz hz
    go_simp
    all_goals first | with_reducible rfl | omega
  try simp only [Act.put, pu]
  refine wpAnyH_done (by kernel_rfl) ?_ _
  clear hS
  go_wp2
  go_ret
  exact ⟨rfl, HBB.out.drew⟩
set_option maxHeartbeats 8000000 in
theorem preap_any (h : PL B w a N C R) (hN : N ≤ 1000000) (now T : Int) (hT : ¬ now < -9223372036854775808 + (C.idl : Int)) (hTT : IntKind.i64.wrap (now - (C.idl : Int)) = T)
    (hgm : ∀ k g, R.gm k = some g → ∃ q, R.rows g = some q ∧ q.name = k ∧ q.idle.length ≤ 100000)
    (hE : ∀ (ks : List ByteArray) (l : List Int), ks.Nodup → (∀ k, k ∈ ks ↔ (gonR R (reapO T) (fun _ => false) k).isSome = true) → l.Perm (ks.flatMap fun k => (gonR R (reapO T) (fun _ => false) k).getD []) → ∃ R', Ends { R with rows := actR R (reapA T) fun _ => false } l R') :
    Calls Try.prog 14 #[ptr a, nV now] w (ReapP B w a N C R T) := by
  obtain ⟨W0, hW0⟩ : ∃ W, w.alloc (.cells #[ptr a] 23) = W := ⟨_, rfl⟩
  obtain ⟨pb, hpb⟩ : ∃ b, w.heap.size = b := ⟨_, rfl⟩
  have HB0 : Hid (Below w.heap.size w W0) := Lib.hid (by rw [← hW0]; exact (Below.refl _ _).alloc (Nat.le_refl _) _)
  have HK0 : Hid (Bk W0 pb 23 #[ptr a]) := Lib.hid (by rw [← hW0, ← hpb]; exact Bk.new _ _ _)
  obtain ⟨W1, hW1⟩ : ∃ W, W0.alloc (.cells #[nV now] 3) = W := ⟨_, rfl⟩
  obtain ⟨nb, hnb⟩ : ∃ b, W0.heap.size = b := ⟨_, rfl⟩
  have HB1 : Hid (Below W0.heap.size W0 W1) := Lib.hid (by rw [← hW1]; exact (Below.refl _ _).alloc (Nat.le_refl _) _)
  have HK1 : Hid (Bk W1 nb 3 #[nV now]) := Lib.hid (by rw [← hW1, ← hnb]; exact Bk.new _ _ _)
  have HKP : Hid (Bk W1 pb 23 #[ptr a]) := Lib.hid (HK0.out.heap (HB1.out.block pb HK0.out.lt))
  have HBB := Lib.hid (HB0.out.trans (HB1.out.mono HB0.out.size))
  have h1 := h.below HBB.out
  obtain ⟨c0, _, _, _, c4, _, _, _, _, _⟩ := h1.cells
  have p0 := HKP.out.cell 0
  have k0 := HK1.out.cell 0
  simp at p0 k0
  have HG := Lib.hid (fun W (hc : W.cell? ⟨a, 0, none⟩ = some (ptr a)) => given_yes W a hc)
  have hcf : C.idl ≤ 549755813888 := by obtain ⟨M, h9⟩ := h; exact h9.cf.2.2.2.2.2
  obtain ⟨M0, hM0⟩ : ∃ M0 : Int, -9223372036854775808 + (C.idl : Int) = M0 := ⟨_, rfl⟩
  have wk : IntKind.i64.wrap (-9223372036854775808 + (C.idl : Int)) = M0 := by rw [hM0]; exact IntWalk.i64_in _ (by omega)
  have l1 : ¬ now < M0 := by omega
  have HD := Lib.hid (fun W (hb : Below W1.heap.size W1 W) => gather_any (h1.below hb) hN (reap_lv (B := B) (C := C) (HK1.out.heap (hb.block nb HK1.out.lt)) (HKP.out.heap (hb.block pb HKP.out.lt)) hTT) (fun k g hg => by
    obtain ⟨q, x1, x2, x3⟩ := hgm k g hg
    refine ⟨q, x1, x2, x3, ?_⟩
    unfold reapO reapD
    rw [List.length_map]
    exact Nat.le_trans (List.takeWhile_sublist _).length_le x3))
  have HHE := Lib.hid hE
  have HF1 := Lib.hid (h.fr HBB.out)
  have HLE := Lib.hid h.le
  have HNN := Lib.hid hN
  have hlen : ∀ k, ((fun k => (gonR R (reapO T) (fun _ => false) k).getD []) k).length ≤ 100000 := fun k => by
    show ((gonR R (reapO T) (fun _ => false) k).getD []).length ≤ 100000
    unfold gonR
    cases hg : R.gm k with
    | none => simp
    | some g =>
      obtain ⟨q, hq, _, h3⟩ := hgm k g hg
      simp only [Option.bind_some]
      rw [hq]
      simp only [Option.bind_some]
      split
      · simp only [Option.getD_some]
        unfold reapO reapD
        rw [List.length_map]
        exact Nat.le_trans (List.takeWhile_sublist _).length_le h3
      · simp
  clear h h1 hT hM0 hN hE hgm hTT hlen
  go_enter Try.func14, Try.ntmps14
  go_wp2_with fail
  try rw [hW0]
  try rw [hpb]
  try rw [hW1]
  try rw [hnb]
  clear hW0 hW1 hpb hnb
  refine wp_region_held_drew (S := fun W => W.cell? ⟨pb, 0, none⟩ = some (ptr a) ∧ W.cell? ⟨nb, 0, none⟩ = some (nV now) ∧ W.cell? ⟨a, 4, none⟩ = some (nV (C.idl : Int)) ∧ W.cell? ⟨a, 0, none⟩ = some (ptr a)) (by kernel_rfl) ?_ (fun hS => ?_)
  · exact ⟨p0, k0, c4, c0⟩
  refine tkY 0 ?_ rfl hS ?_ ?_
  rotate_left
  · intro wz hz
    obtain ⟨z0, z1, z2, z3⟩ := hz
    go_simp
    all_goals first | with_reducible rfl | omega
  try simp only [Act.put, pu]
  refine wpAnyH_ready (rs := [1]) (by kernel_rfl) (by simp) (AllReadyH.cons rfl (fun K' hK' => ?_) AllReadyH.nil)
  go_simp
  refine (HG.out _ hS.2.2.2).mono ?_
  rintro e w2 ⟨rfl, rfl⟩
  refine hK'.out _ _ ?_ (fun hSn => ?_)
  · exact hS
  clear hK' K' hS
  have hS := hSn
  clear hSn
  try simp only [Act.put, pu]
  refine tkY 2 (.bool false) rfl hS ?_ ?_
  · intro wz hz
    go_simp
    all_goals first | with_reducible rfl | omega
  try simp only [Act.put, pu]
  refine tkY 3 (.bool false) rfl hS ?_ ?_
  · intro wz hz
    go_simp
    all_goals first | with_reducible rfl | omega
  try simp only [Act.put, pu]
  refine tkY 4 ?_ rfl hS ?_ ?_
  rotate_left
  · intro wz hz
    obtain ⟨z0, z1, z2, z3⟩ := hz
    go_simp
    all_goals first | with_reducible rfl | omega
  try simp only [Act.put, pu]
  refine tkY 5 ?_ rfl hS ?_ ?_
  rotate_left
  · intro wz hz
    obtain ⟨z0, z1, z2, z3⟩ := hz
    go_simp
    all_goals first | with_reducible rfl | omega
  try simp only [Act.put, pu]
  refine tkY 6 ?_ rfl hS ?_ ?_
  rotate_left
  · intro wz hz
    obtain ⟨z0, z1, z2, z3⟩ := hz
    go_simp
    all_goals first | with_reducible rfl | omega
  try simp only [Act.put, pu]
  refine tkY 7 ?_ rfl hS ?_ ?_
  rotate_left
  · intro wz hz
    obtain ⟨z0, z1, z2, z3⟩ := hz
    go_simp
    all_goals first | with_reducible rfl | omega
  try simp only [Act.put, pu]
  refine tkY 8 ?_ rfl hS ?_ ?_
  rotate_left
  · intro wz hz
    obtain ⟨z0, z1, z2, z3⟩ := hz
    go_simp
    all_goals first | with_reducible rfl | omega
  try simp only [Act.put, pu]
  refine tkY 9 ?_ rfl hS ?_ ?_
  rotate_left
  · intro wz hz
    obtain ⟨z0, z1, z2, z3⟩ := hz
    go_simp
    all_goals first | with_reducible rfl | omega
  try simp only [Act.put, pu]
  refine tkY 10 (.bool false) rfl hS ?_ ?_
  · intro wz hz
    go_simp
    all_goals first | with_reducible rfl | omega
  try simp only [Act.put, pu]
  refine tkY 11 (.bool false) rfl hS ?_ ?_
  · intro wz hz
    go_simp
    all_goals first | with_reducible rfl | omega
  try simp only [Act.put, pu]
  refine wpAnyH_done (by kernel_rfl) ?_ _
  clear hS
  have hbd : Below W1.heap.size W1 W1.drew := (Below.refl _ _).drew
  have HGA := Lib.hid (HD.out W1.drew hbd)
  have HFD := Lib.hid (HF1.out.trans (Fr.below hbd (Nat.le_trans HLE.out HBB.out.size)))
  have y0 : W1.drew.cell? ⟨pb, 0, none⟩ = some (ptr a) := p0
  clear hbd
  go_wp2_with fail
  refine HGA.out.mono ?_
  rintro e w2 ⟨v, d, ks, rfl, hoi, hp, hf, g1, g2, g3, g4⟩
  have hp0 : w2.cell? ⟨pb, 0, none⟩ = some (ptr a) := by
    have := (hf.kt.bk (show Bk W1.drew pb 23 #[ptr a] from HKP.out)).cell 0
    simpa using this
  have HKP2 := Lib.hid (hf.kt.bk (show Bk W1.drew pb 23 #[ptr a] from HKP.out))
  have HP2 := Lib.hid hp
  have HF2 := Lib.hid (HFD.out.trans hf)
  have HKS := Lib.hid (show ks.Nodup ∧ (∀ k, k ∈ ks ↔ (gonR R (reapO T) (fun _ => false) k).isSome = true) ∧ d = ks.flatMap fun k => (gonR R (reapO T) (fun _ => false) k).getD [] from ⟨g1, g2, g3⟩)
  have hoi2 : OI w.heap.size w2 v d := hoi.mono HBB.out.size
  have hdl : d.length ≤ 1099511627776 := by omega
  have HSO := Lib.hid (sort_own hoi2 hdl)
  have HOI := Lib.hid hoi2
  clear hoi hp hf g1 g2 g3 hoi2 hdl
  go_wp2_with fail
  refine HSO.out.mono ?_
  rintro e w3 ⟨rfl, ho3, gr3⟩
  obtain ⟨l, hl⟩ : ∃ l, d.mergeSort (fun x y => decide (x ≤ y)) = l := ⟨_, rfl⟩
  rw [hl] at ho3
  have hint : ∀ (b : Nat) (o : Obj), w2.heap[b]? = some o → (∀ cs fr, o ≠ .cells cs 3 fr) → w3.heap[b]? = w2.heap[b]? := fun b o hb ho => gr3.block b (Array.getElem?_eq_some_iff.1 hb).1 fun e => by
    rcases HOI.out.2 with ⟨rfl, _⟩ | ⟨x, cap, cu, rfl, _, hh, _⟩
    · cases e
    · injection e with e
      subst e
      rw [hb] at hh
      injection hh with hh
      exact ho _ _ hh
  have hp3 : PL B w3 a N C { R with rows := actR R (reapA T) fun _ => false } := by
    obtain ⟨M, h9⟩ := HP2.out
    refine ⟨M, h9.keep fun b hb => ?_⟩
    rcases hb with rfl | rfl | rfl | rfl | rfl | ⟨g, q, hq, hb⟩
    · exact hint _ _ h9.bk fun cs fr e => by injection e with _ e; exact absurd e (by decide)
    · exact hint _ _ h9.pk fun cs fr e => by injection e with _ e; exact absurd e (by decide)
    · obtain ⟨es, cl, he⟩ := h9.mg.obj; exact hint _ _ he fun cs fr e => by cases e
    · obtain ⟨es, cl, he⟩ := h9.ms.obj; exact hint _ _ he fun cs fr e => by cases e
    · obtain ⟨es, cl, he⟩ := h9.mn.obj; exact hint _ _ he fun cs fr e => by cases e
    · obtain ⟨cs, t, fr, hc, ht⟩ := (h9.row g q hq).ty hb
      exact hint _ _ hc fun cs' fr' e => by injection e with _ e; subst e; exact absurd ht (by unfold Gt; decide)
  have hf3 : Fr B w w3 := by
    refine ⟨HF2.out.bel.grown gr3 (Nat.le_trans HLE.out HF2.out.size) fun k hk => ?_, fun b cs t fr h1 h2 hb => ?_⟩
    · exact Nat.le_trans HLE.out (World.ownsRow.lt HOI.out k hk).1
    · refine (gr3.block b (Nat.lt_of_lt_of_le (Array.getElem?_eq_some_iff.1 hb).1 HF2.out.size) fun e => ?_).trans (HF2.out.kt b cs t fr h1 h2 hb)
      have := (World.ownsRow.lt HOI.out b e.symm).1
      have := (Array.getElem?_eq_some_iff.1 hb).1
      omega
  have hk3 : Bk w3 pb 23 #[ptr a] := (hint _ _ HKP2.out fun cs fr e => by injection e with _ e; exact absurd e (by decide)).trans HKP2.out
  obtain ⟨Rf, hRf⟩ := HHE.out ks l HKS.out.1 HKS.out.2.1 (by rw [← HKS.out.2.2, ← hl]; exact List.mergeSort_perm ..)
  have HRF := Lib.hid hRf
  have HL : Hid (l = (ks.flatMap fun k => (gonR R (reapO T) (fun _ => false) k).getD []).mergeSort fun x y => decide (x ≤ y)) := Lib.hid (by rw [← HKS.out.2.2, hl])
  have HO3 := Lib.hid ho3
  have HP3 := Lib.hid hp3
  have HF3 := Lib.hid hf3
  have HK3 := Lib.hid hk3
  obtain ⟨va, vc, rfl⟩ := ho3.form
  obtain ⟨n, hn⟩ : ∃ n, l.length = n := ⟨_, rfl⟩
  have HNL := Lib.hid hn
  have hcap : n ≤ maxLen := by
    rcases ho3.2 with ⟨h0, hz⟩ | ⟨g, cap, cur, h0, _, _, hc, hm, _⟩
    · rw [hn] at hz; rw [hz]; exact Nat.zero_le _
    · rw [hn] at hc; exact Nat.le_trans hc hm
  have hn63 : n ≤ 9223372036854775807 := by unfold maxLen at hcap; omega
  have HCAP := Lib.hid hn63
  rw [hn] at HO3 ⊢
  clear ho3 gr3 hl hint hp3 hf3 hk3 hRf hn hcap hn63 hp0
  go_wp2
  go_loopg [27] n (fun gk u27 wx => ∃ (j : Nat) (Rj : Raw), u27 = .int .i64 (j : Int) ∧ j + gk = n ∧ Hid (OI w.heap.size wx (.slice va n vc) l) ∧ Hid (PL B wx a N C Rj) ∧ Hid (Fr B w wx) ∧ Hid (Ends Rj (l.drop j) Rf) ∧ Hid (Bk wx pb 23 #[ptr a]))
  case atStart => exact ⟨0, _, rfl, by omega, HO3, HP3, HF3, Lib.hid (by rw [List.drop_zero]; exact HRF.out), HK3⟩
  case round =>
    obtain ⟨j, Rj, rfl, hj, HO, HPJ, HFJ, HEJ, HKJ⟩ := hrel
    cases gk with
    | zero =>
      have l1 : ¬ ((j : Int) < (n : Int)) := by omega
      have hF : Hid (ReapP B w a N C R T (.returned (.slice va n vc)) wr) := Lib.hid ⟨_, l, ks, Rf, rfl, HO.out, by
        have h9 := HEJ.out
        rw [List.drop_of_length_le (by rw [HNL.out]; omega)] at h9
        cases h9
        exact HPJ.out, HFJ.out, HRF.out, HKS.out.1, HKS.out.2.1, HL.out⟩
      clear hj
      go_wp2
      go_ret
      exact hF.out
    | succ g1 =>
      have hjl : j < l.length := by have := HNL.out; omega
      obtain ⟨x, hx⟩ : ∃ x, l[j]? = some x := ⟨_, List.getElem?_eq_getElem hjl⟩
      obtain ⟨b, off, cap, he, hc, hcells⟩ := HO.out.is.at_ (by omega)
      rw [HNL.out] at he
      injection he with e1 en e3
      clear en
      subst e1 e3
      have x0 := hcells j x hx
      have y1 := HKJ.out.cell 0
      simp at y1
      have l0 : (0 : Int) ≤ (j : Int) := by omega
      have l1 : (j : Int) < (n : Int) := by omega
      obtain ⟨j1, hj1⟩ : ∃ j1, j + 1 = j1 := ⟨_, rfl⟩
      have wk : IntKind.i64.wrap ((j : Int) + 1) = (j1 : Int) := by rw [show (j : Int) + 1 = (j1 : Int) by omega]; exact IntWalk.i64_in _ (by have := HCAP.out; omega)
      have HJ : Hid (j1 + g1 = n) := Lib.hid (by omega)
      have hdr : l.drop j = x :: l.drop j1 := by
        rw [List.drop_eq_getElem_cons hjl, ← hj1]
        congr 1
        rw [List.getElem?_eq_getElem hjl] at hx
        injection hx
      have h9 := HEJ.out
      rw [hdr] at h9
      cases h9 with
      | @cons _ _ _ _ gg cc ss qq h1 h2 h3 h4 h5 =>
        have HEN := Lib.hid (end_any HPJ.out h4 h1 h2 h3)
        have HE5 := Lib.hid h5
        clear hj hjl hx hc hcells hj1 hdr h1 h2 h3 h4 h5
        go_wp2_with fail
        refine HEN.out.mono ?_
        rintro e w5 ⟨rfl, hp5, hf5⟩
        have HP5 := Lib.hid hp5
        have HF5 := Lib.hid (HFJ.out.trans hf5)
        have HK5 := Lib.hid (hf5.kt.bk HKJ.out)
        have HO5 : Hid (OI w.heap.size w5 (.slice (some ⟨b, off, none⟩) n vc) l) := Lib.hid (HO.out.keep fun b9 hb9 => by
          rcases HO.out.2 with ⟨h0, _⟩ | ⟨x9, cap9, cu, h0, _, hh, _⟩
          · cases h0
          · injection h0 with h0
            injection h0 with h0
            injection h0 with h0
            injection hb9 with hb9
            rw [← hb9, h0]
            exact hf5.kt x9 cu _ _ (by unfold Gt; decide) (by decide) hh)
        clear hp5 hf5
        go_wp2
        go_roundg g1
        case measure => exact Nat.lt_succ_self _
        case rel => exact ⟨j1, _, rfl, HJ.out, HO5, HP5, HF5, HE5, HK5⟩
end
end Go.Proofs.Ytochjbmighijgaa.PO
