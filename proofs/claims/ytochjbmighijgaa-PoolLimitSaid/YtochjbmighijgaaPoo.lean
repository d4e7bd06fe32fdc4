/- Package pool, its code: Late, Reap. Conditions: how many; clients are numbers of their type. -/
import Derived.Test.YtochjbmighijgaaPon
import Derived.Sort.OwnSortedInts
namespace Go.Proofs.Ytochjbmighijgaa.PO
open Go.ChangeShapes Go.WideShapes Go.ChangeAt Go.RowKit Go.Maps Go.ChangeMaps
open Go.Proofs.Ytochjbmighijgaa.SL Go.Proofs.Ytochjbmighijgaa.RW
open Go.Proofs.Ytochjbmighijgaa.LN (tkY tkN pu OI IS RdP)
set_option maxRecDepth 100000
set_option linter.unusedVariables false
set_option linter.unusedSimpArgs false

open Go.Proofs.Ytochjbmighijgaa.LN (isLate goneS stayS)
/-- the numbers that the call owns, sorted by the library -/
theorem sort_own {N : Nat} {w : World} {v : Value} {d : List Int} (h : OI N w v d) (hd : d.length ≤ 1099511627776) :
    Calls Try.prog 37 #[v] w fun e w' => e = .returned (.tuple #[]) ∧ OI N w' v (d.mergeSort fun x y => decide (x ≤ y)) ∧ w.grownBy w' v.ownBlock := by
  rcases h.2 with ⟨rfl, hz⟩ | ⟨g, cap, cur, rfl, hb, hh, hc, hm, hs, ht⟩
  · have : d = [] := List.eq_nil_of_length_eq_zero hz
    subst this
    refine (Try.slices_Sort_int_none none 0 w).mono ?_
    rintro e w' ⟨rfl, rfl⟩
    exact ⟨rfl, by rw [List.mergeSort_nil]; exact h, ⟨rfl, rfl, rfl, Nat.le_refl _, fun _ _ _ => rfl⟩⟩
  · have hl : (d.mergeSort fun x y => decide (x ≤ y)).length = d.length := List.length_mergeSort ..
    refine (Try.slices_Sort_int g 0 cap d w (holds_of_blockI hh (by rw [Nat.mul_one] at ht; exact ht)) (Array.getElem?_eq_some_iff.1 hh).1 (by omega)).mono ?_
    rintro e w' ⟨rfl, n, os, rfl⟩
    refine ⟨rfl, ?_, grownBy_sortedI _⟩
    unfold OI
    rw [hl]
    exact ownsRow_sortedI hl hb hh hc hm hs
theorem oi_map {N : Nat} {w : World} {v : Value} {d : List Int} {b n : Nat} {K : TypeId} {f : Lit → Option Value} (ho : OI N w v d) (hm : MV.MapV Try.prog K w b n f) (b9 : Nat) (hb : v.ownBlock = some b9) : ¬ b9 = b := by
  rintro rfl
  obtain ⟨es, cl, he⟩ := hm.obj
  rcases ho.2 with ⟨rfl, _⟩ | ⟨x, cap, cu, rfl, _, hh, _⟩
  · cases hb
  · injection hb with hb
    subst hb
    rw [hh] at he; cases he
def lateA (now : Int) (q : Row) : Row := { q with line := stayS (isLate now) q.line }
def lateO (now : Int) (q : Row) : List Int := goneS (isLate now) q.line
def reapA (T : Int) (q : Row) : Row := { q with idle := reapL T q.idle }
def reapO (T : Int) (q : Row) : List Int := reapD T q.idle
section
variable {B : Nat} {w w' : World} {a N : Nat} {C : Cf} {R : Raw}
set_option maxHeartbeats 4000000 in
theorem late_lv {nb : Nat} {now : Int} (hk : Bk w nb 3 #[nV now]) : Lv 33 #[ptr nb] (lateA now) (lateO now) B w a C := by
  refine ⟨fun args W => by show Sem.run Try.prog (callFunc 33 args) W = _; go_simp, fun q => rfl, fun W N R hp ht g q m hr hi => ?_⟩
  have k0 := (ht.bk hk).cell 0
  simp at k0
  obtain ⟨x0, x1, x2, x3⟩ := hr.cells
  have HNB := Lib.hid (show W.heap[nb]? = some (.cells #[nV now] 3 (0, 0)) from ht.bk hk)
  have HR := Lib.hid hr
  have HC := Lib.hid (fun W' (hb : Below W.heap.size W W') => late_row (hr.below hb) now)
  unfold lateA lateO
  clear hk hp ht hr hi
  go_enter Try.func33, Try.ntmps33
  go_wp2_with fail
  refine wp_region_held_drew (S := fun W2 => W2.cell? ⟨nb, 0, none⟩ = some (nV now)) (by kernel_rfl) ?_ (fun hS => ?_)
  · exact k0
  have hW : Below W.heap.size W W.drew := (Below.refl _ _).drew
  refine tkY 0 ?_ rfl hS ?_ ?_
  rotate_left
  · intro wz hz
    have z2 := hz
    go_simp
    all_goals first | with_reducible rfl | omega
  try simp only [Act.put, pu]
  refine tkY 1 ?_ rfl hS ?_ ?_
  rotate_left
  · intro wz hz
    have z2 := hz
    go_simp
    all_goals first | with_reducible rfl | omega
  try simp only [Act.put, pu]
  refine tkY 2 ?_ rfl hS ?_ ?_
  rotate_left
  · intro wz hz
    have z2 := hz
    go_simp
    all_goals first | with_reducible rfl | omega
  try simp only [Act.put, pu]
  refine tkY 4 ?_ rfl hS ?_ ?_
  rotate_left
  · intro wz hz
    have z2 := hz
    go_simp
    all_goals first | with_reducible rfl | omega
  try simp only [Act.put, pu]
  refine wpAnyH_ready (rs := [3]) (by kernel_rfl) (by simp) (AllReadyH.cons rfl (fun K' hK' => ?_) AllReadyH.nil)
  go_simp
  refine hK'.out _ _ hS (fun hSn => ?_)
  clear hK' K' hS
  have hS := hSn
  clear hSn
  try simp only [Act.put, pu]
  refine wpAnyH_ready (rs := [5]) (by kernel_rfl) (by simp) (AllReadyH.cons rfl (fun K' hK' => ?_) AllReadyH.nil)
  go_simp
  refine (HC.out _ hW).mono ?_
  rintro e w2 ⟨v, rfl, hoi, htn⟩
  have HT := Lib.hid (Turned.pre hW htn HR.out)
  have HO := Lib.hid (hoi.mono hW.size)
  obtain ⟨va, vc, rfl⟩ := hoi.form
  have hsame : ∀ (b : Nat) (o : Obj), W.heap[b]? = some o → (∀ cs t fr, o = .cells cs t fr → ¬ Gt t) → w2.heap[b]? = W.heap[b]? := fun b o hb ho => by
    obtain ⟨m9, _, hc9, _⟩ := HT.out
    exact hc9.block b (Array.getElem?_eq_some_iff.1 hb).1 (HR.out.not_own hb ho)
  refine hK'.out _ _ ((World.cell?_of_block (w := W) (a := ⟨nb, 0, none⟩) (hsame nb _ (HNB.out) (fun _ _ _ e => by injection e with _ e; subst e; unfold Gt; decide))).trans k0) (fun hSn => ?_)
  clear hK' K' hS
  have hS := hSn
  clear hSn
  try simp only [Act.put, pu]
  clear hoi htn hsame
  refine tkY 6 ?_ rfl hS ?_ ?_
  rotate_left
  · intro wz hz
    go_simp
    all_goals first | with_reducible rfl | omega
  try simp only [Act.put, pu]
  refine wpAnyH_done (by kernel_rfl) ?_ _
  clear hS
  go_wp2
  go_ret
  exact ⟨_, rfl, HO.out, HT.out⟩
set_option maxHeartbeats 4000000 in
theorem reap_lv {nb pb : Nat} {now T : Int} (hk : Bk w nb 3 #[nV now]) (hp : Bk w pb 23 #[ptr a]) (hT : IntKind.i64.wrap (now - (C.idl : Int)) = T) : Lv 35 #[ptr nb, ptr pb] (reapA T) (reapO T) B w a C := by
  refine ⟨fun args W => by show Sem.run Try.prog (callFunc 35 args) W = _; go_simp, fun q => rfl, fun W N R hpl ht g q m hr hi => ?_⟩
  have k0 := (ht.bk hk).cell 0
  have p0 := (ht.bk hp).cell 0
  simp at k0 p0
  obtain ⟨_, _, _, _, c4, _, _, _, _, _⟩ := hpl.cells
  have HNB := Lib.hid (show W.heap[nb]? = some (.cells #[nV now] 3 (0, 0)) from ht.bk hk)
  have HPB := Lib.hid (show W.heap[pb]? = some (.cells #[ptr a] 23 (0, 0)) from ht.bk hp)
  have HAB := Lib.hid (show W.heap[a]? = some (.cells (pC a C R.last) 53 (0, 0)) from by obtain ⟨M, h9⟩ := hpl; exact h9.bk)
  have HR := Lib.hid hr
  have HC := Lib.hid (fun W' (hb : Below W.heap.size W W') => reap_any (hr.below hb) hi T)
  unfold reapA reapO
  clear hk hp ht hr hi hpl
  go_enter Try.func35, Try.ntmps35
  go_wp2_with fail
  refine wp_region_held_drew (S := fun W2 => W2.cell? ⟨a, 4, none⟩ = some (nV (C.idl : Int)) ∧ W2.cell? ⟨nb, 0, none⟩ = some (nV now) ∧ W2.cell? ⟨pb, 0, none⟩ = some (ptr a)) (by kernel_rfl) ?_ (fun hS => ?_)
  · exact ⟨c4, k0, p0⟩
  have hW : Below W.heap.size W W.drew := (Below.refl _ _).drew
  refine tkY 0 ?_ rfl hS ?_ ?_
  rotate_left
  · intro wz hz
    obtain ⟨z1, z2, z3⟩ := hz
    go_simp
    all_goals first | with_reducible rfl | omega
  try simp only [Act.put, pu]
  refine tkY 1 ?_ rfl hS ?_ ?_
  rotate_left
  · intro wz hz
    obtain ⟨z1, z2, z3⟩ := hz
    go_simp
    all_goals first | with_reducible rfl | omega
  try simp only [Act.put, pu]
  refine tkY 2 ?_ rfl hS ?_ ?_
  rotate_left
  · intro wz hz
    obtain ⟨z1, z2, z3⟩ := hz
    go_simp
    all_goals first | with_reducible rfl | omega
  try simp only [Act.put, pu]
  refine tkY 3 ?_ rfl hS ?_ ?_
  rotate_left
  · intro wz hz
    obtain ⟨z1, z2, z3⟩ := hz
    go_simp
    all_goals first | with_reducible rfl | omega
  try simp only [Act.put, pu]
  refine tkY 4 ?_ rfl hS ?_ ?_
  rotate_left
  · intro wz hz
    obtain ⟨z1, z2, z3⟩ := hz
    go_simp
    all_goals first | with_reducible rfl | omega
  try simp only [Act.put, pu]
  refine tkY 5 ?_ rfl hS ?_ ?_
  rotate_left
  · intro wz hz
    obtain ⟨z1, z2, z3⟩ := hz
    go_simp
    all_goals first | with_reducible rfl | omega
  try simp only [Act.put, pu]
  refine tkY 6 ?_ rfl hS ?_ ?_
  rotate_left
  · intro wz hz
    obtain ⟨z1, z2, z3⟩ := hz
    go_simp
    all_goals first | with_reducible rfl | omega
  try simp only [Act.put, pu]
  refine wpAnyH_ready (rs := [7]) (by kernel_rfl) (by simp) (AllReadyH.cons rfl (fun K' hK' => ?_) AllReadyH.nil)
  go_simp
  refine (HC.out _ hW).mono ?_
  rintro e w2 ⟨v, rfl, hoi, htn⟩
  have HT := Lib.hid (Turned.pre hW htn HR.out)
  have HO := Lib.hid (hoi.mono hW.size)
  obtain ⟨va, vc, rfl⟩ := hoi.form
  have hsame : ∀ (b : Nat) (o : Obj), W.heap[b]? = some o → (∀ cs t fr, o = .cells cs t fr → ¬ Gt t) → w2.heap[b]? = W.heap[b]? := fun b o hb ho => by
    obtain ⟨m9, _, hc9, _⟩ := HT.out
    exact hc9.block b (Array.getElem?_eq_some_iff.1 hb).1 (HR.out.not_own hb ho)
  refine hK'.out _ _ ⟨(World.cell?_of_block (w := W) (a := ⟨a, 4, none⟩) (hsame a _ (HAB.out) (fun _ _ _ e => by injection e with _ e; subst e; unfold Gt; decide))).trans c4, (World.cell?_of_block (w := W) (a := ⟨nb, 0, none⟩) (hsame nb _ (HNB.out) (fun _ _ _ e => by injection e with _ e; subst e; unfold Gt; decide))).trans k0, (World.cell?_of_block (w := W) (a := ⟨pb, 0, none⟩) (hsame pb _ (HPB.out) (fun _ _ _ e => by injection e with _ e; subst e; unfold Gt; decide))).trans p0⟩ (fun hSn => ?_)
  clear hK' K' hS
  have hS := hSn
  clear hSn
  try simp only [Act.put, pu]
  clear hoi htn hsame
  refine tkY 8 ?_ rfl hS ?_ ?_
  rotate_left
  · intro wz hz
    go_simp
    all_goals first | with_reducible rfl | omega
  try simp only [Act.put, pu]
  refine wpAnyH_done (by kernel_rfl) ?_ _
  clear hS
  go_wp2
  go_ret
  exact ⟨_, rfl, HO.out, HT.out⟩
def delS (l : List Int) (s : Int → Option (Nat × Int × Bool)) : Int → Option (Nat × Int × Bool) := fun c => if c ∈ l then none else s c
theorem delS_nil (s : Int → Option (Nat × Int × Bool)) : delS [] s = s := by funext c; unfold delS; simp
theorem delS_snoc (l : List Int) (x : Int) (s : Int → Option (Nat × Int × Bool)) : delS (l ++ [x]) s = upd (delS l s) x none := by
  funext c
  unfold delS upd
  by_cases e : c = x
  · subst e; simp
  · by_cases hl : c ∈ l
    · simp [hl]
    · simp [hl, e]
def LateP (B : Nat) (w : World) (a N : Nat) (C : Cf) (R : Raw) (now : Int) (e : Ending) (w' : World) : Prop :=
  ∃ (v : Value) (d : List Int) (ks : List ByteArray), e = .returned v ∧ OI w.heap.size w' v d ∧ PL B w' a N C { R with rows := actR R (lateA now) (fun _ => false), sm := delS d R.sm } ∧ Fr B w w' ∧ ks.Nodup ∧ (∀ k, k ∈ ks ↔ (gonR R (lateO now) (fun _ => false) k).isSome = true) ∧ d = ks.flatMap fun k => (gonR R (lateO now) (fun _ => false) k).getD []
set_option maxHeartbeats 8000000 in
theorem late_any (h : PL B w a N C R) (hN : N ≤ 1000000) (now : Int)
    (hgm : ∀ k g, R.gm k = some g → ∃ q, R.rows g = some q ∧ q.name = k ∧ q.idle.length ≤ 100000 ∧ q.line.length ≤ 100000 ∧ ∀ p ∈ q.line, I9 p.1) :
    Calls Try.prog 13 #[ptr a, nV now] w (LateP B w a N C R now) := by
  obtain ⟨W0, hW0⟩ : ∃ W, w.alloc (.cells #[nV now] 3) = W := ⟨_, rfl⟩
  obtain ⟨nb, hnb⟩ : ∃ b, w.heap.size = b := ⟨_, rfl⟩
  have HB0 : Hid (Below w.heap.size w W0) := Lib.hid (by rw [← hW0]; exact (Below.refl _ _).alloc (Nat.le_refl _) _)
  have HK0 : Hid (Bk W0 nb 3 #[nV now]) := Lib.hid (by rw [← hW0, ← hnb]; exact Bk.new _ _ _)
  have HF0 := Lib.hid (h.fr HB0.out)
  have HGA := Lib.hid (gather_any (h.below HB0.out) hN (late_lv (B := B) (a := a) (C := C) HK0.out) (fun k g hg => by
    obtain ⟨q, h1, h2, h3, h4, _⟩ := hgm k g hg
    exact ⟨q, h1, h2, h3, Nat.le_trans (LN.goneS_len _ _) h4⟩))
  have HI9 : Hid (∀ (ks : List ByteArray), ∀ c ∈ ks.flatMap (fun k => (gonR R (lateO now) (fun _ => false) k).getD []), I9 c) := Lib.hid fun ks c hc => by
    obtain ⟨k, _, hk⟩ := List.mem_flatMap.1 hc
    unfold gonR at hk
    cases hg : R.gm k with
    | none => rw [hg] at hk; simp at hk
    | some g =>
      obtain ⟨q, hq, _, _, _, h5⟩ := hgm k g hg
      rw [hg] at hk
      simp only [Option.bind_some] at hk
      rw [hq] at hk
      simp only [Option.bind_some] at hk
      split at hk
      · simp only [Option.getD_some] at hk
        unfold lateO goneS at hk
        obtain ⟨p, hp, rfl⟩ := List.mem_map.1 hk
        exact h5 p (List.mem_filter.1 hp).1
      · simp at hk
  have HSZ : Hid (w.heap.size ≤ W0.heap.size) := Lib.hid HB0.out.size
  clear h hN hgm
  go_enter Try.func13, Try.ntmps13
  go_wp2_with fail
  try rw [hW0]
  try rw [hnb]
  try clear hW0 hnb
  refine HGA.out.mono ?_
  rintro e w1 ⟨v, d, ks, rfl, hoi, hp, hf, h1, h2, h3, _⟩
  have HOI := Lib.hid (hoi.mono HSZ.out)
  have HP := Lib.hid hp
  have HF := Lib.hid (HF0.out.trans hf)
  have HKS := Lib.hid (show ks.Nodup ∧ (∀ k, k ∈ ks ↔ (gonR R (lateO now) (fun _ => false) k).isSome = true) ∧ d = ks.flatMap fun k => (gonR R (lateO now) (fun _ => false) k).getD [] from ⟨h1, h2, h3⟩)
  have HII : Hid (∀ c ∈ d, I9 c) := Lib.hid (by rw [h3]; exact HI9.out ks)
  obtain ⟨va, vc, rfl⟩ := hoi.form
  obtain ⟨n, hn⟩ : ∃ n, d.length = n := ⟨_, rfl⟩
  have HNL := Lib.hid hn
  have hcap : n ≤ maxLen := by
    rcases hoi.2 with ⟨h0, hz⟩ | ⟨g, cap, cur, h0, _, _, hc, hm, _⟩
    · rw [hn] at hz; rw [hz]; exact Nat.zero_le _
    · rw [hn] at hc; exact Nat.le_trans hc hm
  have hn63 : n ≤ 9223372036854775807 := by unfold maxLen at hcap; omega
  have HCAP := Lib.hid hn63
  rw [hn] at HOI ⊢
  clear hoi hp hf h1 h2 h3 hn hcap hn63
  go_wp2
  go_loopg [13] n (fun gk u13 wx => ∃ j : Nat, u13 = .int .i64 (j : Int) ∧ j + gk = n ∧ Hid (OI w.heap.size wx (.slice va n vc) d) ∧ Hid (PL B wx a N C { R with rows := actR R (lateA now) (fun _ => false), sm := delS (d.take j) R.sm }) ∧ Hid (Fr B w wx))
  case atStart => exact ⟨0, rfl, by omega, HOI, Lib.hid (by rw [List.take_zero, delS_nil]; exact HP.out), HF⟩
  case round =>
    obtain ⟨j, rfl, hj, HO, HPJ, HFJ⟩ := hrel
    cases gk with
    | zero =>
      have l1 : ¬ ((j : Int) < (n : Int)) := by omega
      have hF : Hid (LateP B w a N C R now (.returned (.slice va n vc)) wr) := Lib.hid ⟨_, d, ks, rfl, HO.out, by have := HPJ.out; rw [List.take_of_length_le (by rw [HNL.out]; omega)] at this; exact this, HFJ.out, HKS.out⟩
      clear hj
      go_wp2
      go_ret
      exact hF.out
    | succ g1 =>
      have hjl : j < d.length := by have := HNL.out; omega
      obtain ⟨x, hx⟩ : ∃ x, d[j]? = some x := ⟨_, List.getElem?_eq_getElem hjl⟩
      obtain ⟨b, off, cap, he, hc, hcells⟩ := HO.out.is.at_ (by omega)
      rw [HNL.out] at he
      injection he with e1 en e3
      clear en
      subst e1 e3
      have x0 := hcells j x hx
      have HKX := Lib.hid (keyI x (HII.out x (List.mem_of_getElem? hx)))
      obtain ⟨M, hpb⟩ := HPJ.out
      have HPB := Lib.hid hpb
      obtain ⟨_, _, _, _, _, _, _, _, c8, _⟩ := hpb.cells
      have l0 : (0 : Int) ≤ (j : Int) := by omega
      have l1 : (j : Int) < (n : Int) := by omega
      obtain ⟨j1, hj1⟩ : ∃ j1, j + 1 = j1 := ⟨_, rfl⟩
      have wk : IntKind.i64.wrap ((j : Int) + 1) = (j1 : Int) := by rw [show (j : Int) + 1 = (j1 : Int) by omega]; exact IntWalk.i64_in _ (by have := HCAP.out; omega)
      have HJ : Hid (j1 + g1 = n) := Lib.hid (by omega)
      have HTK : Hid (d.take j1 = d.take j ++ [x]) := Lib.hid (by rw [← hj1, List.take_add_one, hx]; rfl)
      clear hpb hj hjl hx hc hcells hj1
      go_wp2_with (at_delete; refine MV.wpList_del rfl _ _ 50 rfl 59 iK Try.underlying50 rfl HPB.out.ms _ _ rfl HKX.out ?_; intro w3 hm3 ht3; (obtain ⟨hp3, hf3⟩ := HPB.out.putS (Nat.le_refl N) x none hm3 ht3); have HP3 := Lib.hid (show PL B w3 a N C { R with rows := actR R (lateA now) (fun _ => false), sm := delS (d.take j1) R.sm } from ⟨M, by rw [HTK.out, delS_snoc]; exact hp3⟩); have HF3 := Lib.hid (HFJ.out.trans hf3); have HO3 := Lib.hid (HO.out.keep fun b9 hb9 => (mapTurned_chg ht3).block b9 (World.ownsRow.lt HO.out b9 hb9).2 (oi_map HO.out HPB.out.ms b9 hb9)); clear hm3 ht3 hp3 hf3)
      go_roundg g1
      case measure => exact Nat.lt_succ_self _
      case rel => exact ⟨j1, rfl, HJ.out, HO3, HP3, HF3⟩
end
end Go.Proofs.Ytochjbmighijgaa.PO
