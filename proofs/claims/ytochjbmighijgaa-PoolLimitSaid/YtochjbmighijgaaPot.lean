/- Package pool, its code: Lost. Conditions: how many calls there were; idle ones rise; how many. -/
import Derived.Test.YtochjbmighijgaaPos
namespace Go.Proofs.Ytochjbmighijgaa.PO
open Go.ChangeShapes Go.WideShapes Go.ChangeAt Go.RowKit Go.Maps Go.ChangeMaps
open Go.Proofs.Ytochjbmighijgaa.SL Go.Proofs.Ytochjbmighijgaa.RW
open Go.Proofs.Ytochjbmighijgaa.LN (tkY tkN pu OI IS RdP)
set_option maxRecDepth 100000
set_option linter.unusedVariables false
set_option linter.unusedSimpArgs false

open Go.Proofs.Ytochjbmighijgaa.LN (firstS)
section
variable {B : Nat} {w w' : World} {a N : Nat} {C : Cf} {R : Raw}
/-- the group without the idle one -/
def outQ (q : Row) (s n : Int) : Row := { q with idle := q.idle.take (lowP (ltE (s, n)) q.idle) ++ q.idle.drop (lowP (ltE (s, n)) q.idle + 1) }
def goQ (q : Row) (c s n : Int) : Row := if c = -1 then outQ q s n else q
def lostR (R : Raw) (g : Nat) (c : Int) (q1 : Row) (l : List (Int × Int)) : Raw := { R with sm := upd R.sm c none, rows := upd R.rows g (some { q1 with line := l }) }
inductive LostS (R : Raw) (n : Int) (g : Nat) (c s : Int) (q : Row) : Raw → Int → Int → Bool → Bool → Prop
  | none_ (hl : q.line = []) : LostS R n g c s q (endR (lostR R g c (goQ q c s n) []) n g { goQ q c s n with line := [] }) 0 0 false false
  | next {x t : Int} {l : List (Int × Int)} (hl : q.line = (x, t) :: l) : LostS R n g c s q (endR (openR (lostR R g c (goQ q c s n) l) g { goQ q c s n with line := l } x) n g { goQ q c s n with line := l, conns := q.conns + 1 }) x ((R.last + 1 : Nat) : Int) true true
def LostP (B : Nat) (w : World) (a N : Nat) (C : Cf) (R : Raw) (n : Int) (g : Nat) (c s : Int) (q : Row) (e : Ending) (w' : World) : Prop :=
  ∃ (R' : Raw) (x y : Int) (z b : Bool), e = .returned (.tuple #[nV c, loV x y z, .bool b]) ∧ PL B w' a (N + 3) C R' ∧ Fr B w w' ∧ LostS R n g c s q R' x y z b
theorem goQ_line (q : Row) (c s n : Int) : (goQ q c s n).line = q.line ∧ (goQ q c s n).conns = q.conns := by
  unfold goQ outQ
  split <;> exact ⟨rfl, rfl⟩
set_option maxHeartbeats 4000000 in
theorem lost_none (h : PL B w a N C R) (n now : Int) (hn : I9 n) (hs : R.nm n = none) :
    Calls Try.prog 11 #[ptr a, nV n, nV now] w (RdP (.tuple #[nV (-1), loV 0 0 false, .bool false]) w) := by
  obtain ⟨W0, hW0⟩ : ∃ W, w.alloc (.cells #[nV 0, nV 0, .bool false] 30) = W := ⟨_, rfl⟩
  obtain ⟨kb, hkb⟩ : ∃ b, w.heap.size = b := ⟨_, rfl⟩
  have HB0 : Hid (Below w.heap.size w W0) := Lib.hid (by rw [← hW0]; exact (Below.refl _ _).alloc (Nat.le_refl _) _)
  have HK0 : Hid (Bk W0 kb 30 #[nV 0, nV 0, .bool false]) := Lib.hid (by rw [← hW0, ← hkb]; exact Bk.new _ _ _)
  have HKS : Hid (w.heap.size ≤ kb) := Lib.hid (Nat.le_of_eq hkb)
  have hw0 := h.below HB0.out
  obtain ⟨c0, _, _, _, _, _, _, _, _, c9⟩ := hw0.cells
  have HG := Lib.hid (given_yes W0 a c0)
  obtain ⟨M, hp⟩ := hw0
  have hlk := hp.lookL n hn
  rw [hs] at hlk
  simp only [lkO, Option.isSome_none] at hlk
  obtain ⟨px, hpx⟩ : ∃ x : Option Addr, none = x := ⟨_, rfl⟩
  obtain ⟨pn, hpn⟩ : ∃ n : Int, 0 = n := ⟨_, rfl⟩
  obtain ⟨pm, hpm⟩ : ∃ n : Int, 0 = n := ⟨_, rfl⟩
  rw [show (Value.agg #[.pointer none, nV 0, nV 0]) = .agg #[.pointer px, nV pn, nV pm] by rw [hpx, ← hpn, ← hpm]] at hlk
  clear hpx hpn hpm
  obtain ⟨W1, hW1⟩ : ∃ W, W0.alloc (.cells #[.pointer px, nV pn, nV pm] 73) = W := ⟨_, rfl⟩
  obtain ⟨lb, hlb⟩ : ∃ b, W0.heap.size = b := ⟨_, rfl⟩
  have HB1 : Hid (Below W0.heap.size W0 W1) := Lib.hid (by rw [← hW1]; exact (Below.refl _ _).alloc (Nat.le_refl _) _)
  have HK1 : Hid (Bk W1 lb 73 #[.pointer px, nV pn, nV pm]) := Lib.hid (by rw [← hW1, ← hlb]; exact Bk.new _ _ _)
  have HKL := Lib.hid (HK0.out.heap (HB1.out.block kb HK0.out.lt))
  have k0 := HKL.out
  have q0 := k0.cell 0
  have qf0 := k0.frozen 0
  have q1 := k0.cell 1
  have qf1 := k0.frozen 1
  have q2 := k0.cell 2
  have qf2 := k0.frozen 2
  simp at q0 q1 q2
  have HBB := Lib.hid (HB0.out.trans (HB1.out.mono HB0.out.size))
  have HSZ : Hid (w.heap.size ≤ kb) := Lib.hid HKS.out
  clear h hp hs hn k0
  go_enter Try.func11, Try.ntmps11
  go_wp2_with fail
  try rw [hW0]
  try rw [hkb]
  refine HG.out.mono ?_
  rintro e w' ⟨rfl, rfl⟩
  go_wp2_with fail
  try rw [hlb]
  try rw [hW1]
  have k5 := ((HKL.out.set_ 0 (nV 0)).set_ 1 (nV 0)).set_ 2 (.bool false)
  have e0 := k5.cell 0
  have e1 := k5.cell 1
  have e2 := k5.cell 2
  simp at e0 e1 e2
  refine bodyPost_ret (v := .tuple #[nV (-1), loV 0 0 false, .bool false]) (by simp [results, Try.results11, go_sem, e0, e1, e2]) rfl ?_
  exact ⟨rfl, ((HBB.out.setCell (p := ⟨kb, 0, none⟩) HSZ.out _).setCell (p := ⟨kb, 1, none⟩) HSZ.out _).setCell (p := ⟨kb, 2, none⟩) HSZ.out _⟩
set_option maxHeartbeats 16000000 in
theorem lost_held_nil (h : PL B w a N C R) (hN : N ≤ 900000) (hla : R.last ≤ 1000000) (n now : Int) (hn : I9 n) {g : Nat} {s : Int} {c : Int} (hci : I9 c) (hc : c ≠ -1) (hs : R.nm n = some (g, c, s)) {q : Row} (hq : R.rows g = some q) (hil : q.idle.length ≤ 100000) (hcn : 1 ≤ q.conns ∧ q.conns ≤ 100000) (hl : q.line = []) :
    Calls Try.prog 11 #[ptr a, nV n, nV now] w (LostP B w a N C R n g c s q) := by
  obtain ⟨W0, hW0⟩ : ∃ W, w.alloc (.cells #[nV 0, nV 0, .bool false] 30) = W := ⟨_, rfl⟩
  obtain ⟨kb, hkb⟩ : ∃ b, w.heap.size = b := ⟨_, rfl⟩
  have HB0 : Hid (Below w.heap.size w W0) := Lib.hid (by rw [← hW0]; exact (Below.refl _ _).alloc (Nat.le_refl _) _)
  have HK0 : Hid (Bk W0 kb 30 #[nV 0, nV 0, .bool false]) := Lib.hid (by rw [← hW0, ← hkb]; exact Bk.new _ _ _)
  have HKS : Hid (w.heap.size ≤ kb) := Lib.hid (Nat.le_of_eq hkb)
  have hw0 := h.below HB0.out
  obtain ⟨c0, _, _, _, _, _, _, _, _, c9⟩ := hw0.cells
  have HG := Lib.hid (given_yes W0 a c0)
  obtain ⟨M, hp⟩ := hw0
  have hlk := hp.lookL n hn
  rw [hs] at hlk
  simp only [lkO, lkV, Option.isSome_some] at hlk
  obtain ⟨W1, hW1⟩ : ∃ W, W0.alloc (.cells #[ptr g, nV c, nV s] 73) = W := ⟨_, rfl⟩
  obtain ⟨lb, hlb⟩ : ∃ b, W0.heap.size = b := ⟨_, rfl⟩
  have HB1 : Hid (Below W0.heap.size W0 W1) := Lib.hid (by rw [← hW1]; exact (Below.refl _ _).alloc (Nat.le_refl _) _)
  have HK1 : Hid (Bk W1 lb 73 #[ptr g, nV c, nV s]) := Lib.hid (by rw [← hW1, ← hlb]; exact Bk.new _ _ _)
  have HB := Lib.hid (HB0.out.trans (HB1.out.mono HB0.out.size))
  have HKL := Lib.hid (HK0.out.heap (HB1.out.block kb HK0.out.lt))
  have HF := Lib.hid (h.fr HB.out)
  have HP := Lib.hid (h.below HB.out)
  have HSZ : Hid (w.heap.size ≤ kb) := Lib.hid HKS.out
  have HBW := Lib.hid h.le
  have k1 := HK1.out
  have x0 := k1.cell 0
  have x1 := k1.cell 1
  have x2 := k1.cell 2
  simp at x0 x1 x2
  have HN := Lib.hid hN
  have HLAST := Lib.hid hla
  have HNI := Lib.hid hn
  have HS := Lib.hid hs
  have HQ := Lib.hid hq
  have HIL := Lib.hid hil
  have HCN := Lib.hid hcn
  have HLN := Lib.hid hl
  have HCI := Lib.hid hci
  have hc1 : ¬ c = -1 := hc
  clear h hp hs hn hq hil hcn hN hla hl k1 hci hc
  go_enter Try.func11, Try.ntmps11
  go_wp2_with fail
  try rw [hW0]
  try rw [hkb]
  refine HG.out.mono ?_
  rintro e w' ⟨rfl, rfl⟩
  go_wp2_with fail
  try rw [hlb]
  try rw [hW1]
  have k1 := HK1.out
  have x0 := k1.cell 0
  have x1 := k1.cell 1
  have x2 := k1.cell 2
  simp at x0 x1 x2
  obtain ⟨M4, hp4⟩ := HP.out
  obtain ⟨_, _, _, _, _, _, _, _, c8, _⟩ := hp4.cells
  have hu4 := hp4.below (w' := W1.drew) (Below.refl _ _).drew
  obtain ⟨w5, hrun, hm5, ht5⟩ := hu4.ms.drop iK Try.underlying50 (keyI c HCI.out) 0
  obtain ⟨hp5, hf5⟩ := hu4.putS (Nat.le_refl N) c none hm5 ht5
  have HF5 := Lib.hid ((HF.out.trans (Fr.below (Below.refl _ _).drew hp4.le)).trans hf5)
  have HK5 := Lib.hid (hf5.kt.bk (show Bk W1.drew lb 73 #[ptr g, nV c, nV s] from HK1.out))
  have HKL5 := Lib.hid (hf5.kt.bk (show Bk W1.drew kb 30 #[nV 0, nV 0, .bool false] from HKL.out))
  obtain ⟨W6, hW6⟩ : ∃ W, w5.alloc (.cells #[nV 0, nV 0, .bool false] 30) = W := ⟨_, rfl⟩
  obtain ⟨vb, hvb⟩ : ∃ b, w5.heap.size = b := ⟨_, rfl⟩
  have HB6 : Hid (Below w5.heap.size w5 W6) := Lib.hid (by rw [← hW6]; exact (Below.refl _ _).alloc (Nat.le_refl _) _)
  have HK6 : Hid (Bk W6 vb 30 #[nV 0, nV 0, .bool false]) := Lib.hid (by rw [← hW6, ← hvb]; exact Bk.new _ _ _)
  have HP6 := Lib.hid (hp5.below HB6.out)
  have HF6 := Lib.hid (HF5.out.trans (Fr.below HB6.out hp5.le))
  have HK6L := Lib.hid (HK5.out.heap (HB6.out.block lb HK5.out.lt))
  have HKL6 := Lib.hid (HKL5.out.heap (HB6.out.block kb HKL5.out.lt))
  have hr6 := HP6.out.row g (q) HQ.out
  have x3 := hr6.cells.2.2.2
  have y0 := HK6L.out.cell 0
  simp at y0
  have HFI := Lib.hid (first_row hr6)
  rw [show (q).line = q.line from rfl, HLN.out] at HFI
  simp only [firstS] at HFI
  have HVB : Hid (kb < vb ∧ lb < vb) := Lib.hid ⟨by have := HKL5.out.lt; omega, by have := HK5.out.lt; omega⟩
  have HVN : Hid (w.heap.size ≤ vb) := Lib.hid (by have := HKL5.out.lt; have := HSZ.out; omega)
  clear k1 hp4 hu4 hm5 ht5 hp5 hf5 hr6
  go_wp2_with fail
  go_region
  go_wp2_with fail
  try rw [hvb]
  try rw [hW6]
  refine HFI.out.mono ?_
  rintro e w7 ⟨rfl, ht7⟩
  obtain ⟨hpq7, hf7⟩ := HP6.out.turn HQ.out ht7
  have HP7 := Lib.hid (show PL B w7 a N C (lostR R g c (goQ q c s n) []) from by
    have e9 : goQ q c s n = q := by unfold goQ; rw [if_neg hc1]
    rw [e9]
    unfold lostR
    obtain ⟨M9, h9⟩ := hpq7
    exact ⟨M9, h9⟩)
  have HF7 := Lib.hid (HF6.out.trans hf7)
  have HKL7 := Lib.hid (hf7.kt.bk HKL6.out)
  have HK7L := Lib.hid (hf7.kt.bk HK6L.out)
  have HK7V := Lib.hid (hf7.kt.bk HK6.out)
  have HQ7 := Lib.hid (show (lostR R g c (goQ q c s n) []).rows g = some { goQ q c s n with line := [] } from upd_at _ _ _)
  have HS7 := Lib.hid (show (lostR R g c (goQ q c s n) []).nm n = some (g, c, s) from HS.out)
  have HCN7 : Hid ((goQ q c s n).conns = q.conns) := Lib.hid (goQ_line q c s n).2
  clear ht7 hpq7 hf7
  have HEN := Lib.hid (end_any HP7.out HNI.out HS7.out HQ7.out (by show 1 ≤ (goQ q c s n).conns ∧ (goQ q c s n).conns ≤ 1000000; rw [HCN7.out]; have := HCN.out; omega))
  clear x3 y0
  go_wp2_with fail
  refine HEN.out.mono ?_
  rintro e w8 ⟨rfl, hp8, hf8⟩
  have HP8 := Lib.hid hp8
  have HF8 := Lib.hid (HF7.out.trans hf8)
  have HKL8 := Lib.hid (hf8.kt.bk HKL7.out)
  have HK8L := Lib.hid (hf8.kt.bk HK7L.out)
  have HK8V := Lib.hid (hf8.kt.bk HK7V.out)
  have HLS := Lib.hid (LostS.none_ (R := R) (n := n) (g := g) (c := c) (s := s) HLN.out)
  clear hp8 hf8
  have k8 := HKL8.out
  have u0 := k8.cell 0
  have uf0 := k8.frozen 0
  have u1 := k8.cell 1
  have uf1 := k8.frozen 1
  have u2 := k8.cell 2
  have uf2 := k8.frozen 2
  simp at u0 u1 u2
  have l8 := HK8L.out.cell 1
  have v80 := HK8V.out.cell 0
  have v81 := HK8V.out.cell 1
  have v82 := HK8V.out.cell 2
  simp at l8 v80 v81 v82
  have hneL : kb ≠ lb := fun e => by
    have h1 := HKL8.out
    have h2 := HK8L.out
    unfold Bk at h1 h2
    rw [e, h2] at h1
    injection h1 with h1
    injection h1 with _ h1
    exact absurd h1 (by decide)
  have hneV : kb ≠ vb := by have := HVB.out.1; omega
  have HS3 := Lib.hid (fun (W : World) (p q r : Value) (hc : W.cell? ⟨lb, 1, none⟩ = some (nV c) ∧ W.cell? ⟨vb, 0, none⟩ = some (nV 0) ∧ W.cell? ⟨vb, 1, none⟩ = some (nV 0) ∧ W.cell? ⟨vb, 2, none⟩ = some (.bool false)) => show (((W.setCell ⟨kb, 0, none⟩ p).setCell ⟨kb, 1, none⟩ q).setCell ⟨kb, 2, none⟩ r).cell? ⟨lb, 1, none⟩ = some (nV c) ∧ (((W.setCell ⟨kb, 0, none⟩ p).setCell ⟨kb, 1, none⟩ q).setCell ⟨kb, 2, none⟩ r).cell? ⟨vb, 0, none⟩ = some (nV 0) ∧ (((W.setCell ⟨kb, 0, none⟩ p).setCell ⟨kb, 1, none⟩ q).setCell ⟨kb, 2, none⟩ r).cell? ⟨vb, 1, none⟩ = some (nV 0) ∧ (((W.setCell ⟨kb, 0, none⟩ p).setCell ⟨kb, 1, none⟩ q).setCell ⟨kb, 2, none⟩ r).cell? ⟨vb, 2, none⟩ = some (.bool false) from by
    have far : ∀ b, b ≠ kb → (((W.setCell ⟨kb, 0, none⟩ p).setCell ⟨kb, 1, none⟩ q).setCell ⟨kb, 2, none⟩ r).heap[b]? = W.heap[b]? := fun b hb => (Below.heap_setCell _ ⟨kb, 2, none⟩ _ b hb).trans ((Below.heap_setCell _ ⟨kb, 1, none⟩ _ b hb).trans (Below.heap_setCell _ ⟨kb, 0, none⟩ _ b hb))
    exact ⟨(World.cell?_of_block (w := W) (a := ⟨lb, 1, none⟩) (far lb hneL.symm)).trans hc.1, (World.cell?_of_block (w := W) (a := ⟨vb, 0, none⟩) (far vb hneV.symm)).trans hc.2.1, (World.cell?_of_block (w := W) (a := ⟨vb, 1, none⟩) (far vb hneV.symm)).trans hc.2.2.1, (World.cell?_of_block (w := W) (a := ⟨vb, 2, none⟩) (far vb hneV.symm)).trans hc.2.2.2⟩)
  clear k8
  go_wp2_with fail
  refine wp_region_held_drew (S := fun W => W.cell? ⟨lb, 1, none⟩ = some (nV c) ∧ W.cell? ⟨vb, 0, none⟩ = some (nV 0) ∧ W.cell? ⟨vb, 1, none⟩ = some (nV 0) ∧ W.cell? ⟨vb, 2, none⟩ = some (.bool false)) (by kernel_rfl) ?_ (fun hS => ?_)
  · exact ⟨l8, v80, v81, v82⟩
  obtain ⟨WD, hWD⟩ : ∃ W, w8.drew = W := ⟨_, rfl⟩
  have HD8 := Lib.hid (show Bk WD kb 30 #[nV 0, nV 0, .bool false] from by rw [← hWD]; exact HKL8.out)
  have HPD := Lib.hid (show PL B WD a _ C _ from by rw [← hWD]; exact HP8.out.below (w' := w8.drew) (Below.refl _ _).drew)
  have HFD := Lib.hid (show Fr B w WD from by rw [← hWD]; exact HF8.out.trans (Fr.below (Below.refl _ _).drew HP8.out.le))
  rw [hWD] at hS ⊢
  clear hWD
  have k9 := HD8.out
  have ud0 := k9.cell 0
  have udf0 := k9.frozen 0
  have ud1 := k9.cell 1
  have udf1 := k9.frozen 1
  have ud2 := k9.cell 2
  have udf2 := k9.frozen 2
  simp at ud0 ud1 ud2
  clear k9
  refine tkY 0 ?_ rfl hS ?_ ?_
  rotate_left
  · intro wz hz
    obtain ⟨z0, z1, z2, z3⟩ := hz
    go_simp
    all_goals first | with_reducible rfl | omega
  try simp only [Act.put, pu]
  refine tkY 1 ?_ rfl hS ?_ ?_
  rotate_left
  · intro wz hz
    obtain ⟨z0, z1, z2, z3⟩ := hz
    go_simp
    all_goals first | with_reducible rfl | omega
  try simp only [Act.put, pu]
  refine tkY 2 ?_ rfl hS ?_ ?_
  rotate_left
  · intro wz hz
    obtain ⟨z0, z1, z2, z3⟩ := hz
    go_simp
    all_goals first | with_reducible rfl | omega
  try simp only [Act.put, pu]
  refine tkY 3 ?_ rfl hS ?_ ?_
  rotate_left
  · intro wz hz
    obtain ⟨z0, z1, z2, z3⟩ := hz
    go_simp
    all_goals first | with_reducible rfl | omega
  try simp only [Act.put, pu]
  refine tkY 4 ?_ rfl hS ?_ ?_
  rotate_left
  · intro wz hz
    obtain ⟨z0, z1, z2, z3⟩ := hz
    go_simp
    all_goals first | with_reducible rfl | omega
  try simp only [Act.put, pu]
  refine wpAnyH_ready (rs := [5]) (by kernel_rfl) (by simp) (AllReadyH.cons rfl (fun K' hK' => ?_) AllReadyH.nil)
  go_simp
  refine hK'.out _ _ (HS3.out _ _ _ _ hS) (fun hSn => ?_)
  clear hK' K' hS
  have hS := hSn
  clear hSn
  try simp only [Act.put, pu]
  refine tkY 6 ?_ rfl hS ?_ ?_
  rotate_left
  · intro wz hz
    go_simp
    all_goals first | with_reducible rfl | omega
  try simp only [Act.put, pu]
  refine wpAnyH_done (by kernel_rfl) ?_ _
  clear hS
  go_wp2_with fail
  have hd8 := HD8.out
  have k5 := ((hd8.set_ 0 (nV 0)).set_ 1 (nV 0)).set_ 2 (.bool false)
  have e0 := k5.cell 0
  have e1 := k5.cell 1
  have e2 := k5.cell 2
  simp at e0 e1 e2
  refine bodyPost_ret (v := .tuple #[nV c, .agg #[nV 0, nV 0, .bool false], .bool false]) (by simp [results, Try.results11, go_sem, e0, e1, e2]) rfl ?_
  have hr := PL.cell3 HPD.out HFD.out HSZ.out HBW.out hd8 (nV 0) (nV 0) (.bool false)
  exact ⟨_, _, _, _, _, rfl, hr.1.mono (by omega), hr.2, by first | exact HLS.out | (have h9 := HLS.out; rw [HCN7.out] at h9; exact h9)⟩
set_option maxHeartbeats 16000000 in
theorem lost_held_cons (h : PL B w a N C R) (hN : N ≤ 900000) (hla : R.last ≤ 1000000) (n now : Int) (hn : I9 n) {g : Nat} {s : Int} {c : Int} (hci : I9 c) (hc : c ≠ -1) (hs : R.nm n = some (g, c, s)) {q : Row} (hq : R.rows g = some q) (hil : q.idle.length ≤ 100000) (hcn : 1 ≤ q.conns ∧ q.conns ≤ 100000) {x t : Int} {l : List (Int × Int)} (hl : q.line = (x, t) :: l) (hx : I9 x) (hnl : n ≤ (R.last : Int)) :
    Calls Try.prog 11 #[ptr a, nV n, nV now] w (LostP B w a N C R n g c s q) := by
  obtain ⟨W0, hW0⟩ : ∃ W, w.alloc (.cells #[nV 0, nV 0, .bool false] 30) = W := ⟨_, rfl⟩
  obtain ⟨kb, hkb⟩ : ∃ b, w.heap.size = b := ⟨_, rfl⟩
  have HB0 : Hid (Below w.heap.size w W0) := Lib.hid (by rw [← hW0]; exact (Below.refl _ _).alloc (Nat.le_refl _) _)
  have HK0 : Hid (Bk W0 kb 30 #[nV 0, nV 0, .bool false]) := Lib.hid (by rw [← hW0, ← hkb]; exact Bk.new _ _ _)
  have HKS : Hid (w.heap.size ≤ kb) := Lib.hid (Nat.le_of_eq hkb)
  have hw0 := h.below HB0.out
  obtain ⟨c0, _, _, _, _, _, _, _, _, c9⟩ := hw0.cells
  have HG := Lib.hid (given_yes W0 a c0)
  obtain ⟨M, hp⟩ := hw0
  have hlk := hp.lookL n hn
  rw [hs] at hlk
  simp only [lkO, lkV, Option.isSome_some] at hlk
  obtain ⟨W1, hW1⟩ : ∃ W, W0.alloc (.cells #[ptr g, nV c, nV s] 73) = W := ⟨_, rfl⟩
  obtain ⟨lb, hlb⟩ : ∃ b, W0.heap.size = b := ⟨_, rfl⟩
  have HB1 : Hid (Below W0.heap.size W0 W1) := Lib.hid (by rw [← hW1]; exact (Below.refl _ _).alloc (Nat.le_refl _) _)
  have HK1 : Hid (Bk W1 lb 73 #[ptr g, nV c, nV s]) := Lib.hid (by rw [← hW1, ← hlb]; exact Bk.new _ _ _)
  have HB := Lib.hid (HB0.out.trans (HB1.out.mono HB0.out.size))
  have HKL := Lib.hid (HK0.out.heap (HB1.out.block kb HK0.out.lt))
  have HF := Lib.hid (h.fr HB.out)
  have HP := Lib.hid (h.below HB.out)
  have HSZ : Hid (w.heap.size ≤ kb) := Lib.hid HKS.out
  have HBW := Lib.hid h.le
  have k1 := HK1.out
  have x0 := k1.cell 0
  have x1 := k1.cell 1
  have x2 := k1.cell 2
  simp at x0 x1 x2
  have HN := Lib.hid hN
  have HLAST := Lib.hid hla
  have HNI := Lib.hid hn
  have HS := Lib.hid hs
  have HQ := Lib.hid hq
  have HIL := Lib.hid hil
  have HCN := Lib.hid hcn
  have HLN := Lib.hid hl
  have HCI := Lib.hid hci
  have hc1 : ¬ c = -1 := hc
  have HXI := Lib.hid hx
  have HNL := Lib.hid hnl
  clear h hp hs hn hq hil hcn hN hla hl k1 hci hc hx hnl
  go_enter Try.func11, Try.ntmps11
  go_wp2_with fail
  try rw [hW0]
  try rw [hkb]
  refine HG.out.mono ?_
  rintro e w' ⟨rfl, rfl⟩
  go_wp2_with fail
  try rw [hlb]
  try rw [hW1]
  have k1 := HK1.out
  have x0 := k1.cell 0
  have x1 := k1.cell 1
  have x2 := k1.cell 2
  simp at x0 x1 x2
  obtain ⟨M4, hp4⟩ := HP.out
  obtain ⟨_, _, _, _, _, _, _, _, c8, _⟩ := hp4.cells
  have hu4 := hp4.below (w' := W1.drew) (Below.refl _ _).drew
  obtain ⟨w5, hrun, hm5, ht5⟩ := hu4.ms.drop iK Try.underlying50 (keyI c HCI.out) 0
  obtain ⟨hp5, hf5⟩ := hu4.putS (Nat.le_refl N) c none hm5 ht5
  have HF5 := Lib.hid ((HF.out.trans (Fr.below (Below.refl _ _).drew hp4.le)).trans hf5)
  have HK5 := Lib.hid (hf5.kt.bk (show Bk W1.drew lb 73 #[ptr g, nV c, nV s] from HK1.out))
  have HKL5 := Lib.hid (hf5.kt.bk (show Bk W1.drew kb 30 #[nV 0, nV 0, .bool false] from HKL.out))
  obtain ⟨W6, hW6⟩ : ∃ W, w5.alloc (.cells #[nV 0, nV 0, .bool false] 30) = W := ⟨_, rfl⟩
  obtain ⟨vb, hvb⟩ : ∃ b, w5.heap.size = b := ⟨_, rfl⟩
  have HB6 : Hid (Below w5.heap.size w5 W6) := Lib.hid (by rw [← hW6]; exact (Below.refl _ _).alloc (Nat.le_refl _) _)
  have HK6 : Hid (Bk W6 vb 30 #[nV 0, nV 0, .bool false]) := Lib.hid (by rw [← hW6, ← hvb]; exact Bk.new _ _ _)
  have HP6 := Lib.hid (hp5.below HB6.out)
  have HF6 := Lib.hid (HF5.out.trans (Fr.below HB6.out hp5.le))
  have HK6L := Lib.hid (HK5.out.heap (HB6.out.block lb HK5.out.lt))
  have HKL6 := Lib.hid (HKL5.out.heap (HB6.out.block kb HKL5.out.lt))
  have hr6 := HP6.out.row g (q) HQ.out
  have x3 := hr6.cells.2.2.2
  have y0 := HK6L.out.cell 0
  simp at y0
  have HFI := Lib.hid (first_row hr6)
  rw [show (q).line = q.line from rfl, HLN.out] at HFI
  simp only [firstS] at HFI
  have HVB : Hid (kb < vb ∧ lb < vb) := Lib.hid ⟨by have := HKL5.out.lt; omega, by have := HK5.out.lt; omega⟩
  have HVN : Hid (w.heap.size ≤ vb) := Lib.hid (by have := HKL5.out.lt; have := HSZ.out; omega)
  clear k1 hp4 hu4 hm5 ht5 hp5 hf5 hr6
  go_wp2_with fail
  go_region
  go_wp2_with fail
  try rw [hvb]
  try rw [hW6]
  refine HFI.out.mono ?_
  rintro e w7 ⟨rfl, ht7⟩
  obtain ⟨hpq7, hf7⟩ := HP6.out.turn HQ.out ht7
  have HP7 := Lib.hid (show PL B w7 a N C (lostR R g c (goQ q c s n) l) from by
    have e9 : goQ q c s n = q := by unfold goQ; rw [if_neg hc1]
    rw [e9]
    unfold lostR
    obtain ⟨M9, h9⟩ := hpq7
    exact ⟨M9, h9⟩)
  have HF7 := Lib.hid (HF6.out.trans hf7)
  have HKL7 := Lib.hid (hf7.kt.bk HKL6.out)
  have HK7L := Lib.hid (hf7.kt.bk HK6L.out)
  have HK7V := Lib.hid (hf7.kt.bk HK6.out)
  have HQ7 := Lib.hid (show (lostR R g c (goQ q c s n) l).rows g = some { goQ q c s n with line := l } from upd_at _ _ _)
  have HS7 := Lib.hid (show (lostR R g c (goQ q c s n) l).nm n = some (g, c, s) from HS.out)
  have HCN7 : Hid ((goQ q c s n).conns = q.conns) := Lib.hid (goQ_line q c s n).2
  clear ht7 hpq7 hf7
  have HOP := Lib.hid (open_any HP7.out (by have := HN.out; omega) HLAST.out HQ7.out (by show (goQ q c s n).conns ≤ 1000000; rw [HCN7.out]; have := HCN.out; omega) x HXI.out)
  clear x3 y0
  have y0 := HK7L.out.cell 0
  simp at y0
  go_wp2_with fail
  refine HOP.out.mono ?_
  rintro e w9 ⟨rfl, hp9, hf9⟩
  have HF9 := Lib.hid (HF7.out.trans hf9)
  have HKL9 := Lib.hid (hf9.kt.bk HKL7.out)
  have HK9L := Lib.hid (hf9.kt.bk HK7L.out)
  have kv := hf9.kt.bk HK7V.out
  have v0 := kv.cell 0
  have vf0 := kv.frozen 0
  have v1 := kv.cell 1
  have vf1 := kv.frozen 1
  have v2 := kv.cell 2
  have vf2 := kv.frozen 2
  simp at v0 v1 v2
  obtain ⟨L, hL⟩ : ∃ L : Nat, R.last + 1 = L := ⟨_, rfl⟩
  have hL2 : (lostR R g c (goQ q c s n) l).last + 1 = L := hL
  rw [hL2]
  obtain ⟨W10, hW10⟩ : ∃ W, ((w9.setCell ⟨vb, 0, none⟩ (nV x)).setCell ⟨vb, 1, none⟩ (nV (L : Int))).setCell ⟨vb, 2, none⟩ (.bool true) = W := ⟨_, rfl⟩
  have hr10 := PL.cell3 hp9 HF9.out HVN.out HBW.out kv (nV x) (nV (L : Int)) (.bool true)
  have far10 : ∀ b, b ≠ vb → (((w9.setCell ⟨vb, 0, none⟩ (nV x)).setCell ⟨vb, 1, none⟩ (nV (L : Int))).setCell ⟨vb, 2, none⟩ (.bool true)).heap[b]? = w9.heap[b]? := fun b hb => (Below.heap_setCell _ ⟨vb, 2, none⟩ _ b hb).trans ((Below.heap_setCell _ ⟨vb, 1, none⟩ _ b hb).trans (Below.heap_setCell _ ⟨vb, 0, none⟩ _ b hb))
  have HKL10 : Hid (Bk W10 kb 30 #[nV 0, nV 0, .bool false]) := Lib.hid (by rw [← hW10]; exact HKL9.out.heap (far10 kb (by have := HVB.out.1; omega)))
  have HK10L : Hid (Bk W10 lb 73 #[ptr g, nV c, nV s]) := Lib.hid (by rw [← hW10]; exact HK9L.out.heap (far10 lb (by have := HVB.out.2; omega)))
  have HK10V : Hid (Bk W10 vb 30 #[nV x, nV (L : Int), .bool true]) := Lib.hid (by rw [← hW10]; exact ((kv.set_ 0 (nV x)).set_ 1 (nV (L : Int))).set_ 2 (.bool true))
  rw [hW10] at hr10
  have HP10 := Lib.hid hr10.1
  have HF10 := Lib.hid hr10.2
  have HS10 := Lib.hid (show (openR (lostR R g c (goQ q c s n) l) g { goQ q c s n with line := l } x).nm n = some (g, c, s) from by
    show upd R.nm ((R.last + 1 : Nat) : Int) _ n = _
    rw [upd_ne _ _ (by have := HNL.out; omega)]
    exact HS.out)
  have HQ10 := Lib.hid (show (openR (lostR R g c (goQ q c s n) l) g { goQ q c s n with line := l } x).rows g = some { goQ q c s n with line := l, conns := (goQ q c s n).conns + 1 } from upd_at _ _ _)
  have HEN := Lib.hid (end_any HP10.out HNI.out HS10.out HQ10.out (by show 1 ≤ (goQ q c s n).conns + 1 ∧ (goQ q c s n).conns + 1 ≤ 1000000; rw [HCN7.out]; have := HCN.out; omega))
  rw [HCN7.out] at HEN
  have HLL := Lib.hid hL
  clear hp9 hf9 kv hr10 far10 y0 hL2
  go_wp2_with fail
  try rw [hW10]
  refine HEN.out.mono ?_
  rintro e w8 ⟨rfl, hp8, hf8⟩
  have HP8 := Lib.hid (show PL B w8 a (N + 3) C _ from hp8.mono (by omega))
  have HF8 := Lib.hid (HF10.out.trans hf8)
  have HKL8 := Lib.hid (hf8.kt.bk HKL10.out)
  have HK8L := Lib.hid (hf8.kt.bk HK10L.out)
  have HK8V := Lib.hid (hf8.kt.bk HK10V.out)
  have HLS := Lib.hid (LostS.next (R := R) (n := n) (g := g) (c := c) (s := s) HLN.out)
  rw [hL] at HLS
  clear hp8 hf8 hW10 hL
  have k8 := HKL8.out
  have u0 := k8.cell 0
  have uf0 := k8.frozen 0
  have u1 := k8.cell 1
  have uf1 := k8.frozen 1
  have u2 := k8.cell 2
  have uf2 := k8.frozen 2
  simp at u0 u1 u2
  have l8 := HK8L.out.cell 1
  have v80 := HK8V.out.cell 0
  have v81 := HK8V.out.cell 1
  have v82 := HK8V.out.cell 2
  simp at l8 v80 v81 v82
  have hneL : kb ≠ lb := fun e => by
    have h1 := HKL8.out
    have h2 := HK8L.out
    unfold Bk at h1 h2
    rw [e, h2] at h1
    injection h1 with h1
    injection h1 with _ h1
    exact absurd h1 (by decide)
  have hneV : kb ≠ vb := by have := HVB.out.1; omega
  have HS3 := Lib.hid (fun (W : World) (p q r : Value) (hc : W.cell? ⟨lb, 1, none⟩ = some (nV c) ∧ W.cell? ⟨vb, 0, none⟩ = some (nV x) ∧ W.cell? ⟨vb, 1, none⟩ = some (nV (L : Int)) ∧ W.cell? ⟨vb, 2, none⟩ = some (.bool true)) => show (((W.setCell ⟨kb, 0, none⟩ p).setCell ⟨kb, 1, none⟩ q).setCell ⟨kb, 2, none⟩ r).cell? ⟨lb, 1, none⟩ = some (nV c) ∧ (((W.setCell ⟨kb, 0, none⟩ p).setCell ⟨kb, 1, none⟩ q).setCell ⟨kb, 2, none⟩ r).cell? ⟨vb, 0, none⟩ = some (nV x) ∧ (((W.setCell ⟨kb, 0, none⟩ p).setCell ⟨kb, 1, none⟩ q).setCell ⟨kb, 2, none⟩ r).cell? ⟨vb, 1, none⟩ = some (nV (L : Int)) ∧ (((W.setCell ⟨kb, 0, none⟩ p).setCell ⟨kb, 1, none⟩ q).setCell ⟨kb, 2, none⟩ r).cell? ⟨vb, 2, none⟩ = some (.bool true) from by
    have far : ∀ b, b ≠ kb → (((W.setCell ⟨kb, 0, none⟩ p).setCell ⟨kb, 1, none⟩ q).setCell ⟨kb, 2, none⟩ r).heap[b]? = W.heap[b]? := fun b hb => (Below.heap_setCell _ ⟨kb, 2, none⟩ _ b hb).trans ((Below.heap_setCell _ ⟨kb, 1, none⟩ _ b hb).trans (Below.heap_setCell _ ⟨kb, 0, none⟩ _ b hb))
    exact ⟨(World.cell?_of_block (w := W) (a := ⟨lb, 1, none⟩) (far lb hneL.symm)).trans hc.1, (World.cell?_of_block (w := W) (a := ⟨vb, 0, none⟩) (far vb hneV.symm)).trans hc.2.1, (World.cell?_of_block (w := W) (a := ⟨vb, 1, none⟩) (far vb hneV.symm)).trans hc.2.2.1, (World.cell?_of_block (w := W) (a := ⟨vb, 2, none⟩) (far vb hneV.symm)).trans hc.2.2.2⟩)
  clear k8
  go_wp2_with fail
  refine wp_region_held_drew (S := fun W => W.cell? ⟨lb, 1, none⟩ = some (nV c) ∧ W.cell? ⟨vb, 0, none⟩ = some (nV x) ∧ W.cell? ⟨vb, 1, none⟩ = some (nV (L : Int)) ∧ W.cell? ⟨vb, 2, none⟩ = some (.bool true)) (by kernel_rfl) ?_ (fun hS => ?_)
  · exact ⟨l8, v80, v81, v82⟩
  obtain ⟨WD, hWD⟩ : ∃ W, w8.drew = W := ⟨_, rfl⟩
  have HD8 := Lib.hid (show Bk WD kb 30 #[nV 0, nV 0, .bool false] from by rw [← hWD]; exact HKL8.out)
  have HPD := Lib.hid (show PL B WD a _ C _ from by rw [← hWD]; exact HP8.out.below (w' := w8.drew) (Below.refl _ _).drew)
  have HFD := Lib.hid (show Fr B w WD from by rw [← hWD]; exact HF8.out.trans (Fr.below (Below.refl _ _).drew HP8.out.le))
  rw [hWD] at hS ⊢
  clear hWD
  have k9 := HD8.out
  have ud0 := k9.cell 0
  have udf0 := k9.frozen 0
  have ud1 := k9.cell 1
  have udf1 := k9.frozen 1
  have ud2 := k9.cell 2
  have udf2 := k9.frozen 2
  simp at ud0 ud1 ud2
  clear k9
  refine tkY 0 ?_ rfl hS ?_ ?_
  rotate_left
  · intro wz hz
    obtain ⟨z0, z1, z2, z3⟩ := hz
    go_simp
    all_goals first | with_reducible rfl | omega
  try simp only [Act.put, pu]
  refine tkY 1 ?_ rfl hS ?_ ?_
  rotate_left
  · intro wz hz
    obtain ⟨z0, z1, z2, z3⟩ := hz
    go_simp
    all_goals first | with_reducible rfl | omega
  try simp only [Act.put, pu]
  refine tkY 2 ?_ rfl hS ?_ ?_
  rotate_left
  · intro wz hz
    obtain ⟨z0, z1, z2, z3⟩ := hz
    go_simp
    all_goals first | with_reducible rfl | omega
  try simp only [Act.put, pu]
  refine tkY 3 ?_ rfl hS ?_ ?_
  rotate_left
  · intro wz hz
    obtain ⟨z0, z1, z2, z3⟩ := hz
    go_simp
    all_goals first | with_reducible rfl | omega
  try simp only [Act.put, pu]
  refine tkY 4 ?_ rfl hS ?_ ?_
  rotate_left
  · intro wz hz
    obtain ⟨z0, z1, z2, z3⟩ := hz
    go_simp
    all_goals first | with_reducible rfl | omega
  try simp only [Act.put, pu]
  refine wpAnyH_ready (rs := [5]) (by kernel_rfl) (by simp) (AllReadyH.cons rfl (fun K' hK' => ?_) AllReadyH.nil)
  go_simp
  refine hK'.out _ _ (HS3.out _ _ _ _ hS) (fun hSn => ?_)
  clear hK' K' hS
  have hS := hSn
  clear hSn
  try simp only [Act.put, pu]
  refine tkY 6 ?_ rfl hS ?_ ?_
  rotate_left
  · intro wz hz
    go_simp
    all_goals first | with_reducible rfl | omega
  try simp only [Act.put, pu]
  refine wpAnyH_done (by kernel_rfl) ?_ _
  clear hS
  go_wp2_with fail
  have hd8 := HD8.out
  have k5 := ((hd8.set_ 0 (nV x)).set_ 1 (nV (L : Int))).set_ 2 (.bool true)
  have e0 := k5.cell 0
  have e1 := k5.cell 1
  have e2 := k5.cell 2
  simp at e0 e1 e2
  refine bodyPost_ret (v := .tuple #[nV c, .agg #[nV x, nV (L : Int), .bool true], .bool true]) (by simp [results, Try.results11, go_sem, e0, e1, e2]) rfl ?_
  have hr := PL.cell3 HPD.out HFD.out HSZ.out HBW.out hd8 (nV x) (nV (L : Int)) (.bool true)
  exact ⟨_, _, _, _, _, rfl, hr.1.mono (by omega), hr.2, by first | exact HLS.out | (have h9 := HLS.out; rw [HCN7.out] at h9; exact h9)⟩
set_option maxHeartbeats 16000000 in
theorem lost_idle_nil (h : PL B w a N C R) (hN : N ≤ 900000) (hla : R.last ≤ 1000000) (n now : Int) (hn : I9 n) {g : Nat} {s : Int} (hs : R.nm n = some (g, (-1), s)) {q : Row} (hq : R.rows g = some q) (hil : q.idle.length ≤ 100000) (hcn : 1 ≤ q.conns ∧ q.conns ≤ 100000) (hu : upE q.idle) (hat : q.idle[lowP (ltE (s, n)) q.idle]? = some (s, n)) (hl : q.line = []) :
    Calls Try.prog 11 #[ptr a, nV n, nV now] w (LostP B w a N C R n g (-1) s q) := by
  obtain ⟨W0, hW0⟩ : ∃ W, w.alloc (.cells #[nV 0, nV 0, .bool false] 30) = W := ⟨_, rfl⟩
  obtain ⟨kb, hkb⟩ : ∃ b, w.heap.size = b := ⟨_, rfl⟩
  have HB0 : Hid (Below w.heap.size w W0) := Lib.hid (by rw [← hW0]; exact (Below.refl _ _).alloc (Nat.le_refl _) _)
  have HK0 : Hid (Bk W0 kb 30 #[nV 0, nV 0, .bool false]) := Lib.hid (by rw [← hW0, ← hkb]; exact Bk.new _ _ _)
  have HKS : Hid (w.heap.size ≤ kb) := Lib.hid (Nat.le_of_eq hkb)
  have hw0 := h.below HB0.out
  obtain ⟨c0, _, _, _, _, _, _, _, _, c9⟩ := hw0.cells
  have HG := Lib.hid (given_yes W0 a c0)
  obtain ⟨M, hp⟩ := hw0
  have hlk := hp.lookL n hn
  rw [hs] at hlk
  simp only [lkO, lkV, Option.isSome_some] at hlk
  obtain ⟨W1, hW1⟩ : ∃ W, W0.alloc (.cells #[ptr g, nV (-1), nV s] 73) = W := ⟨_, rfl⟩
  obtain ⟨lb, hlb⟩ : ∃ b, W0.heap.size = b := ⟨_, rfl⟩
  have HB1 : Hid (Below W0.heap.size W0 W1) := Lib.hid (by rw [← hW1]; exact (Below.refl _ _).alloc (Nat.le_refl _) _)
  have HK1 : Hid (Bk W1 lb 73 #[ptr g, nV (-1), nV s]) := Lib.hid (by rw [← hW1, ← hlb]; exact Bk.new _ _ _)
  have HB := Lib.hid (HB0.out.trans (HB1.out.mono HB0.out.size))
  have HKL := Lib.hid (HK0.out.heap (HB1.out.block kb HK0.out.lt))
  have HF := Lib.hid (h.fr HB.out)
  have HP := Lib.hid (h.below HB.out)
  have HSZ : Hid (w.heap.size ≤ kb) := Lib.hid HKS.out
  have HBW := Lib.hid h.le
  have k1 := HK1.out
  have x0 := k1.cell 0
  have x1 := k1.cell 1
  have x2 := k1.cell 2
  simp at x0 x1 x2
  have HN := Lib.hid hN
  have HLAST := Lib.hid hla
  have HNI := Lib.hid hn
  have HS := Lib.hid hs
  have HQ := Lib.hid hq
  have HIL := Lib.hid hil
  have HCN := Lib.hid hcn
  have HLN := Lib.hid hl
  have HU := Lib.hid hu
  have HAT := Lib.hid hat
  have HCI : Hid (I9 (-1)) := Lib.hid ⟨by omega, by omega⟩
  clear h hp hs hn hq hil hcn hN hla hl k1 hu hat
  go_enter Try.func11, Try.ntmps11
  go_wp2_with fail
  try rw [hW0]
  try rw [hkb]
  refine HG.out.mono ?_
  rintro e w' ⟨rfl, rfl⟩
  go_wp2_with fail
  try rw [hlb]
  try rw [hW1]
  obtain ⟨M1, hpb1⟩ := HP.out
  have HPB1 := Lib.hid hpb1
  have HR1 := Lib.hid (hpb1.row g q HQ.out)
  have HPLA := Lib.hid (fun W (hb : Below W1.heap.size W1 W) => place_any (HR1.out.below hb) HU.out (by have := HIL.out; omega) (s, n))
  have HWA := Lib.hid (fun W (hb : Below W1.heap.size W1 W) => wake_any (HR1.out.below hb) (by have := HIL.out; omega) (lowP (ltE (s, n)) q.idle) (s, n) HAT.out)
  have HCL := Lib.hid (fun W (hk : Bk W lb 73 #[ptr g, nV (-1), nV s]) => show W.cell? ⟨lb, 0, none⟩ = some (ptr g) ∧ W.cell? ⟨lb, 1, none⟩ = some (nV (-1)) ∧ W.cell? ⟨lb, 2, none⟩ = some (nV s) from by
    have c0 := hk.cell 0
    have c1 := hk.cell 1
    have c2 := hk.cell 2
    simp at c0 c1 c2
    exact ⟨c0, c1, c2⟩)
  obtain ⟨lw, hlw⟩ : ∃ lw, lowP (ltE (s, n)) q.idle = lw := ⟨_, rfl⟩
  simp only [hlw] at HPLA HWA
  clear hpb1
  refine wp_region_held_drew (S := fun W => W.cell? ⟨lb, 0, none⟩ = some (ptr g) ∧ W.cell? ⟨lb, 1, none⟩ = some (nV (-1)) ∧ W.cell? ⟨lb, 2, none⟩ = some (nV s)) (by kernel_rfl) ?_ (fun hS => ?_)
  · exact ⟨x0, x1, x2⟩
  have hb0 : Below W1.heap.size W1 W1.drew := (Below.refl _ _).drew
  refine tkY 0 ?_ rfl hS ?_ ?_
  rotate_left
  · intro wz hz
    obtain ⟨z0, z1, z2⟩ := hz
    go_simp
    all_goals first | with_reducible rfl | omega
  try simp only [Act.put, pu]
  refine tkY 1 ?_ rfl hS ?_ ?_
  rotate_left
  · intro wz hz
    obtain ⟨z0, z1, z2⟩ := hz
    go_simp
    all_goals first | with_reducible rfl | omega
  try simp only [Act.put, pu]
  refine tkY 2 ?_ rfl hS ?_ ?_
  rotate_left
  · intro wz hz
    obtain ⟨z0, z1, z2⟩ := hz
    go_simp
    all_goals first | with_reducible rfl | omega
  try simp only [Act.put, pu]
  refine tkY 3 ?_ rfl hS ?_ ?_
  rotate_left
  · intro wz hz
    obtain ⟨z0, z1, z2⟩ := hz
    go_simp
    all_goals first | with_reducible rfl | omega
  try simp only [Act.put, pu]
  refine tkY 4 ?_ rfl hS ?_ ?_
  rotate_left
  · intro wz hz
    obtain ⟨z0, z1, z2⟩ := hz
    go_simp
    all_goals first | with_reducible rfl | omega
  try simp only [Act.put, pu]
  refine tkY 5 ?_ rfl hS ?_ ?_
  rotate_left
  · intro wz hz
    obtain ⟨z0, z1, z2⟩ := hz
    go_simp
    all_goals first | with_reducible rfl | omega
  try simp only [Act.put, pu]
  refine tkY 6 ?_ rfl hS ?_ ?_
  rotate_left
  · intro wz hz
    obtain ⟨z0, z1, z2⟩ := hz
    go_simp
    all_goals first | with_reducible rfl | omega
  try simp only [Act.put, pu]
  refine tkY 7 ?_ rfl hS ?_ ?_
  rotate_left
  · intro wz hz
    obtain ⟨z0, z1, z2⟩ := hz
    go_simp
    all_goals first | with_reducible rfl | omega
  try simp only [Act.put, pu]
  refine wpAnyH_ready (rs := [8]) (by kernel_rfl) (by simp) (AllReadyH.cons rfl (fun K' hK' => ?_) AllReadyH.nil)
  go_simp
  refine (HPLA.out _ hb0).mono ?_
  rintro e w2 ⟨rfl, hb2⟩
  have hb02 := hb0.trans (hb2.mono hb0.size)
  refine hK'.out _ _ (HCL.out w2 (HK1.out.heap (hb02.block lb HK1.out.lt))) (fun hSn => ?_)
  clear hK' K' hS
  have hS := hSn
  clear hSn
  try simp only [Act.put, pu]
  refine wpAnyH_ready (rs := [9]) (by kernel_rfl) (by simp) (AllReadyH.cons rfl (fun K' hK' => ?_) AllReadyH.nil)
  go_simp
  refine (HWA.out _ hb02).mono ?_
  rintro e w3 ⟨rfl, ht3⟩
  obtain ⟨hpq3, hf3⟩ := (HPB1.out.below hb02).turn HQ.out ht3
  have hk3 := hf3.kt.bk (HK1.out.heap (hb02.block lb HK1.out.lt))
  refine hK'.out _ _ (HCL.out w3 hk3) (fun hSn => ?_)
  clear hK' K' hS
  have hS := hSn
  clear hSn
  try simp only [Act.put, pu]
  refine wpAnyH_done (by kernel_rfl) ?_ _
  clear hS
  have HQ := Lib.hid (show (upd R.rows g (some (outQ q s n))) g = some (outQ q s n) from upd_at _ _ _)
  have HP := Lib.hid (show PL B w3 a N C { R with rows := upd R.rows g (some (outQ q s n)) } from by unfold outQ; rw [hlw]; exact hpq3)
  have HF := Lib.hid ((HF.out.trans (Fr.below hb02 HPB1.out.le)).trans hf3)
  have HK1 := Lib.hid hk3
  have HKL := Lib.hid (hf3.kt.bk (HKL.out.heap (hb02.block kb HKL.out.lt)))
  clear ht3 hpq3 hf3 hk3 hb0 hb2 hb02
  obtain ⟨W1, hw31⟩ : ∃ W, w3 = W := ⟨_, rfl⟩
  subst hw31
  go_wp2_with fail
  have k1 := HK1.out
  have x0 := k1.cell 0
  have x1 := k1.cell 1
  have x2 := k1.cell 2
  simp at x0 x1 x2
  obtain ⟨M4, hp4⟩ := HP.out
  obtain ⟨_, _, _, _, _, _, _, _, c8, _⟩ := hp4.cells
  have hu4 := hp4.below (w' := w3.drew) (Below.refl _ _).drew
  obtain ⟨w5, hrun, hm5, ht5⟩ := hu4.ms.drop iK Try.underlying50 (keyI (-1) HCI.out) 0
  obtain ⟨hp5, hf5⟩ := hu4.putS (Nat.le_refl N) (-1) none hm5 ht5
  have HF5 := Lib.hid ((HF.out.trans (Fr.below (Below.refl _ _).drew hp4.le)).trans hf5)
  have HK5 := Lib.hid (hf5.kt.bk (show Bk w3.drew lb 73 #[ptr g, nV (-1), nV s] from HK1.out))
  have HKL5 := Lib.hid (hf5.kt.bk (show Bk w3.drew kb 30 #[nV 0, nV 0, .bool false] from HKL.out))
  obtain ⟨W6, hW6⟩ : ∃ W, w5.alloc (.cells #[nV 0, nV 0, .bool false] 30) = W := ⟨_, rfl⟩
  obtain ⟨vb, hvb⟩ : ∃ b, w5.heap.size = b := ⟨_, rfl⟩
  have HB6 : Hid (Below w5.heap.size w5 W6) := Lib.hid (by rw [← hW6]; exact (Below.refl _ _).alloc (Nat.le_refl _) _)
  have HK6 : Hid (Bk W6 vb 30 #[nV 0, nV 0, .bool false]) := Lib.hid (by rw [← hW6, ← hvb]; exact Bk.new _ _ _)
  have HP6 := Lib.hid (hp5.below HB6.out)
  have HF6 := Lib.hid (HF5.out.trans (Fr.below HB6.out hp5.le))
  have HK6L := Lib.hid (HK5.out.heap (HB6.out.block lb HK5.out.lt))
  have HKL6 := Lib.hid (HKL5.out.heap (HB6.out.block kb HKL5.out.lt))
  have hr6 := HP6.out.row g (outQ q s n) HQ.out
  have x3 := hr6.cells.2.2.2
  have y0 := HK6L.out.cell 0
  simp at y0
  have HFI := Lib.hid (first_row hr6)
  rw [show (outQ q s n).line = q.line from rfl, HLN.out] at HFI
  simp only [firstS] at HFI
  have HVB : Hid (kb < vb ∧ lb < vb) := Lib.hid ⟨by have := HKL5.out.lt; omega, by have := HK5.out.lt; omega⟩
  have HVN : Hid (w.heap.size ≤ vb) := Lib.hid (by have := HKL5.out.lt; have := HSZ.out; omega)
  clear k1 hp4 hu4 hm5 ht5 hp5 hf5 hr6
  go_wp2_with fail
  go_region
  go_wp2_with fail
  try rw [hvb]
  try rw [hW6]
  refine HFI.out.mono ?_
  rintro e w7 ⟨rfl, ht7⟩
  obtain ⟨hpq7, hf7⟩ := HP6.out.turn HQ.out ht7
  have HP7 := Lib.hid (show PL B w7 a N C (lostR R g (-1) (goQ q (-1) s n) []) from by
    have e9 : goQ q (-1) s n = outQ q s n := by unfold goQ; rw [if_pos rfl]
    rw [e9]
    unfold lostR
    obtain ⟨M9, h9⟩ := hpq7
    exact ⟨M9, by rw [show upd (upd R.rows g (some (outQ q s n))) g (some { outQ q s n with line := [] }) = upd R.rows g (some { outQ q s n with line := [] }) from upd_upd _ _ _ _] at h9; exact h9⟩)
  have HF7 := Lib.hid (HF6.out.trans hf7)
  have HKL7 := Lib.hid (hf7.kt.bk HKL6.out)
  have HK7L := Lib.hid (hf7.kt.bk HK6L.out)
  have HK7V := Lib.hid (hf7.kt.bk HK6.out)
  have HQ7 := Lib.hid (show (lostR R g (-1) (goQ q (-1) s n) []).rows g = some { goQ q (-1) s n with line := [] } from upd_at _ _ _)
  have HS7 := Lib.hid (show (lostR R g (-1) (goQ q (-1) s n) []).nm n = some (g, (-1), s) from HS.out)
  have HCN7 : Hid ((goQ q (-1) s n).conns = q.conns) := Lib.hid (goQ_line q (-1) s n).2
  clear ht7 hpq7 hf7
  have HEN := Lib.hid (end_any HP7.out HNI.out HS7.out HQ7.out (by show 1 ≤ (goQ q (-1) s n).conns ∧ (goQ q (-1) s n).conns ≤ 1000000; rw [HCN7.out]; have := HCN.out; omega))
  clear x3 y0
  go_wp2_with fail
  refine HEN.out.mono ?_
  rintro e w8 ⟨rfl, hp8, hf8⟩
  have HP8 := Lib.hid hp8
  have HF8 := Lib.hid (HF7.out.trans hf8)
  have HKL8 := Lib.hid (hf8.kt.bk HKL7.out)
  have HK8L := Lib.hid (hf8.kt.bk HK7L.out)
  have HK8V := Lib.hid (hf8.kt.bk HK7V.out)
  have HLS := Lib.hid (LostS.none_ (R := R) (n := n) (g := g) (c := (-1)) (s := s) HLN.out)
  clear hp8 hf8
  have k8 := HKL8.out
  have u0 := k8.cell 0
  have uf0 := k8.frozen 0
  have u1 := k8.cell 1
  have uf1 := k8.frozen 1
  have u2 := k8.cell 2
  have uf2 := k8.frozen 2
  simp at u0 u1 u2
  have l8 := HK8L.out.cell 1
  have v80 := HK8V.out.cell 0
  have v81 := HK8V.out.cell 1
  have v82 := HK8V.out.cell 2
  simp at l8 v80 v81 v82
  have hneL : kb ≠ lb := fun e => by
    have h1 := HKL8.out
    have h2 := HK8L.out
    unfold Bk at h1 h2
    rw [e, h2] at h1
    injection h1 with h1
    injection h1 with _ h1
    exact absurd h1 (by decide)
  have hneV : kb ≠ vb := by have := HVB.out.1; omega
  have HS3 := Lib.hid (fun (W : World) (p q r : Value) (hc : W.cell? ⟨lb, 1, none⟩ = some (nV (-1)) ∧ W.cell? ⟨vb, 0, none⟩ = some (nV 0) ∧ W.cell? ⟨vb, 1, none⟩ = some (nV 0) ∧ W.cell? ⟨vb, 2, none⟩ = some (.bool false)) => show (((W.setCell ⟨kb, 0, none⟩ p).setCell ⟨kb, 1, none⟩ q).setCell ⟨kb, 2, none⟩ r).cell? ⟨lb, 1, none⟩ = some (nV (-1)) ∧ (((W.setCell ⟨kb, 0, none⟩ p).setCell ⟨kb, 1, none⟩ q).setCell ⟨kb, 2, none⟩ r).cell? ⟨vb, 0, none⟩ = some (nV 0) ∧ (((W.setCell ⟨kb, 0, none⟩ p).setCell ⟨kb, 1, none⟩ q).setCell ⟨kb, 2, none⟩ r).cell? ⟨vb, 1, none⟩ = some (nV 0) ∧ (((W.setCell ⟨kb, 0, none⟩ p).setCell ⟨kb, 1, none⟩ q).setCell ⟨kb, 2, none⟩ r).cell? ⟨vb, 2, none⟩ = some (.bool false) from by
    have far : ∀ b, b ≠ kb → (((W.setCell ⟨kb, 0, none⟩ p).setCell ⟨kb, 1, none⟩ q).setCell ⟨kb, 2, none⟩ r).heap[b]? = W.heap[b]? := fun b hb => (Below.heap_setCell _ ⟨kb, 2, none⟩ _ b hb).trans ((Below.heap_setCell _ ⟨kb, 1, none⟩ _ b hb).trans (Below.heap_setCell _ ⟨kb, 0, none⟩ _ b hb))
    exact ⟨(World.cell?_of_block (w := W) (a := ⟨lb, 1, none⟩) (far lb hneL.symm)).trans hc.1, (World.cell?_of_block (w := W) (a := ⟨vb, 0, none⟩) (far vb hneV.symm)).trans hc.2.1, (World.cell?_of_block (w := W) (a := ⟨vb, 1, none⟩) (far vb hneV.symm)).trans hc.2.2.1, (World.cell?_of_block (w := W) (a := ⟨vb, 2, none⟩) (far vb hneV.symm)).trans hc.2.2.2⟩)
  clear k8
  go_wp2_with fail
  refine wp_region_held_drew (S := fun W => W.cell? ⟨lb, 1, none⟩ = some (nV (-1)) ∧ W.cell? ⟨vb, 0, none⟩ = some (nV 0) ∧ W.cell? ⟨vb, 1, none⟩ = some (nV 0) ∧ W.cell? ⟨vb, 2, none⟩ = some (.bool false)) (by kernel_rfl) ?_ (fun hS => ?_)
  · exact ⟨l8, v80, v81, v82⟩
  obtain ⟨WD, hWD⟩ : ∃ W, w8.drew = W := ⟨_, rfl⟩
  have HD8 := Lib.hid (show Bk WD kb 30 #[nV 0, nV 0, .bool false] from by rw [← hWD]; exact HKL8.out)
  have HPD := Lib.hid (show PL B WD a _ C _ from by rw [← hWD]; exact HP8.out.below (w' := w8.drew) (Below.refl _ _).drew)
  have HFD := Lib.hid (show Fr B w WD from by rw [← hWD]; exact HF8.out.trans (Fr.below (Below.refl _ _).drew HP8.out.le))
  rw [hWD] at hS ⊢
  clear hWD
  have k9 := HD8.out
  have ud0 := k9.cell 0
  have udf0 := k9.frozen 0
  have ud1 := k9.cell 1
  have udf1 := k9.frozen 1
  have ud2 := k9.cell 2
  have udf2 := k9.frozen 2
  simp at ud0 ud1 ud2
  clear k9
  refine tkY 0 ?_ rfl hS ?_ ?_
  rotate_left
  · intro wz hz
    obtain ⟨z0, z1, z2, z3⟩ := hz
    go_simp
    all_goals first | with_reducible rfl | omega
  try simp only [Act.put, pu]
  refine tkY 1 ?_ rfl hS ?_ ?_
  rotate_left
  · intro wz hz
    obtain ⟨z0, z1, z2, z3⟩ := hz
    go_simp
    all_goals first | with_reducible rfl | omega
  try simp only [Act.put, pu]
  refine tkY 2 ?_ rfl hS ?_ ?_
  rotate_left
  · intro wz hz
    obtain ⟨z0, z1, z2, z3⟩ := hz
    go_simp
    all_goals first | with_reducible rfl | omega
  try simp only [Act.put, pu]
  refine tkY 3 ?_ rfl hS ?_ ?_
  rotate_left
  · intro wz hz
    obtain ⟨z0, z1, z2, z3⟩ := hz
    go_simp
    all_goals first | with_reducible rfl | omega
  try simp only [Act.put, pu]
  refine tkY 4 ?_ rfl hS ?_ ?_
  rotate_left
  · intro wz hz
    obtain ⟨z0, z1, z2, z3⟩ := hz
    go_simp
    all_goals first | with_reducible rfl | omega
  try simp only [Act.put, pu]
  refine wpAnyH_ready (rs := [5]) (by kernel_rfl) (by simp) (AllReadyH.cons rfl (fun K' hK' => ?_) AllReadyH.nil)
  go_simp
  refine hK'.out _ _ (HS3.out _ _ _ _ hS) (fun hSn => ?_)
  clear hK' K' hS
  have hS := hSn
  clear hSn
  try simp only [Act.put, pu]
  refine tkY 6 ?_ rfl hS ?_ ?_
  rotate_left
  · intro wz hz
    go_simp
    all_goals first | with_reducible rfl | omega
  try simp only [Act.put, pu]
  refine wpAnyH_done (by kernel_rfl) ?_ _
  clear hS
  go_wp2_with fail
  have hd8 := HD8.out
  have k5 := ((hd8.set_ 0 (nV 0)).set_ 1 (nV 0)).set_ 2 (.bool false)
  have e0 := k5.cell 0
  have e1 := k5.cell 1
  have e2 := k5.cell 2
  simp at e0 e1 e2
  refine bodyPost_ret (v := .tuple #[nV (-1), .agg #[nV 0, nV 0, .bool false], .bool false]) (by simp [results, Try.results11, go_sem, e0, e1, e2]) rfl ?_
  have hr := PL.cell3 HPD.out HFD.out HSZ.out HBW.out hd8 (nV 0) (nV 0) (.bool false)
  exact ⟨_, _, _, _, _, rfl, hr.1.mono (by omega), hr.2, by first | exact HLS.out | (have h9 := HLS.out; rw [HCN7.out] at h9; exact h9)⟩
end
end Go.Proofs.Ytochjbmighijgaa.PO
