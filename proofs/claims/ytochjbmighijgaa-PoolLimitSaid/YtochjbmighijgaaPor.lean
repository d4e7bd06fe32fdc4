/- Package pool, its code: Ask that lends, or lets wait. Conditions: how many calls there were; how long names are; how many each group has. -/
import Derived.Test.YtochjbmighijgaaPoq
namespace Go.Proofs.Ytochjbmighijgaa.PO
open Go.ChangeShapes Go.WideShapes Go.ChangeAt Go.RowKit Go.Maps Go.ChangeMaps
open Go.Proofs.Ytochjbmighijgaa.SL Go.Proofs.Ytochjbmighijgaa.RW
open Go.Proofs.Ytochjbmighijgaa.LN (tkY tkN pu OI IS RdP)
set_option maxRecDepth 100000
set_option linter.unusedVariables false
set_option linter.unusedSimpArgs false

open Go.Proofs.Ytochjbmighijgaa.LN (joinS)
section
variable {B : Nat} {w w' : World} {a N : Nat} {C : Cf} {R : Raw}
set_option maxHeartbeats 16000000 in
theorem ask_go (h : PL B w a N C R) (hN : N ≤ 900000) (hl : R.last ≤ 1000000) (k : ByteArray) (hk : k.size ≤ 281474976710656) (c now : Int) (hc : I9 c) (h0 : 0 ≤ c) (h1 : 0 ≤ now ∧ now ≤ 549755813888) (hs : R.sm c = none)
    (hrow : ∀ g R1, FindS R k g R1 → ∃ q, R1.rows g = some q ∧ q.idle.length ≤ 100000 ∧ q.conns ≤ 100000 ∧ ∀ r ∈ q.idle, I9 r.2) :
    Calls Try.prog 8 #[ptr a, .string k, nV c, nV now] w (AskP B w a N C R k c now) := by
  obtain ⟨W0, hW0⟩ : ∃ W, w.alloc (.cells #[nV 0, nV 0, .bool false] 30) = W := ⟨_, rfl⟩
  obtain ⟨kb, hkb⟩ : ∃ b, w.heap.size = b := ⟨_, rfl⟩
  have HB0 : Hid (Below w.heap.size w W0) := Lib.hid (by rw [← hW0]; exact (Below.refl _ _).alloc (Nat.le_refl _) _)
  have HK0 : Hid (Bk W0 kb 30 #[nV 0, nV 0, .bool false]) := Lib.hid (by rw [← hW0, ← hkb]; exact Bk.new _ _ _)
  have hw0 := h.below HB0.out
  obtain ⟨c0, _, _, _, _, _, _, _, c8, _⟩ := hw0.cells
  have HG := Lib.hid (given_yes W0 a c0)
  obtain ⟨M, hp⟩ := hw0
  have hlk := hp.lookS c hc
  rw [hs] at hlk
  simp only [seO, Option.isSome_none] at hlk
  obtain ⟨px, hpx⟩ : ∃ x : Option Addr, none = x := ⟨_, rfl⟩
  obtain ⟨pn, hpn⟩ : ∃ n : Int, 0 = n := ⟨_, rfl⟩
  obtain ⟨pb, hpb⟩ : ∃ b : Bool, false = b := ⟨_, rfl⟩
  rw [show (Value.agg #[.pointer none, nV 0, .bool false]) = .agg #[.pointer px, nV pn, .bool pb] by rw [hpx, hpn, hpb]] at hlk
  clear hpx hpn hpb
  obtain ⟨W1, hW1⟩ : ∃ W, W0.alloc (.cells #[.pointer px, nV pn, .bool pb] 59) = W := ⟨_, rfl⟩
  obtain ⟨sb, hsb⟩ : ∃ b, W0.heap.size = b := ⟨_, rfl⟩
  have HB1 : Hid (Below W0.heap.size W0 W1) := Lib.hid (by rw [← hW1]; exact (Below.refl _ _).alloc (Nat.le_refl _) _)
  have HK1 : Hid (Bk W1 sb 59 #[.pointer px, nV pn, .bool pb]) := Lib.hid (by rw [← hW1, ← hsb]; exact Bk.new _ _ _)
  have HB := Lib.hid (HB0.out.trans (HB1.out.mono HB0.out.size))
  have HK0 := Lib.hid (HK0.out.heap (HB1.out.block kb HK0.out.lt))
  have HF1 := Lib.hid (h.fr HB.out)
  have HP1 := Lib.hid (h.below HB.out)
  have HSZ : Hid (w.heap.size ≤ kb) := Lib.hid (Nat.le_of_eq hkb)
  have HBW := Lib.hid h.le
  have HFI := Lib.hid (find_any HP1.out (by omega) k hk)
  have HRO := Lib.hid hrow
  have HN := Lib.hid hN
  have HLA := Lib.hid hl
  have HCC := Lib.hid hc
  have HNOW := Lib.hid h1
  have l1 : ¬ c < 0 := by omega
  have l2 : ¬ now < 0 := by omega
  have l3 : ¬ 549755813888 < now := by omega
  have HCF : Hid (C.wait ≤ 549755813888) := Lib.hid hp.cf.2.2.2.2.1
  clear h hp hs hc h0 h1 hrow hN hl hk
  go_enter Try.func8, Try.ntmps8
  go_wp2_with fail
  try rw [hW0]
  try rw [hkb]
  refine HG.out.mono ?_
  rintro e w' ⟨rfl, rfl⟩
  go_wp2_with fail
  try rw [hsb]
  try rw [hW1]
  refine HFI.out.mono ?_
  rintro e w2 ⟨g, R1, rfl, hp2, hfs, hf2⟩
  obtain ⟨q, hq, hq1, hq2, hq3⟩ := HRO.out g R1 hfs
  have HK2 := Lib.hid (hf2.kt.bk HK0.out)
  have HF2 := Lib.hid (HF1.out.trans hf2)
  have HP2 := Lib.hid hp2
  have HFS := Lib.hid hfs
  have HQ := Lib.hid hq
  have HQ1 := Lib.hid hq1
  have HQ2 := Lib.hid hq2
  have hla : R1.last = R.last := hfs.last.1
  obtain ⟨M2, hpb2⟩ := hp2
  have hr2 := hpb2.row g q hq
  have HPB2 := Lib.hid hpb2
  have HR2 := Lib.hid hr2
  obtain ⟨x0, x1, x2, x3⟩ := hr2.cells
  obtain ⟨y0, y1, y2, y3, y4, y5, y6, y7, y8, y9⟩ := hpb2.cells
  obtain ⟨ia, ic, hiv⟩ := hr2.iq.form
  have hlast : R1.last ≤ 1000000 := by rw [hla]; exact HLA.out
  have HLA1 := Lib.hid hlast
  have HLE := Lib.hid hla
  rcases List.eq_nil_or_concat q.idle with hi | ⟨l, sn, hi⟩
  · rw [hi] at hiv
    simp only [List.length_nil] at hiv
    rw [hiv] at x2
    by_cases hc : q.conns < C.lim
    · have HC := Lib.hid hc
      have HI := Lib.hid hi
      have l4 : (q.conns : Int) < (C.lim : Int) := by omega
      clear hq hq1 hq2 hq3 hfs hf2 hpb2 hr2 hiv hla hlast hc hi y0 y2 y3 y4 y5 y6 y7 y8 y9 x0 x3 HRO HFI
      go_wp2_with fail
      go_quiet (fail)
      have hbd : Below w2.heap.size w2 (w2.drewN nq) := below_drewN _ _ _
      have HOP := Lib.hid (open_any ((show PL B w2 a (N + 1) C R1 from ⟨M2, HPB2.out⟩).below hbd) (by have := HN.out; omega) HLA1.out HQ.out (by have := HQ2.out; omega) c HCC.out)
      have HKD : Hid (Bk (w2.drewN nq) kb 30 #[nV 0, nV 0, .bool false]) := Lib.hid (HK2.out.heap (hbd.block kb HK2.out.lt))
      have HFD := Lib.hid (HF2.out.trans (Fr.below hbd HPB2.out.le))
      clear hbd
      go_wp2_with fail
      refine HOP.out.mono ?_
      rintro e w3 ⟨rfl, hp3, hf3⟩
      have HA := Lib.hid (AskS.open_ (c := c) (now := now) HFS.out HQ.out HI.out HC.out)
      have hle := HLE.out
      rw [hle] at *
      have k3 := hf3.kt.bk HKD.out
      have K3 := Lib.hid k3
      have q0 := k3.cell 0
      have qf0 := k3.frozen 0
      have q1 := k3.cell 1
      have qf1 := k3.frozen 1
      have q2 := k3.cell 2
      have qf2 := k3.frozen 2
      simp at q0 q1 q2
      have HP3 := Lib.hid hp3
      have HF3 := Lib.hid (HFD.out.trans hf3)
      clear hp3 hf3 k3 hle
      go_wp2
      have k5 := ((K3.out.set_ 0 (nV c)).set_ 1 (nV ((R.last + 1 : Nat) : Int))).set_ 2 (.bool true)
      have e0 := k5.cell 0
      have e1 := k5.cell 1
      have e2 := k5.cell 2
      simp at e0 e1 e2
      refine bodyPost_ret (v := .tuple #[.agg #[nV c, nV ((R.last + 1 : Nat) : Int), .bool true], .bool true, nV (0)]) (by simp [results, Try.results8, go_sem, e0, e1, e2]) rfl ?_
      have hr := PL.cell3 HP3.out HF3.out HSZ.out HBW.out K3.out (nV c) (nV ((R.last + 1 : Nat) : Int)) (.bool true)
      exact ⟨_, _, rfl, hr.1.mono (by omega), hr.2, HA.out⟩
    · have hc' : C.lim ≤ q.conns := by omega
      have HC := Lib.hid hc'
      have HI := Lib.hid hi
      have l4 : ¬ (q.conns : Int) < (C.lim : Int) := by omega
      obtain ⟨till, htill⟩ : ∃ t, now + (C.wait : Int) = t := ⟨_, rfl⟩
      have hwk : IntKind.i64.wrap (now + (C.wait : Int)) = till := (IntWalk.i64_in _ (by have := HCF.out; have := HNOW.out; omega)).trans htill
      have HTI := Lib.hid htill
      have HJ := Lib.hid (fun W (hb : Below w2.heap.size w2 W) => join_row (HR2.out.below hb) c till)
      obtain ⟨er, her⟩ : ∃ er, (joinS C.most q.line c till).2 = er := ⟨_, rfl⟩
      simp only [her] at HJ
      have HER := Lib.hid her
      clear hq hq1 hq2 hq3 hfs hf2 hpb2 hr2 hiv hla hlast hc hc' hi y0 y2 y4 y5 y6 y7 y8 y9 x0 HRO HFI htill her
      go_wp2_with fail
      go_quiet (fail)
      have hbd : Below w2.heap.size w2 (w2.drewN nq) := below_drewN _ _ _
      obtain ⟨W3, hW3⟩ : ∃ W, w2.drewN nq = W := ⟨_, rfl⟩
      rw [hW3] at hbd ⊢
      have z1 : W3.cell? ⟨a, 1, none⟩ = some (nV (C.lim : Int)) := by rw [← hW3]; exact y1
      have z3 : W3.cell? ⟨a, 3, none⟩ = some (nV (C.wait : Int)) := by rw [← hW3]; exact y3
      have v3 : W3.cell? ⟨g, 3, none⟩ = some (ptr (M2 g).lb) := by rw [← hW3]; exact x3
      have HBD := Lib.hid hbd
      clear hbd hW3 y1 y3 x1 x2 x3
      go_wp2_with fail
      refine wp_region_held_drew (S := fun W => W.cell? ⟨a, 3, none⟩ = some (nV (C.wait : Int))) (by kernel_rfl) ?_ (fun hS => ?_)
      · exact z3
      have hbx0 : Below W3.heap.size W3 W3.drew := (Below.refl _ _).drew
      have hbx : Below w2.heap.size w2 W3.drew := HBD.out.trans (hbx0.mono HBD.out.size)
      refine tkY 0 ?_ rfl hS ?_ ?_
      rotate_left
      · intro wz hz
        have t3 := hz
        go_simp
        all_goals first | with_reducible rfl | omega
      try simp only [Act.put, pu]
      refine tkY 1 ?_ rfl hS ?_ ?_
      rotate_left
      · intro wz hz
        have t3 := hz
        go_simp
        all_goals first | with_reducible rfl | omega
      try simp only [Act.put, pu]
      refine tkY 2 ?_ rfl hS ?_ ?_
      rotate_left
      · intro wz hz
        have t3 := hz
        go_simp
        all_goals first | with_reducible rfl | omega
      try simp only [Act.put, pu]
      refine tkY 4 ?_ rfl hS ?_ ?_
      rotate_left
      · intro wz hz
        have t3 := hz
        go_simp
        all_goals first | with_reducible rfl | omega
      try simp only [Act.put, pu]
      refine tkY 5 ?_ rfl hS ?_ ?_
      rotate_left
      · intro wz hz
        have t3 := hz
        go_simp
        all_goals first | with_reducible rfl | omega
      try simp only [Act.put, pu]
      refine tkY 6 ?_ rfl hS ?_ ?_
      rotate_left
      · intro wz hz
        have t3 := hz
        go_simp
        all_goals first | with_reducible rfl | omega
      try simp only [Act.put, pu]
      refine tkY 7 ?_ rfl hS ?_ ?_
      rotate_left
      · intro wz hz
        have t3 := hz
        go_simp
        all_goals first | with_reducible rfl | omega
      try simp only [Act.put, pu]
      refine tkY 8 ?_ rfl hS ?_ ?_
      rotate_left
      · intro wz hz
        have t3 := hz
        go_simp
        all_goals first | with_reducible rfl | omega
      try simp only [Act.put, pu]
      refine tkY 9 ?_ rfl hS ?_ ?_
      rotate_left
      · intro wz hz
        have t3 := hz
        go_simp
        all_goals first | with_reducible rfl | omega
      try simp only [Act.put, pu]
      refine tkY 10 ?_ rfl hS ?_ ?_
      rotate_left
      · intro wz hz
        have t3 := hz
        go_simp
        all_goals first | with_reducible rfl | omega
      try simp only [Act.put, pu]
      refine wpAnyH_ready (rs := [3]) (by kernel_rfl) (by simp) (AllReadyH.cons rfl (fun K' hK' => ?_) AllReadyH.nil)
      go_simp
      refine hK'.out _ _ hS (fun hSn => ?_)
      clear hK' K' hS
      have hS := hSn
      clear hSn
      try simp only [Act.put, pu]
      refine wpAnyH_ready (rs := [11]) (by kernel_rfl) (by simp) (AllReadyH.cons rfl (fun K' hK' => ?_) AllReadyH.nil)
      go_simp
      refine (HJ.out _ hbx).mono ?_
      rintro e w4 ⟨rfl, ht4⟩
      obtain ⟨⟨M4, hp4⟩, hf4⟩ := (HPB2.out.below hbx).turn HQ.out ht4
      have hc4 := hp4.cells.2.2.2.1
      have HP4 := Lib.hid (show PL B w4 a (N + 1) C { R1 with rows := upd R1.rows g (some { q with line := (joinS C.most q.line c till).1 }) } from ⟨M4, hp4⟩)
      have HF4 := Lib.hid ((HF2.out.trans (Fr.below hbx HPB2.out.le)).trans hf4)
      have HK4 := Lib.hid (hf4.kt.bk (HK2.out.heap (hbx.block kb HK2.out.lt)))
      clear ht4 hp4 hf4
      refine hK'.out _ _ hc4 (fun hSn => ?_)
      clear hK' K' hS
      have hS := hSn
      clear hSn
      try simp only [Act.put, pu]
      refine tkY 12 ?_ rfl hS ?_ ?_
      rotate_left
      · intro wz hz
        go_simp
        all_goals first | with_reducible rfl | omega
      try simp only [Act.put, pu]
      refine wpAnyH_done (by kernel_rfl) ?_ _
      clear hS
      by_cases h00 : er = 0
      · subst h00
        have hp4' : PL B w4 a (N + 1) C { R1 with rows := upd R1.rows g (some { q with line := (joinS C.most q.line c till).1 }) } := HP4.out
        obtain ⟨M4, hp4⟩ := hp4'
        obtain ⟨_, _, _, _, _, _, _, _, u8, _⟩ := hp4.cells
        obtain ⟨w5, hrun, hm5, ht5⟩ := hp4.ms.put iK Try.underlying50 (by have := HN.out; unfold maxLen; omega) (keyI c HCC.out) (seV (g, 0, false))
        obtain ⟨hp5, hf5⟩ := hp4.putS (Nat.le_succ (N + 1)) c (some (g, 0, false)) hm5 ht5
        have hp3 : PL B w5 a (N + 2) C { R1 with rows := upd R1.rows g (some { q with line := (joinS C.most q.line c till).1 }), sm := upd R1.sm c (some (g, 0, false)) } := ⟨M4, hp5⟩
        have hf3 := HF4.out.trans hf5
        have HA := Lib.hid (AskS.wait (c := c) (now := now) HFS.out HQ.out HI.out HC.out (by rw [HTI.out]; exact HER.out))
        have HKE := Lib.hid (hf5.kt.bk HK4.out)
        have k3 := HKE.out
        have K3 := Lib.hid k3
        have q0 := k3.cell 0
        have qf0 := k3.frozen 0
        have q1 := k3.cell 1
        have qf1 := k3.frozen 1
        have q2 := k3.cell 2
        have qf2 := k3.frozen 2
        simp at q0 q1 q2
        have HP3 := Lib.hid hp3
        have HF3 := Lib.hid hf3
        clear hp4 hm5 ht5 hp5 hf5 hp3 hf3 k3
        go_wp2
        have k5 := ((K3.out.set_ 0 (nV 0)).set_ 1 (nV 0)).set_ 2 (.bool false)
        have e0 := k5.cell 0
        have e1 := k5.cell 1
        have e2 := k5.cell 2
        simp at e0 e1 e2
        refine bodyPost_ret (v := .tuple #[.agg #[nV 0, nV 0, .bool false], .bool false, nV (0)]) (by simp [results, Try.results8, go_sem, e0, e1, e2]) rfl ?_
        have hr := PL.cell3 HP3.out HF3.out HSZ.out HBW.out K3.out (nV 0) (nV 0) (.bool false)
        exact ⟨_, _, rfl, hr.1.mono (by omega), hr.2, by have h9 := HA.out; rw [HTI.out] at h9; exact h9⟩
      · have HA := Lib.hid (AskS.full (c := c) (now := now) HFS.out HQ.out HI.out HC.out (by rw [HTI.out]; exact HER.out) h00)
        have k3 := HK4.out
        have K3 := Lib.hid k3
        have q0 := k3.cell 0
        have qf0 := k3.frozen 0
        have q1 := k3.cell 1
        have qf1 := k3.frozen 1
        have q2 := k3.cell 2
        have qf2 := k3.frozen 2
        simp at q0 q1 q2
        have HP3 := Lib.hid HP4.out
        have HF3 := Lib.hid HF4.out
        clear k3
        go_wp2
        have k5 := ((K3.out.set_ 0 (nV 0)).set_ 1 (nV 0)).set_ 2 (.bool false)
        have e0 := k5.cell 0
        have e1 := k5.cell 1
        have e2 := k5.cell 2
        simp at e0 e1 e2
        refine bodyPost_ret (v := .tuple #[.agg #[nV 0, nV 0, .bool false], .bool false, nV (er)]) (by simp [results, Try.results8, go_sem, e0, e1, e2]) rfl ?_
        have hr := PL.cell3 HP3.out HF3.out HSZ.out HBW.out K3.out (nV 0) (nV 0) (.bool false)
        exact ⟨_, _, rfl, hr.1.mono (by omega), hr.2, by have h9 := HA.out; rw [HTI.out] at h9; exact h9⟩
  · obtain ⟨s, n⟩ := sn
    rw [List.concat_eq_append] at hi
    have hlen : q.idle.length = l.length + 1 := by rw [hi]; simp
    rw [hlen] at hiv
    rw [hiv] at x2
    have hat : q.idle[l.length]? = some (s, n) := by rw [hi]; simp
    have HW := Lib.hid (wake_any hr2 (by omega) l.length (s, n) hat)
    have hidle : q.idle.take l.length ++ q.idle.drop (l.length + 1) = l := by
      rw [hi, List.take_left' rfl, List.drop_of_length_le (by simp), List.append_nil]
    rw [hidle] at HW
    have HIN : Hid (I9 n) := Lib.hid (hq3 (s, n) (by rw [hi]; simp))
    have HI := Lib.hid hi
    have l4 : (0 : Int) < ((l.length + 1 : Nat) : Int) := by omega
    obtain ⟨m, hm⟩ : ∃ m, l.length = m := ⟨_, rfl⟩
    obtain ⟨m1, hm1⟩ : ∃ m1, m + 1 = m1 := ⟨_, rfl⟩
    have wk : IntKind.i64.wrap ((m1 : Int) - 1) = (m : Int) := by rw [show (m1 : Int) - 1 = (m : Int) by omega]; exact IntWalk.i64_in _ (by omega)
    rw [hm] at HW x2 l4
    rw [hm1] at x2 l4
    clear hq hq1 hq2 hq3 hfs hf2 hpb2 hr2 hiv hla hlast hi hat hidle hlen hm hm1 y0 y1 y2 y3 y4 y5 y6 y7 y8 y9 x0 x1 x3 HRO HFI
    go_wp2_with fail
    refine HW.out.mono ?_
    rintro e w3 ⟨rfl, ht3⟩
    obtain ⟨⟨M3, hp3⟩, hf3⟩ := HPB2.out.turn HQ.out ht3
    have HK3 := Lib.hid (hf3.kt.bk HK2.out)
    have HF3a := Lib.hid (HF2.out.trans hf3)
    have HLE2 := Lib.hid (lend_any (show PL B w3 a (N + 1) C { R1 with rows := upd R1.rows g (some { q with idle := l }) } from ⟨M3, hp3⟩) (by have := HN.out; omega) g c n HCC.out HIN.out false)
    clear ht3 hp3 hf3
    go_wp2_with fail
    refine HLE2.out.mono ?_
    rintro e w4 ⟨rfl, hp4, hf4⟩
    have HA := Lib.hid (AskS.wake (C := C) (c := c) (now := now) HFS.out HQ.out HI.out)
    have k3 := hf4.kt.bk HK3.out
    have K3 := Lib.hid k3
    have q0 := k3.cell 0
    have qf0 := k3.frozen 0
    have q1 := k3.cell 1
    have qf1 := k3.frozen 1
    have q2 := k3.cell 2
    have qf2 := k3.frozen 2
    simp at q0 q1 q2
    have HP3 := Lib.hid hp4
    have HF3 := Lib.hid (HF3a.out.trans hf4)
    clear hp4 hf4 k3
    go_wp2
    have k5 := ((K3.out.set_ 0 (nV c)).set_ 1 (nV n)).set_ 2 (.bool false)
    have e0 := k5.cell 0
    have e1 := k5.cell 1
    have e2 := k5.cell 2
    simp at e0 e1 e2
    refine bodyPost_ret (v := .tuple #[.agg #[nV c, nV n, .bool false], .bool true, nV (0)]) (by simp [results, Try.results8, go_sem, e0, e1, e2]) rfl ?_
    have hr := PL.cell3 HP3.out HF3.out HSZ.out HBW.out K3.out (nV c) (nV n) (.bool false)
    exact ⟨_, _, rfl, hr.1.mono (by omega), hr.2, HA.out⟩
end
end Go.Proofs.Ytochjbmighijgaa.PO
