/- Package flight: close. Conditions: how many asks there were. -/
import Derived.Test.YtldpamlmnganmaaFli
namespace Go.Proofs.Ytldpamlmnganmaa.FL
open Go.ChangeShapes Go.WideShapes Go.ChangeAt Go.RowKit Go.Maps Go.ChangeMaps
open Go.Proofs.Ytldpamlmnganmaa.SL
set_option maxRecDepth 100000
set_option linter.unusedVariables false
set_option linter.unusedSimpArgs false

/-- the seats without these -/
abbrev gV (C : Bs) (d : List Int) : Lit → Option Value := MV.fI fun c => (goneZ C d c).map seV
open Classical in
theorem gV_del {C : Bs} {d e : List Int} {c : Int} (h : ∀ x, x ∈ e ↔ x ∈ d ∨ x = c) (kl : Lit) : (if kl = .int .i64 c then none else gV C d kl) = gV C e kl := by
  unfold gV
  rw [MV.fI_put]
  congr 1
  funext x
  unfold goneZ
  by_cases e1 : x = c
  · rw [if_pos e1, if_pos ((h x).2 (.inr e1))]; rfl
  · rw [if_neg e1]
    by_cases e2 : x ∈ d
    · rw [if_pos e2, if_pos ((h x).2 (.inl e2))]
    · rw [if_neg e2, if_neg (fun e3 => by rcases (h x).1 e3 with e4 | e4; exact e2 e4; exact e1 e4)]
theorem gV_nil {C : Bs} (kl : Lit) : sV C kl = gV C [] kl := rfl
theorem ki_map {w w' : World} {b n : Nat} {P : Program} {K : TypeId} {f : Lit → Option Value} (h : MV.MapV P K w b n f) (hc : Chg (fun x => x = b) w w') : Ki w w' := fun x cs fr hx => hc.block x (Array.getElem?_eq_some_iff.1 hx).1 fun e => by
  obtain ⟨es, clock, hb⟩ := h.obj
  rw [e, hb] at hx
  cases hx
def CloP (w : World) (a N : Nat) (C : Bs) (S : List Fl) (d : List Int) (g : Nat) (e : Ending) (w' : World) : Prop := ∃ v, e = .returned v ∧ OI w.heap.size w' v d ∧ StP w a N C S w' ∧ w'.heap[g]? = w.heap[g]?
set_option maxHeartbeats 4000000 in
theorem close_any {w : World} {a N : Nat} {C : Bs} {S : List Fl} (h : CB w a N C S) (hN : N ≤ 1000000) (k : Ky) (r : Fr) (hF : C.F k = some r) :
    Calls Try.prog 31 #[ptr a, ptr r.g] w (CloP w a N C (closeS S k) (r.fl.map (·.2)) r.g) := by
  have HL := Lib.hid (line_any (h.row k r hF) hN)
  have H := Lib.hid h
  have HF := Lib.hid hF
  have HN := Lib.hid hN
  clear h hN hF
  go_enter Try.func31, Try.ntmps31
  go_wp2_with fail
  refine HL.out.mono ?_
  rintro e w2 ⟨v, rfl, hoi, hb2⟩
  have h := H.out
  have h2 := h.below hb2
  have hk := h.fit HF.out
  have hrow := h2.row k r HF.out
  have hpos := h.pos HF.out
  obtain ⟨w3, hrun3, hm3, ht3⟩ := (h2.mf.keep (w' := w2.drew) rfl).drop kK Try.underlying60 (keyK k hk) 0
  have hg3 := ht3.grown
  have hfs := h.fsb
  have e3 : ∀ b, b < w2.heap.size → b ≠ C.fb → w3.heap[b]? = w2.heap[b]? := fun b hb hne => hg3.block b hb (fun e => hne (by injection e))
  have ms3 : MV.MapV Try.prog 3 w3.drew C.sb N (gV C []) := (h2.ms.keep (e3 _ h2.ms.lt (fun e => hfs e.symm))).congr gV_nil
  have hld := hpos r.ld (by unfold cl; exact List.mem_cons_self)
  obtain ⟨w4, hrun4, hm4, ht4⟩ := ms3.drop iK Try.underlying61 (keyI r.ld ⟨by omega, hld.2⟩) 0
  have hg4 := ht4.grown
  have e4 : ∀ b, b < w3.heap.size → b ≠ C.sb → w4.heap[b]? = w3.heap[b]? := fun b hb hne => hg4.block b hb (fun e => hne (by injection e))
  have hS3 : w2.heap.size ≤ w3.heap.size := hg3.size
  have e34 : ∀ b, b < w2.heap.size → b ≠ C.fb → b ≠ C.sb → w4.heap[b]? = w2.heap[b]? := fun b hb h1 h2 => (e4 b (Nat.lt_of_lt_of_le hb hS3) h2).trans (e3 b hb h1)
  have hm4' : MV.MapV Try.prog 3 w4 C.sb N (gV C (r.ld :: (r.fl.map (·.2)).take 0)) := hm4.congr fun kl => gV_del (fun x => by simp) kl
  have hc4 : Chg (fun b => b = C.fb ∨ b = C.sb) w w4 := ((Chg.of_below hb2).drew.grown hg3 (fun k hk _ => by injection hk with hk; exact .inl hk.symm)).drew.grown hg4 (fun k hk _ => by injection hk with hk; exact .inr hk.symm)
  have hna := h.not_a
  have ha4 : Bk w4 a 63 (bC a C) := h2.bk.heap (e34 _ h2.bk.lt (fun e => hna (.inl e)) (fun e => hna (.inr (.inl e))))
  have hgf := h.gfs HF.out
  have kg2 := hrow.bk
  have kg3 : Bk w3 r.g 80 (fC k r) := kg2.heap (e3 _ kg2.lt hgf.1)
  have kg4 : Bk w4 r.g 80 (fC k r) := kg2.heap (e34 _ kg2.lt hgf.1 hgf.2)
  have hi2 : IS w2 v (r.fl.map (·.2)) := hoi.is
  have hi3 : IS w3 v (r.fl.map (·.2)) := (show IS w2.drew v _ from hi2).ki (ki_map (h2.mf.keep (w' := w2.drew) rfl) (mapTurned_chg ht3))
  have hi4 : IS w4 v (r.fl.map (·.2)) := (show IS w3.drew v _ from hi3).ki (ki_map ms3 (mapTurned_chg ht4))
  have ho4 : OI w.heap.size w4 v (r.fl.map (·.2)) := hoi.keep fun g hg => by
    have := World.ownsRow.lt hoi g hg
    have := h.mf.lt
    have := h.ms.lt
    exact e34 g (by omega) (by omega) (by omega)
  have a1 : w2.cell? ⟨a, 1, none⟩ = some (.map (some C.fb)) := h2.bk.cell 1
  have ha3 : Bk w3 a 63 (bC a C) := h2.bk.heap (e3 _ h2.bk.lt (fun e => hna (.inl e)))
  have b1 : w3.cell? ⟨a, 1, none⟩ = some (.map (some C.fb)) := ha3.cell 1
  have b2 : w3.cell? ⟨a, 2, none⟩ = some (.map (some C.sb)) := ha3.cell 2
  have c2 : w4.cell? ⟨a, 2, none⟩ = some (.map (some C.sb)) := ha4.cell 2
  obtain ⟨db, ro, fm, no⟩ := k
  have p0 : w2.cell? ⟨r.g, 0, none⟩ = some (.string db) := kg2.cell 0
  have p1 : w2.cell? ⟨r.g, 1, none⟩ = some (.string ro) := kg2.cell 1
  have p2 : w2.cell? ⟨r.g, 2, none⟩ = some (.int .i64 fm) := kg2.cell 2
  have p3 : w2.cell? ⟨r.g, 3, none⟩ = some (.string no) := kg2.cell 3
  have q0 : w3.cell? ⟨r.g, 0, none⟩ = some (.string db) := kg3.cell 0
  have q1 : w3.cell? ⟨r.g, 1, none⟩ = some (.string ro) := kg3.cell 1
  have q2 : w3.cell? ⟨r.g, 2, none⟩ = some (.int .i64 fm) := kg3.cell 2
  have q3 : w3.cell? ⟨r.g, 3, none⟩ = some (.string no) := kg3.cell 3
  have q4 : w3.cell? ⟨r.g, 4, none⟩ = some (.int .i64 r.ld) := kg3.cell 4
  have q5 : w4.cell? ⟨r.g, 4, none⟩ = some (.int .i64 r.ld) := kg4.cell 4
  have HM4 := Lib.hid hm4'
  have HC4 := Lib.hid hc4
  have HA4 := Lib.hid ha4
  have HI4 := Lib.hid hi4
  have HO4 := Lib.hid ho4
  have HMF : Hid (MV.MapV Try.prog 30 w4 C.fb N (fV (C.alt (db, ro, fm, no) none (goneZ C (cl r))))) := Lib.hid ((hm3.keep (e4 _ hm3.lt hfs)).congr fun kl => fV_alt hk none _ kl)
  have HPOS := Lib.hid hpos
  obtain ⟨n, hn⟩ : ∃ n, (r.fl.map (·.2)).length = n := ⟨_, rfl⟩
  obtain ⟨av, cv, hv⟩ := hi2.form
  rw [hn] at hv
  subst hv
  have HNN := Lib.hid hn
  clear h h2 hk hrow hpos hg3 hfs e3 ms3 hld hg4 e4 hS3 e34 hm4' hc4 hna ha4 hgf kg2 kg3 kg4 hi2 hi3 hi4 ho4 ha3 hm3 ht3 hm4 ht4 hoi hb2 HL hn
  go_wp2_with fail
  refine wp_region_held_drew (S := (fun w' => w'.cell? ⟨a, 1, none⟩ = some (.map (some C.fb)) ∧ w'.cell? ⟨r.g, 0, none⟩ = some (.string db) ∧ w'.cell? ⟨r.g, 1, none⟩ = some (.string ro) ∧ w'.cell? ⟨r.g, 2, none⟩ = some (.int .i64 fm) ∧ w'.cell? ⟨r.g, 3, none⟩ = some (.string no))) (by kernel_rfl) ?_ (fun hS => ?_)
  · exact ⟨a1, p0, p1, p2, p3⟩
  refine tkY 0 ?_ rfl hS ?_ ?_
  rotate_left
  · intro wz hz
    obtain ⟨z1, z2, z3, z4, z5⟩ := hz
    go_simp
    all_goals first | with_reducible rfl | omega
  try simp only [Act.put, pu]
  refine tkY 1 ?_ rfl hS ?_ ?_
  rotate_left
  · intro wz hz
    obtain ⟨z1, z2, z3, z4, z5⟩ := hz
    go_simp
    all_goals first | with_reducible rfl | omega
  try simp only [Act.put, pu]
  refine tkY 2 ?_ rfl hS ?_ ?_
  rotate_left
  · intro wz hz
    obtain ⟨z1, z2, z3, z4, z5⟩ := hz
    go_simp
    all_goals first | with_reducible rfl | omega
  try simp only [Act.put, pu]
  refine tkY 3 ?_ rfl hS ?_ ?_
  rotate_left
  · intro wz hz
    obtain ⟨z1, z2, z3, z4, z5⟩ := hz
    go_simp
    all_goals first | with_reducible rfl | omega
  try simp only [Act.put, pu]
  refine tkY 4 ?_ rfl hS ?_ ?_
  rotate_left
  · intro wz hz
    obtain ⟨z1, z2, z3, z4, z5⟩ := hz
    go_simp
    all_goals first | with_reducible rfl | omega
  try simp only [Act.put, pu]
  refine tkY 5 ?_ rfl hS ?_ ?_
  rotate_left
  · intro wz hz
    obtain ⟨z1, z2, z3, z4, z5⟩ := hz
    go_simp
    all_goals first | with_reducible rfl | omega
  try simp only [Act.put, pu]
  refine tkY 6 ?_ rfl hS ?_ ?_
  rotate_left
  · intro wz hz
    obtain ⟨z1, z2, z3, z4, z5⟩ := hz
    go_simp
    all_goals first | with_reducible rfl | omega
  try simp only [Act.put, pu]
  refine tkY 7 ?_ rfl hS ?_ ?_
  rotate_left
  · intro wz hz
    obtain ⟨z1, z2, z3, z4, z5⟩ := hz
    go_simp
    all_goals first | with_reducible rfl | omega
  try simp only [Act.put, pu]
  refine wpAnyH_ready (rs := [8]) (by kernel_rfl) (by simp) (AllReadyH.cons rfl (fun K' hK' => ?_) AllReadyH.nil)
  go_simp

  refine hK'.out _ _ ?_ (fun hSn => ?_)
  · exact ⟨b1, q0, q1, q2, q3⟩
  clear hK' K' hS
  have hS := hSn
  clear hSn
  try simp only [Act.put, pu]
  refine wpAnyH_done (by kernel_rfl) ?_ _
  clear hS
  go_wp2_with fail
  refine wp_region_held_drew (S := (fun w' => w'.cell? ⟨a, 2, none⟩ = some (.map (some C.sb)) ∧ w'.cell? ⟨r.g, 4, none⟩ = some (.int .i64 r.ld))) (by kernel_rfl) ?_ (fun hS => ?_)
  · exact ⟨b2, q4⟩
  refine tkY 0 ?_ rfl hS ?_ ?_
  rotate_left
  · intro wz hz
    obtain ⟨z1, z2⟩ := hz
    go_simp
    all_goals first | with_reducible rfl | omega
  try simp only [Act.put, pu]
  refine tkY 1 ?_ rfl hS ?_ ?_
  rotate_left
  · intro wz hz
    obtain ⟨z1, z2⟩ := hz
    go_simp
    all_goals first | with_reducible rfl | omega
  try simp only [Act.put, pu]
  refine tkY 2 ?_ rfl hS ?_ ?_
  rotate_left
  · intro wz hz
    obtain ⟨z1, z2⟩ := hz
    go_simp
    all_goals first | with_reducible rfl | omega
  try simp only [Act.put, pu]
  refine tkY 3 ?_ rfl hS ?_ ?_
  rotate_left
  · intro wz hz
    obtain ⟨z1, z2⟩ := hz
    go_simp
    all_goals first | with_reducible rfl | omega
  try simp only [Act.put, pu]
  refine tkY 4 ?_ rfl hS ?_ ?_
  rotate_left
  · intro wz hz
    obtain ⟨z1, z2⟩ := hz
    go_simp
    all_goals first | with_reducible rfl | omega
  try simp only [Act.put, pu]
  refine tkY 5 ?_ rfl hS ?_ ?_
  rotate_left
  · intro wz hz
    obtain ⟨z1, z2⟩ := hz
    go_simp
    all_goals first | with_reducible rfl | omega
  try simp only [Act.put, pu]
  refine tkY 6 ?_ rfl hS ?_ ?_
  rotate_left
  · intro wz hz
    obtain ⟨z1, z2⟩ := hz
    go_simp
    all_goals first | with_reducible rfl | omega
  try simp only [Act.put, pu]
  refine tkY 7 ?_ rfl hS ?_ ?_
  rotate_left
  · intro wz hz
    obtain ⟨z1, z2⟩ := hz
    go_simp
    all_goals first | with_reducible rfl | omega
  try simp only [Act.put, pu]
  refine wpAnyH_ready (rs := [8]) (by kernel_rfl) (by simp) (AllReadyH.cons rfl (fun K' hK' => ?_) AllReadyH.nil)
  go_simp

  refine hK'.out _ _ ?_ (fun hSn => ?_)
  · exact ⟨c2, q5⟩
  clear hK' K' hS
  have hS := hSn
  clear hSn
  try simp only [Act.put, pu]
  refine wpAnyH_done (by kernel_rfl) ?_ _
  clear hS
  clear a1 b1 b2 p0 p1 p2 p3 q0 q1 q2 q3 q4 q5 c2 hrun3 hrun4
  go_wp2
  go_loopg [28] n (fun gk u28 wx => ∃ j : Nat, u28 = .int .i64 (j : Int) ∧ j + gk = n ∧ MV.MapV Try.prog 3 wx C.sb N (gV C (r.ld :: (r.fl.map (·.2)).take j)) ∧ Chg (fun b => b = C.sb) w4 wx)
  case atStart => exact ⟨0, rfl, by omega, HM4.out, Chg.refl _ _⟩
  case round =>
    obtain ⟨j, rfl, hj, hmp, hch⟩ := hrel
    have HMP := Lib.hid hmp
    have HCH := Lib.hid hch
    cases gk with
    | zero =>
      have l1 : ¬ ((j : Int) < (n : Int)) := by omega
      have hall : (r.fl.map (·.2)).take j = r.fl.map (·.2) := List.take_of_length_le (by rw [HNN.out]; omega)
      rw [hall] at hmp
      have h := H.out
      have hc9 : Chg (fun b => b = C.fb ∨ b = C.sb) w wr := HC4.out.trans (hch.mono fun b _ e => .inr e)
      have hna := h.not_a
      have hfin : StP w a N C (closeS S (db, ro, fm, no)) wr := by
        refine ⟨C.alt (db, ro, fm, no) none (goneZ C (cl r)), h.alt (Nat.le_refl N) _ _ _ (hc9.block _ h.bk.lt ?_) ?_ hmp (fun x s hx hs => ⟨hc9.block _ (h.row x s hs).lt.1 ?_, hc9.block _ (h.row x s hs).lt.2 ?_⟩) (fun s hs => (by cases hs)) (fun x p => gone_z h HF.out x p) (fun x => ?_) h.wf.closed (fun s hs => (by cases hs)), hc9.mono (fun b _ hb => ?_), fun b hb => ?_⟩
        · rintro (e | e)
          · exact hna (.inl e)
          · exact hna (.inr (.inl e))
        · exact HMF.out.keep (hch.block _ HMF.out.lt h.fsb)
        · rintro (e | e)
          · exact (h.gfs hs).1 e
          · exact (h.gfs hs).2 e
        · rintro (e | e)
          · exact (h.mo x s hs).1 e
          · exact (h.mo x s hs).2 e
        · rw [findF_close]; rfl
        · rcases hb with e | e
          · exact .inl e
          · exact .inr (.inl e)
        · rcases Bs.alt_own hb with hb | ⟨s, hs, hb⟩
          · exact .inl hb
          · cases hs
      have hoi : OI w.heap.size wr (.slice av n cv) (r.fl.map (·.2)) := HO4.out.keep fun g hg => hch.block g (World.ownsRow.lt HO4.out g hg).2 (by
        have := (World.ownsRow.lt HO4.out g hg).1
        have := h.ms.lt
        omega)
      have hsame : wr.heap[r.g]? = w.heap[r.g]? := hc9.block _ (h.row _ r HF.out).lt.1 (by
        rintro (e | e)
        · exact (h.gfs HF.out).1 e
        · exact (h.gfs HF.out).2 e)
      have HFIN := Lib.hid (And.intro hoi (And.intro hfin hsame))
      clear h hc9 hna hfin hsame hoi hmp hch hj hall
      go_wp2
      go_ret
      exact ⟨_, rfl, HFIN.out.1, HFIN.out.2.1, HFIN.out.2.2⟩
    | succ gk1 =>
      have hlt : j < (r.fl.map (·.2)).length := by rw [HNN.out]; omega
      have hi := HI4.out.ki (ki_map HM4.out hch)
      obtain ⟨b, off, cp, he, hcp, hx⟩ := hi.at_ (by omega)
      rw [HNN.out] at he
      injection he with e1 _ e2
      subst e1 e2
      obtain ⟨c, hc⟩ : ∃ c, (r.fl.map (·.2))[j] = c := ⟨_, rfl⟩
      have hjc : (r.fl.map (·.2))[j]? = some c := by rw [List.getElem?_eq_getElem hlt, hc]
      have x0 := hx j c hjc
      have hmem : c ∈ cl r := by unfold cl; exact List.mem_cons_of_mem _ (List.mem_of_getElem? hjc)
      have hp := HPOS.out c hmem
      obtain ⟨w9, hrun9, hm9, ht9⟩ := hmp.drop iK Try.underlying61 (keyI c ⟨by omega, hp.2⟩) 0
      have hna := H.out.not_a
      have a2 : wr.cell? ⟨a, 2, none⟩ = some (.map (some C.sb)) := (Bk.heap HA4.out (hch.block _ HA4.out.lt (fun e => hna (.inr (.inl e))))).cell 2
      obtain ⟨j1, hj1⟩ : ∃ j1, j + 1 = j1 := ⟨_, rfl⟩
      have HM9 : Hid (MV.MapV Try.prog 3 w9 C.sb N (gV C (r.ld :: (r.fl.map (·.2)).take j1))) := Lib.hid (hm9.congr fun kl => gV_del (fun x => by
        rw [← hj1, List.take_add_one, hjc]
        simp only [List.mem_cons, List.mem_append, Option.toList_some, List.not_mem_nil, or_false, or_assoc]) kl)
      have HC9 : Hid (Chg (fun b => b = C.sb) w4 w9) := Lib.hid (hch.grown ht9.grown (fun k hk _ => by injection hk with hk; exact hk.symm))
      have l0 : (0 : Int) ≤ (j : Int) := by omega
      have l1 : (j : Int) < (n : Int) := by omega
      have hnl : n ≤ 1099511627776 := by
        have := (H.out.row _ _ HF.out).len
        have := HNN.out
        have := HN.out
        rw [List.length_map] at *
        omega
      have wk : IntKind.i64.wrap ((j : Int) + 1) = (j1 : Int) := by rw [show (j : Int) + 1 = (j1 : Int) by omega]; exact IntWalk.i64_in _ (by omega)
      have HJ : Hid (j1 + gk1 = n) := Lib.hid (by omega)
      clear hmp hch hj hlt hi hx hjc hmem hp hm9 ht9 hna hc hj1 hnl hcp
      go_wp2
      go_roundg gk1
      case measure => exact Nat.lt_succ_self _
      case rel => exact ⟨j1, rfl, HJ.out, HM9.out, HC9.out⟩
end Go.Proofs.Ytldpamlmnganmaa.FL
