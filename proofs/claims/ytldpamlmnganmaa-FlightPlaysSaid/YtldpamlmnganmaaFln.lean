/- Package flight: Leave. Conditions: how many asks there were. -/
import Derived.Test.YtldpamlmnganmaaFlm
namespace Go.Proofs.Ytldpamlmnganmaa.FL
open Go.ChangeShapes Go.WideShapes Go.ChangeAt Go.RowKit Go.Maps Go.ChangeMaps
open Go.Proofs.Ytldpamlmnganmaa.SL
set_option maxRecDepth 100000
set_option linter.unusedVariables false
set_option linter.unusedSimpArgs false

def LeaP (w : World) (a N : Nat) (C : Bs) (R : List Fl × List Int × Bool) (e : Ending) (w' : World) : Prop := ∃ v, e = .returned (.tuple #[v, .bool R.2.2]) ∧ OI w.heap.size w' v R.2.1 ∧ StP w a N C R.1 w'
theorem quit_find {S : List Fl} {k x : Ky} {c : Int} : findF (quitS S k c) x = if x = k then (findF S k).map (fun l => l.filter fun y => decide (y ≠ c)) else findF S x := findF_map (fun l => l.filter fun y => decide (y ≠ c))
/-- one who follows has left -/
theorem CB.quitted {w w' : World} {a N : Nat} {C : Bs} {S : List Fl} {k : Ky} {r : Fr} {c n : Int} (h : CB w a N C S) (hF : C.F k = some r) (hZ : C.Z c = some (r.g, n)) (hn : r.ld ≠ c)
    (hch : Chg (fun b => b = r.m ∨ b = C.sb) w w') (hmp : MV.MapV Try.prog 3 w' r.m r.last (MV.fI fun j => (lk (r.fl.filter fun p => decide (p.1 ≠ n)) j).map (.int .i64 ·)))
    (hms : MV.MapV Try.prog 3 w' C.sb N (MV.fI fun x => (goneZ C [c] x).map seV)) : StP w a N C (quitS S k c) w' := by
  have hfn := h.find_some hF
  have hna := h.not_a
  have hm := h.mo k r hF
  have hg := h.gfs hF
  have hrow := h.row k r hF
  have hcq := cl_quit h hF hZ hn
  have hone : ∀ l, (k, l) ∈ S → l = cl r := fun l hl => by
    have := findF_of h.wf.keys hl
    rw [hfn] at this
    injection this with this
    exact this.symm
  refine ⟨C.alt k (some ⟨r.ld, r.fl.filter (fun p => decide (p.1 ≠ n)), r.last, r.g, r.m⟩) (goneZ C [c]), h.alt (Nat.le_refl N) _ _ _ (hch.block _ h.bk.lt ?_) ((h.mf.keep (hch.block _ h.mf.lt ?_)).congr fun kl => fV_same hF (r' := ⟨r.ld, r.fl.filter (fun p => decide (p.1 ≠ n)), r.last, r.g, r.m⟩) rfl _ kl) hms (fun x s hx hs => ⟨hch.block _ (h.row x s hs).lt.1 ?_, hch.block _ (h.row x s hs).lt.2 ?_⟩) (fun s hs => ?_) (fun x p => quit_z h hF hZ hn x p) (fun x => ?_) (h.wf.mapped (fun l => l.filter fun y => decide (y ≠ c)) (fun l hl => ?_) (fun l hl y hy => h.wf.pos _ hl y (List.mem_filter.1 hy).1)) (fun s hs => ?_), hch.mono (fun b _ hb => ?_), fun b hb => ?_⟩
  · rintro (e | e)
    · exact hna (.inr (.inr ⟨k, r, hF, .inr e⟩))
    · exact hna (.inr (.inl e))
  · rintro (e | e)
    · exact hm.1 e.symm
    · exact h.fsb e
  · rintro (e | e)
    · exact h.gm hs hF e
    · exact (h.gfs hs).2 e
  · rintro (e | e)
    · exact hx (h.mm x k s r hs hF e)
    · exact (h.mo x s hs).2 e
  · injection hs with hs
    rw [← hs]
    refine ⟨hrow.bk.heap (hch.block _ hrow.lt.1 ?_), hmp, hrow.up.sublist List.filter_sublist, fun p hp => hrow.lo p (List.mem_filter.1 hp).1, hrow.la⟩
    rintro (e | e)
    · exact h.gm hF hF e
    · exact hg.2 e
  · rw [quit_find, hfn]
    show (if x = k then some (cl _) else findF S x) = if x = k then some ((cl r).filter fun y => decide (y ≠ c)) else findF S x
    rw [hcq]
  · rw [hone l hl]
    intro e
    have : r.ld ∈ (cl r).filter fun y => decide (y ≠ c) := List.mem_filter.2 ⟨by unfold cl; exact List.mem_cons_self, by simpa using hn⟩
    rw [e] at this
    cases this
  · injection hs with hs
    rw [← hs]
    exact ⟨hm.1, hm.2, fun x s hx hs2 e => hx (h.mm x k s r hs2 hF e.symm)⟩
  · rcases hb with e | e
    · exact .inr (.inr ⟨k, r, hF, .inr e⟩)
    · exact .inr (.inl e)
  · rcases Bs.alt_own hb with hb | ⟨s, hs, hb⟩
    · exact .inl hb
    · injection hs with hs
      rw [← hs] at hb
      exact .inl (.inr (.inr ⟨k, r, hF, hb⟩))
set_option maxHeartbeats 4000000 in
theorem leave_any {w : World} {a N : Nat} {C : Bs} {S : List Fl} (h : CB w a N C S) (hN : N ≤ 1000000) (c : Int) (hc : I9 c) :
    Calls Try.prog 16 #[ptr a, .int .i64 c] w (LeaP w a N C (leaveS S c)) := by
  have HSI := Lib.hid (sits_any h c hc)
  have H := Lib.hid h
  cases hZ : C.Z c with
  | none =>
    have e : leaveS S c = (S, [], false) := by unfold leaveS; rw [h.of_none hZ]
    rw [e]
    rw [hZ] at HSI
    obtain ⟨px, hpx⟩ : ∃ x : Option Addr, none = x := ⟨_, rfl⟩
    obtain ⟨pn, hpn⟩ : ∃ x : Int, 0 = x := ⟨_, rfl⟩
    have HSI : Hid (Calls Try.prog 33 #[ptr a, .int .i64 c] w (RdP (.tuple #[.agg #[.pointer px, .int .i64 pn], .bool false]) w)) := Lib.hid (by rw [← hpx, ← hpn]; exact HSI.out)
    clear h hc hZ e hpx hpn hN
    go_enter Try.func16, Try.ntmps16
    go_wp2_with fail
    refine HSI.out.mono ?_
    rintro e w2 ⟨rfl, hb2⟩
    have HB3 := Lib.hid (hb2.alloc hb2.size (.cells #[.pointer px, .int .i64 pn] 68))
    clear hb2
    go_wp2
    go_ret2
    exact ⟨_, rfl, OI.nil _ _, StP.same H.out HB3.out⟩
  | some p =>
    obtain ⟨k, r, hF, hg, hm, ho⟩ := h.of_some hZ
    obtain ⟨pg, n⟩ := p
    simp only at hg hm
    subst hg
    rw [hZ] at HSI
    have HSI : Hid (Calls Try.prog 33 #[ptr a, .int .i64 c] w (RdP (.tuple #[.agg #[ptr r.g, .int .i64 n], .bool true]) w)) := HSI
    have HF := Lib.hid hF
    have HN := Lib.hid hN
    by_cases hl : r.ld = c
    · have e : leaveS S c = (closeS S k, r.fl.map (·.2), true) := by
        unfold leaveS
        rw [ho]
        show (if r.ld = c then _ else _) = _
        rw [if_pos hl]
        rfl
      rw [e]
      clear h hc hZ hN hm ho hF e
      go_enter Try.func16, Try.ntmps16
      go_wp2_with fail
      refine HSI.out.mono ?_
      rintro e w2 ⟨rfl, hb2⟩
      obtain ⟨W3, hW3⟩ : ∃ W, w2.alloc (.cells #[ptr r.g, .int .i64 n] 68) = W := ⟨_, rfl⟩
      obtain ⟨sb, hsb⟩ : ∃ b, w2.heap.size = b := ⟨_, rfl⟩
      have hb3 : Below w.heap.size w W3 := by rw [← hW3]; exact hb2.alloc hb2.size _
      have ks : Bk W3 sb 68 #[ptr r.g, .int .i64 n] := by rw [← hW3, ← hsb]; exact Bk.new _ _ _
      have hsl : w.heap.size ≤ sb := by rw [← hsb]; exact hb2.size
      have h3 := H.out.below hb3
      have kg := (h3.row k r HF.out).bk
      have HB3 := Lib.hid hb3
      have s0 : W3.cell? ⟨sb, 0, none⟩ = some (ptr r.g) := ks.cell 0
      have s1 : W3.cell? ⟨sb, 1, none⟩ = some (.int .i64 n) := ks.cell 1
      have g4 : W3.cell? ⟨r.g, 4, none⟩ = some (.int .i64 r.ld) := kg.cell 4
      have HCL := Lib.hid (close_any h3 HN.out k r HF.out)
      rw [hl] at g4
      clear hb2 hb3 ks hsl h3 kg
      go_wp2_with fail
      try rw [hW3]
      try rw [hsb]
      go_wp2_with fail
      refine HCL.out.mono ?_
      rintro e w9 ⟨v, rfl, hoi, hst, _⟩
      obtain ⟨av, cv, hv⟩ := hoi.form
      obtain ⟨ln, hln⟩ : ∃ l, (r.fl.map (·.2)).length = l := ⟨_, rfl⟩
      rw [hln] at hv
      subst hv
      have HOI := Lib.hid (hoi.mono (by exact HB3.out.size) (B' := w.heap.size))
      have HST := Lib.hid (hst.pre HB3.out)
      clear hoi hst hln
      go_wp2
      go_ret2
      exact ⟨_, rfl, HOI.out, HST.out⟩
    · have e : leaveS S c = (quitS S k c, [], true) := by
        unfold leaveS
        rw [ho]
        show (if r.ld = c then _ else _) = _
        rw [if_neg hl]
      rw [e]
      have HZ := Lib.hid hZ
      have HC := Lib.hid hc
      have HLD := Lib.hid hl
      obtain ⟨on1, on2, on3⟩ := h.own_num hF hZ hl
      have HON := Lib.hid (And.intro on2 ((h.row k r hF).lo _ on1).2)
      clear h hc hZ hN hm ho hF e on1 on2 on3
      go_enter Try.func16, Try.ntmps16
      go_wp2_with fail
      refine HSI.out.mono ?_
      rintro e w2 ⟨rfl, hb2⟩
      obtain ⟨W3, hW3⟩ : ∃ W, w2.alloc (.cells #[ptr r.g, .int .i64 n] 68) = W := ⟨_, rfl⟩
      obtain ⟨sb, hsb⟩ : ∃ b, w2.heap.size = b := ⟨_, rfl⟩
      have hb3 : Below w.heap.size w W3 := by rw [← hW3]; exact hb2.alloc hb2.size _
      have ks : Bk W3 sb 68 #[ptr r.g, .int .i64 n] := by rw [← hW3, ← hsb]; exact Bk.new _ _ _
      have hsl : w.heap.size ≤ sb := by rw [← hsb]; exact hb2.size
      have h3 := H.out.below hb3
      have kg := (h3.row k r HF.out).bk
      have HB3 := Lib.hid hb3
      have s0 : W3.cell? ⟨sb, 0, none⟩ = some (ptr r.g) := ks.cell 0
      have s1 : W3.cell? ⟨sb, 1, none⟩ = some (.int .i64 n) := ks.cell 1
      have g4 : W3.cell? ⟨r.g, 4, none⟩ = some (.int .i64 r.ld) := kg.cell 4
      have hne : r.m ≠ C.sb := (h3.mo k r HF.out).2
      have hlast := (h3.row k r HF.out).la
      have hmpd : MV.MapV Try.prog 3 W3.drew r.m r.last (MV.fI fun j => (lk r.fl j).map (.int .i64 ·)) := (h3.row k r HF.out).mp.keep rfl
      obtain ⟨w4, hrun4, hm4, ht4⟩ := hmpd.drop iK Try.underlying78 (keyI n ⟨by have := HON.out.1; omega, by have h8 : n ≤ (r.last : Int) := HON.out.2; have := HN.out; omega⟩) 0
      have hg4 := ht4.grown
      have e4 : ∀ b, b < W3.heap.size → b ≠ r.m → w4.heap[b]? = W3.heap[b]? := fun b hb hne => hg4.block b hb (fun e => hne (by injection e))
      have ms4 : MV.MapV Try.prog 3 w4 C.sb N (gV C []) := (h3.ms.keep (e4 _ h3.ms.lt (fun e => hne e.symm))).congr gV_nil
      obtain ⟨w5, hrun5, hm5, ht5⟩ := ms4.drop iK Try.underlying61 (keyI c HC.out) 0
      have hg5 := ht5.grown
      have e5 : ∀ b, b < w4.heap.size → b ≠ C.sb → w5.heap[b]? = w4.heap[b]? := fun b hb hne => hg5.block b hb (fun e => hne (by injection e))
      have hch : Chg (fun b => b = r.m ∨ b = C.sb) W3 w5 := ((Chg.refl _ W3).drew.grown hg4 (fun k hk _ => by injection hk with hk; exact .inl hk.symm)).grown hg5 (fun k hk _ => by injection hk with hk; exact .inr hk.symm)
      have hst := (h3.quitted HF.out HZ.out HLD.out hch ((hm4.keep (e5 _ hm4.lt hne)).congr fun kl => by
        rw [MV.fI_put]
        congr 1
        funext j
        rw [lk_del]
        by_cases e : j = n
        · rw [if_pos e, if_pos e]; rfl
        · rw [if_neg e, if_neg e]) (hm5.congr fun kl => gV_del (fun x => by simp) kl)).pre hb3
      have HST := Lib.hid hst
      have kg4 : Bk w4 r.g 80 (fC k r) := kg.heap (e4 _ kg.lt (h3.gm HF.out HF.out))
      have g5 : W3.cell? ⟨r.g, 5, none⟩ = some (.map (some r.m)) := kg.cell 5
      have g5' : w4.cell? ⟨r.g, 5, none⟩ = some (.map (some r.m)) := kg4.cell 5
      have ks4 : Bk w4 sb 68 #[ptr r.g, .int .i64 n] := ks.heap (e4 _ ks.lt (fun e => by have := (H.out.row k r HF.out).lt.2; omega))
      have s04 : w4.cell? ⟨sb, 0, none⟩ = some (ptr r.g) := ks4.cell 0
      have s14 : w4.cell? ⟨sb, 1, none⟩ = some (.int .i64 n) := ks4.cell 1
      have d2 : w4.cell? ⟨a, 2, none⟩ = some (.map (some C.sb)) := (Bk.heap h3.bk (e4 _ h3.bk.lt (fun e => h3.not_a (.inr (.inr ⟨k, r, HF.out, .inr e⟩))))).cell 2
      clear hb2 hb3 ks hsl h3 kg hne hlast hmpd hm4 ht4 hg4 e4 ms4 hm5 ht5 hg5 e5 hch hst kg4 ks4
      go_wp2_with fail
      try rw [hW3]
      try rw [hsb]
      go_wp2_with fail
      refine wp_region_held_drew (S := (fun w' => w'.cell? ⟨r.g, 5, none⟩ = some (.map (some r.m)) ∧ w'.cell? ⟨sb, 0, none⟩ = some (ptr r.g) ∧ w'.cell? ⟨sb, 1, none⟩ = some (.int .i64 n))) (by kernel_rfl) ?_ (fun hS => ?_)
      · exact ⟨g5, s0, s1⟩
      refine tkY 0 ?_ rfl hS ?_ ?_
      rotate_left
      · intro wz hz
        obtain ⟨z5, z6, z7⟩ := hz
        go_simp
        all_goals first | with_reducible rfl | omega
      try simp only [Act.put, pu]
      refine tkY 1 ?_ rfl hS ?_ ?_
      rotate_left
      · intro wz hz
        obtain ⟨z5, z6, z7⟩ := hz
        go_simp
        all_goals first | with_reducible rfl | omega
      try simp only [Act.put, pu]
      refine tkY 2 ?_ rfl hS ?_ ?_
      rotate_left
      · intro wz hz
        obtain ⟨z5, z6, z7⟩ := hz
        go_simp
        all_goals first | with_reducible rfl | omega
      try simp only [Act.put, pu]
      refine tkY 3 ?_ rfl hS ?_ ?_
      rotate_left
      · intro wz hz
        obtain ⟨z5, z6, z7⟩ := hz
        go_simp
        all_goals first | with_reducible rfl | omega
      try simp only [Act.put, pu]
      refine tkY 4 ?_ rfl hS ?_ ?_
      rotate_left
      · intro wz hz
        obtain ⟨z5, z6, z7⟩ := hz
        go_simp
        all_goals first | with_reducible rfl | omega
      try simp only [Act.put, pu]
      refine tkY 5 ?_ rfl hS ?_ ?_
      rotate_left
      · intro wz hz
        obtain ⟨z5, z6, z7⟩ := hz
        go_simp
        all_goals first | with_reducible rfl | omega
      try simp only [Act.put, pu]
      refine tkY 6 ?_ rfl hS ?_ ?_
      rotate_left
      · intro wz hz
        obtain ⟨z5, z6, z7⟩ := hz
        go_simp
        all_goals first | with_reducible rfl | omega
      try simp only [Act.put, pu]
      refine wpAnyH_ready (rs := [7]) (by kernel_rfl) (by simp) (AllReadyH.cons rfl (fun K' hK' => ?_) AllReadyH.nil)
      go_simp

      refine hK'.out _ _ ?_ (fun hSn => ?_)
      · exact ⟨g5', s04, s14⟩
      clear hK' K' hS
      have hS := hSn
      clear hSn
      try simp only [Act.put, pu]
      refine wpAnyH_done (by kernel_rfl) ?_ _
      clear hS
      go_wp2
      go_ret2
      exact ⟨_, rfl, OI.nil _ _, HST.out⟩
end Go.Proofs.Ytldpamlmnganmaa.FL
