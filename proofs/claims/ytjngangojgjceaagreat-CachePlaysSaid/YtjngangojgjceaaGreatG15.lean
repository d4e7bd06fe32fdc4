/- Package expiry: Due. Conditions: how long keys are, how many.
   Package expiry: Copy; a queue that is not there. Conditions: how many.
   A queue of package expiry as plain items, beside what it told. Conditions: how long keys are, how many sets there were.
   Layer 11's known is true. No condition.
   ExpiryNil: its walk. No condition.
   ExpirySame: its argument opened; its walk. No condition.
   Layer 11's lists of operations opened; a queue's copy beside it; two queues side by side. No condition.
   What is due and what stays, as plain lists: how many, each once. No program.
   The document's queue for expiry: items that the call owns; At, Next, Keys, Drop. Conditions: how many.
   The document's queue for expiry: Drop, Due. Conditions: how many.
   The document's queue for expiry: Set. Conditions: how many; by rising deadlines.
   Two queues side by side, the code's and the document's. No condition.
   The cache's state as plain data: what is put, used, dropped, ticked. No program; no condition. -/
import Derived.Test.YtjngangojgjceaaGreatG14
import Derived.Shelf.SlMaps.Clone
import Derived.Test.YtjngangojgjceaaGreatG12
import Derived.Test.YtjngangojgjceaaGreatG1
set_option linter.unusedSimpArgs false
set_option linter.unusedVariables false
namespace Go.Proofs.YtjngangojgjceaaGreat.EX
open Go.ChangeShapes Go.WideShapes Go.ChangeAt Go.RowKit Go.Maps Go.ChangeMaps Classical
open Go.Proofs.YtjngangojgjceaaGreat.SL Go.Proofs.YtjngangojgjceaaGreat.RW
set_option maxRecDepth 100000
set_option linter.unusedVariables false
set_option linter.unusedSimpArgs false

theorem MapF.congr {w : World} {b n s : Nat} {f f' : ByteArray → Option Et} (h : MapF w b n f s) (hf : ∀ k, f k = f' k) : MapF w b n f' s := by
  have : f = f' := funext hf
  subst this; exact h
/-- a list of texts is none of a queue's blocks -/
theorem QT.offT {B B' : Nat} {w : World} {g n : Nat} {x : Qx} {u : Value} {d : List ByteArray} (h : QT B w g n x) (hu : OT B' w u d) : ∀ q, u.ownBlock = some q → ¬ x.own g q := by
  rintro q hq (rfl | rfl | rfl | hx)
  · exact OT.offB hu h.bk (by decide) _ hq rfl
  · obtain ⟨D, ⟨es, clock, hb, _⟩, _⟩ := h.mp
    rcases hu.2 with ⟨rfl, _⟩ | ⟨g', cap, cur, rfl, _, hg, _⟩
    · cases hq
    · have hq2 : g' = x.m := (by injection hq)
      rw [hq2, hb] at hg
      cases hg
  · exact OT.offB hu h.ko (by decide) _ hq rfl
  · exact h.eq.offT hu q hx hq
theorem due_keys {n now : Int} {L : List Et} (h : Srt n L) : (keysT (leL now L)).Nodup ∧ (keysT (leL now L)).length + (gtL now L).length = L.length ∧ (∀ y, y ∈ keysT (leL now L) → (fnd y L).isSome = true) ∧ ∀ y, (if y ∈ keysT (leL now L) then none else fnd y L) = fnd y (gtL now L) := by
  have hs := h.split now
  have hu := h.uq
  have e1 : L.map (·.1) = keysT (leL now L) ++ keysT (gtL now L) := by
    have := congrArg (List.map (fun e : Et => e.1)) hs
    rw [List.map_append] at this
    exact this
  rw [e1] at hu
  obtain ⟨u1, u2, u3⟩ := List.nodup_append.1 hu
  refine ⟨u1, ?_, fun y hy => ?_, fun y => ?_⟩
  · have := congrArg List.length hs
    rw [List.length_append] at this
    unfold keysT
    rw [List.length_map]; omega
  · obtain ⟨e, he, hk⟩ := List.mem_map.1 hy
    cases hf : fnd y L with
    | some _ => rfl
    | none => exact absurd hk (fnd_none.1 hf e (List.mem_filter.1 he).1)
  · have hfa : fnd y L = (fnd y (leL now L)).or (fnd y (gtL now L)) := by rw [← fnd_app, ← hs]
    by_cases hy : y ∈ keysT (leL now L)
    · rw [if_pos hy]
      symm
      rw [fnd_none]
      intro e he hk
      exact u3 y hy y (List.mem_map.2 ⟨e, he, hk⟩) rfl
    · rw [if_neg hy, hfa]
      have : fnd y (leL now L) = none := fnd_none.2 fun e he hk => hy (List.mem_map.2 ⟨e, he, hk⟩)
      rw [this]; rfl
def DueQ (B g n : Nat) (x : Qx) (now : Int) (w : World) (e : Ending) (w' : World) : Prop :=
  ∃ u, e = .returned u ∧ OT w.heap.size w' u (keysT (leL now x.L)) ∧ StepQ B g n x (gtI now (x.L.map it)) w w'
set_option maxHeartbeats 8000000 in
theorem due_any (w : World) (B g n : Nat) (x : Qx) (h : QT B w g n x) (now : Int) (hk : ∀ e ∈ x.L, e.1.size ≤ 281474976710656) (hn : n ≤ 500) (hB : B ≤ w.heap.size) :
    Calls Tryz.prog 52 #[ptr g, .int .i64 now] w (DueQ B g n x now w) := by
  obtain ⟨c0, _, _, _, _⟩ := h.cells
  have HT := Lib.hid (take_any w B g x.ob x.v x.L n now (qC g n x) h.bk rfl h.ko h.eq h.sr (by have := h.le; omega) hB)
  have HH := Lib.hid h
  have HDK := Lib.hid (due_keys (now := now) h.sr)
  have HKL : Hid (∀ y ∈ keysT (leL now x.L), y.size ≤ 281474976710656) := Lib.hid fun y hy => by
    obtain ⟨e, he, hk2⟩ := List.mem_map.1 hy
    rw [← hk2]; exact hk e (List.mem_filter.1 he).1
  obtain ⟨D, hD⟩ : ∃ D, keysT (leL now x.L) = D := ⟨_, rfl⟩
  have HN := Lib.hid hn
  have HB0 := Lib.hid hB
  unfold DueQ
  rw [hD] at HT HDK HKL ⊢
  clear h hk hn hB hD
  go_enter Tryz.func52, Tryz.ntmps52
  go_wp2_with fail
  refine (given_yes _ g c0).mono ?_
  rintro e w' ⟨rfl, rfl⟩
  go_wp2_with fail
  refine HT.out.mono ?_
  rintro e w2 ⟨u, rfl, ou, a2, c2, kg2, ko2, he2, hc2, ho2⟩
  obtain ⟨nb1, nb2, nb3, nb4, nb5, nb6⟩ := HH.out.nob
  have hm2 : MapF w2 x.m n (fun y => fnd y x.L) x.L.length := HH.out.mp.keep (hc2.block _ HH.out.mp.lt (fun e => by rcases e with e | e | e; exact nb2 e; exact nb3 e; exact nb6 e))
  obtain ⟨ua, uc, rfl⟩ := ou.form
  have OU := Lib.hid ou
  have KG := Lib.hid kg2
  have KO := Lib.hid ko2
  have KE := Lib.hid he2
  have HC := Lib.hid hc2
  have HO := Lib.hid ho2
  have HM := Lib.hid hm2
  have HDL : Hid (D.length ≤ x.L.length) := Lib.hid (by have := HDK.out.2.1; omega)
  have HUM : Hid (∀ q, (Value.slice ua D.length uc).ownBlock = some q → q ≠ x.m) := Lib.hid fun q hq e => by
    obtain ⟨D', ⟨es, clock, hb, _⟩, _⟩ := hm2
    rcases ou.2 with ⟨e1, _⟩ | ⟨g', cap, cur, e1, _, hg, _⟩
    · rw [e1] at hq; cases hq
    · rw [e1] at hq
      have hq2 : g' = q := (by injection hq)
      rw [hq2, e, hb] at hg
      cases hg
  clear ou kg2 ko2 he2 hc2 ho2 hm2 nb1 nb2 nb3 nb4 nb5 nb6
  go_wp2
  go_loopg [18] D.length (fun gk u18 wx => ∃ i : Nat, u18 = .int .i64 (i : Int) ∧ i + gk = D.length ∧ MapF wx x.m n (fun y => if y ∈ D.take i then none else fnd y x.L) (x.L.length - i) ∧ Chg (fun b => b = x.m) w2 wx)
  case atStart => exact ⟨0, rfl, by omega, by have := HM.out; simpa using this, Chg.refl _ _⟩
  case round =>
    obtain ⟨i, rfl, hi, hmp, hch⟩ := hrel
    have HCH := Lib.hid hch
    have hnm : ∀ b t cs, Bk w2 b t cs → b ≠ x.m := fun b t cs hb e => bk_nomapF hb HM.out e
    cases gk with
    | zero =>
      have hid : i = D.length := by omega
      subst hid
      have HMP := Lib.hid hmp
      clear hmp hi hch hnm
      go_wp2
      go_ret
      obtain ⟨nb1, nb2, nb3, nb4, nb5, nb6⟩ := HH.out.nob
      have hnm : ∀ b t cs, Bk w2 b t cs → b ≠ x.m := fun b t cs hb e => bk_nomapF hb HM.out e
      have hlen : x.L.length - D.length = (gtL now x.L).length := by have := HDK.out.2.1; omega
      have hf : (fun y => if y ∈ D.take D.length then none else fnd y x.L) = fun y => fnd y (gtL now x.L) := by
        funext y; rw [List.take_of_length_le (Nat.le_refl _)]; exact HDK.out.2.2.2 y
      have hown : ∀ q, (Value.slice a2 (gtL now x.L).length c2).ownBlock = some q → q ≠ x.m := fun q hq e => nb6 (by rw [← e]; exact HO.out q hq)
      refine ⟨_, rfl, OU.out.chg HCH.out (fun q hq e => HUM.out q hq e), ⟨x.m, x.ob, a2, c2, gtL now x.L⟩, ⟨KG.out.chg HCH.out (hnm _ _ _ KG.out), KO.out.chg HCH.out (hnm _ _ _ KO.out), KE.out.keep fun q hq => HCH.out.block q (KE.out.lt q hq).2 (hown q hq), ?_, HH.out.sr.gt now, ?_, HH.out.bs⟩, it_gtL now x.L, fun b hb => ?_, ?_⟩
      · have := HMP.out; rw [hf, hlen] at this; exact this
      · show (gtL now x.L).length ≤ n
        have := HH.out.le; have := HDK.out.2.1; omega
      · rcases hb with hb | hb | hb | hb
        · exact .inl (.inl hb)
        · exact .inl (.inr (.inl hb))
        · exact .inl (.inr (.inr (.inl hb)))
        · exact .inl (.inr (.inr (.inr (HO.out b hb))))
      · exact (HC.out.mono fun b _ hb => by rcases hb with e | e | e; exact .inl e; exact .inr (.inr (.inl e)); exact .inr (.inr (.inr e))).trans (HCH.out.mono fun b _ hb => .inr (.inl hb))
    | succ gko =>
      have hlt : i < D.length := by omega
      obtain ⟨y, hy⟩ : ∃ y, D[i] = y := ⟨_, rfl⟩
      have hiy : D[i]? = some y := by rw [List.getElem?_eq_getElem hlt, hy]
      have hym : y ∈ D := List.mem_of_getElem? hiy
      have hynot : y ∉ D.take i := fun hm => by
        have hnd := HDK.out.1
        rw [← List.take_append_drop i D] at hnd
        refine (List.nodup_append.1 hnd).2.2 y hm y ?_ rfl
        rw [List.drop_eq_getElem_cons hlt, hy]; exact List.mem_cons_self ..
      have ts := (OU.out.chg hch (fun q hq e => HUM.out q hq e)).ts
      obtain ⟨bb, off, cap, he, hcap, hx⟩ := ts.inv (by omega)
      injection he with e1 _ e2
      subst e1 e2
      have t0 := hx i y hiy
      have hkey := keyB y (HKL.out y hym)
      obtain ⟨D', hown, hd1, hd2, hd3⟩ := hmp
      have c2' : wr.cell? ⟨g, 2, none⟩ = some (.map (some x.m)) := (KG.out.chg hch (hnm _ _ _ KG.out)).cell 2
      obtain ⟨i1, hi1⟩ : ∃ i1, i + 1 = i1 := ⟨_, rfl⟩
      have l0 : (0 : Int) ≤ (i : Int) := by omega
      have l1 : (i : Int) < (D.length : Int) := by omega
      have wk : IntKind.i64.wrap ((i : Int) + 1) = (i1 : Int) := by rw [show (i : Int) + 1 = (i1 : Int) by omega]; exact IntWalk.i64_in _ (by have := HDL.out; have := HH.out.le; have := HN.out; omega)
      have HI : Hid (i1 + gko = D.length) := Lib.hid (by omega)
      have hsz : x.L.length - i = (x.L.length - i1) + 1 := by have := HDL.out; omega
      have HD3 : Hid (Maps.size D' = (x.L.length - i1) + 1) := Lib.hid (hd3.trans hsz)
      have HOWN := Lib.hid hown
      have HD1 := Lib.hid hd1
      have HD2 := Lib.hid hd2
      have HSO : Hid ((if y ∈ D.take i then none else fnd y x.L).isSome = true) := Lib.hid (by rw [if_neg hynot]; exact HDK.out.2.2.1 y hym)
      have HTK : Hid (D.take i1 = D.take i ++ [y]) := Lib.hid (by rw [← hi1, List.take_add_one, hiy]; rfl)
      clear hi hlt hy hiy hym hynot ts hcap hx hown hd1 hd2 hd3 hi1 hsz hch hnm
      go_wp2_with (at_delete; refine wpList_delete_own _ rfl _ _ 112 9 rfl 131 strK Tryz.underlying112 entE x.m n D' rfl HOWN.out _ _ rfl hkey ?_; intro w4 ho4 ht4)
      have hm4 := MapF.delD HOWN.out HD1.out HD2.out HD3.out HSO.out ho4
      have hc4 : Chg (fun b => b = x.m) w2 w4 := HCH.out.grown ht4.grown (fun q hq _ => by have hq2 : x.m = q := (by injection hq); exact hq2.symm)
      have HM4 : Hid (MapF w4 x.m n (fun y => if y ∈ D.take i1 then none else fnd y x.L) (x.L.length - i1)) := Lib.hid (by
        refine hm4.congr fun z => ?_
        show (if z = y then none else if z ∈ D.take i then none else fnd z x.L) = if z ∈ D.take i1 then none else fnd z x.L
        rw [HTK.out]
        by_cases hz : z = y
        · subst hz; rw [if_pos rfl, if_pos (List.mem_append.2 (.inr (List.mem_cons_self ..)))]
        · rw [if_neg hz]
          by_cases hz2 : z ∈ D.take i
          · rw [if_pos hz2, if_pos (List.mem_append.2 (.inl hz2))]
          · rw [if_neg hz2, if_neg (fun h => (List.mem_append.1 h).elim hz2 (fun h => by simp at h; exact hz h))])
      have HC4 := Lib.hid hc4
      clear hm4 hc4 ho4 ht4 c2' t0
      go_wp2
      go_roundg gko
      case measure => exact Nat.lt_succ_self _
      case rel => exact ⟨i1, rfl, HI.out, HM4.out, HC4.out⟩
end Go.Proofs.YtjngangojgjceaaGreat.EX
namespace Go.Proofs.YtjngangojgjceaaGreat.EX
open Go.ChangeShapes Go.WideShapes Go.ChangeAt Go.RowKit Go.Maps Go.ChangeMaps
open Go.Proofs.YtjngangojgjceaaGreat.SL Go.Proofs.YtjngangojgjceaaGreat.RW
set_option maxRecDepth 100000
set_option linter.unusedVariables false
set_option linter.unusedSimpArgs false

set_option maxHeartbeats 2000000 in
theorem mclone_any (w : World) (b n s : Nat) (f : ByteArray → Option Et) (h : MapF w b n f s) :
    Calls Tryz.prog 97 #[.map (some b)] w fun e w' => e = .returned (.map (some w.heap.size)) ∧ MapF w' w.heap.size n f s ∧ Below w.heap.size w w' := by
  obtain ⟨D, ⟨es, clock, hb, r⟩, hr⟩ := h
  have hq := fun w => run_eql_map_nil_sl (P := Tryz.prog) w 112 _ _ (some b) Tryz.underlying112
  have hcl := run_maps_clone_sl (P := Tryz.prog) w 112 hb
  have hext : (callFunc 95 #[.iface 112 (.map (some b))]).run Tryz.prog w = .ok (.value (.iface 112 (.map (some w.heap.size)))) (w.alloc (.map es clock)) := by
    rw [run_callFunc_extern Tryz.func95 (by kernel_rfl) (by kernel_rfl) (by kernel_rfl) (e := Extern.MapsClone.clone) (by kernel_rfl), hcl]; rfl
  have hta := fun W v => run_typeAssert_map_sl (P := Tryz.prog) W 112 20 _ _ v Tryz.underlying112
  go_enter Tryz.func97, Tryz.ntmps97
  go_wp2
  go_ret
  exact ⟨rfl, ⟨D, ⟨es, clock, heap_alloc_new w _, r⟩, hr⟩, (Below.refl _ _).alloc (Nat.le_refl _) _⟩
def CopQ (B n : Nat) (x : Qx) (w : World) (e : Ending) (w' : World) : Prop := ∃ g' x', e = .returned (ptr g') ∧ QT B w' g' n x' ∧ x'.L = x.L ∧ (∀ b, x'.own g' b → w.heap.size ≤ b) ∧ Below w.heap.size w w'
set_option maxHeartbeats 4000000 in
theorem copy_any (w : World) (B g n : Nat) (x : Qx) (h : QT B w g n x) (hn : n ≤ 1000000) (hB : B ≤ w.heap.size) :
    Calls Tryz.prog 57 #[ptr g] w (CopQ B n x w) := by
  obtain ⟨c0, c1, c2, c3, c4⟩ := h.cells
  have HH := Lib.hid h
  have HN := Lib.hid hn
  have HB := Lib.hid hB
  have HG := Lib.hid h.bk.lt
  clear h hn hB c4
  go_enter Tryz.func57, Tryz.ntmps57
  go_wp2_with fail
  refine (given_yes _ g c0).mono ?_
  rintro e w' ⟨rfl, rfl⟩
  go_wp2_with fail
  refine wp_region_held_drew (S := (fun w' => Below w.heap.size w w')) (by kernel_rfl) ?_ (fun hS => ?_)
  · exact (Below.refl _ _).drew
  refine tkY 0 ?_ rfl hS ?_ ?_
  rotate_left
  · intro wz hz
    have z1 := (hz.cell (p := ⟨g, 1, none⟩) HG.out).trans c1
    have z2 := (hz.cell (p := ⟨g, 2, none⟩) HG.out).trans c2
    have z3 := (hz.cell (p := ⟨g, 3, none⟩) HG.out).trans c3
    go_simp
    all_goals first | with_reducible rfl | omega
  try simp only [Act.put, pu]
  refine tkY 1 ?_ rfl hS ?_ ?_
  rotate_left
  · intro wz hz
    have z1 := (hz.cell (p := ⟨g, 1, none⟩) HG.out).trans c1
    have z2 := (hz.cell (p := ⟨g, 2, none⟩) HG.out).trans c2
    have z3 := (hz.cell (p := ⟨g, 3, none⟩) HG.out).trans c3
    go_simp
    all_goals first | with_reducible rfl | omega
  try simp only [Act.put, pu]
  refine tkY 2 ?_ rfl hS ?_ ?_
  rotate_left
  · intro wz hz
    have z1 := (hz.cell (p := ⟨g, 1, none⟩) HG.out).trans c1
    have z2 := (hz.cell (p := ⟨g, 2, none⟩) HG.out).trans c2
    have z3 := (hz.cell (p := ⟨g, 3, none⟩) HG.out).trans c3
    go_simp
    all_goals first | with_reducible rfl | omega
  try simp only [Act.put, pu]
  refine tkY 3 ?_ rfl hS ?_ ?_
  rotate_left
  · intro wz hz
    have z1 := (hz.cell (p := ⟨g, 1, none⟩) HG.out).trans c1
    have z2 := (hz.cell (p := ⟨g, 2, none⟩) HG.out).trans c2
    have z3 := (hz.cell (p := ⟨g, 3, none⟩) HG.out).trans c3
    go_simp
    all_goals first | with_reducible rfl | omega
  try simp only [Act.put, pu]
  refine tkY 4 ?_ rfl hS ?_ ?_
  rotate_left
  · intro wz hz
    have z1 := (hz.cell (p := ⟨g, 1, none⟩) HG.out).trans c1
    have z2 := (hz.cell (p := ⟨g, 2, none⟩) HG.out).trans c2
    have z3 := (hz.cell (p := ⟨g, 3, none⟩) HG.out).trans c3
    go_simp
    all_goals first | with_reducible rfl | omega
  try simp only [Act.put, pu]
  refine tkY 5 ?_ rfl hS ?_ ?_
  rotate_left
  · intro wz hz
    have z1 := (hz.cell (p := ⟨g, 1, none⟩) HG.out).trans c1
    have z2 := (hz.cell (p := ⟨g, 2, none⟩) HG.out).trans c2
    have z3 := (hz.cell (p := ⟨g, 3, none⟩) HG.out).trans c3
    go_simp
    all_goals first | with_reducible rfl | omega
  try simp only [Act.put, pu]
  refine tkY 6 ?_ rfl hS ?_ ?_
  rotate_left
  · intro wz hz
    have z1 := (hz.cell (p := ⟨g, 1, none⟩) HG.out).trans c1
    have z2 := (hz.cell (p := ⟨g, 2, none⟩) HG.out).trans c2
    have z3 := (hz.cell (p := ⟨g, 3, none⟩) HG.out).trans c3
    go_simp
    all_goals first | with_reducible rfl | omega
  try simp only [Act.put, pu]
  refine tkY 7 ?_ rfl hS ?_ ?_
  rotate_left
  · intro wz hz
    have z1 := (hz.cell (p := ⟨g, 1, none⟩) HG.out).trans c1
    have z2 := (hz.cell (p := ⟨g, 2, none⟩) HG.out).trans c2
    have z3 := (hz.cell (p := ⟨g, 3, none⟩) HG.out).trans c3
    go_simp
    all_goals first | with_reducible rfl | omega
  try simp only [Act.put, pu]
  refine tkY 9 ?_ rfl hS ?_ ?_
  rotate_left
  · intro wz hz
    have z1 := (hz.cell (p := ⟨g, 1, none⟩) HG.out).trans c1
    have z2 := (hz.cell (p := ⟨g, 2, none⟩) HG.out).trans c2
    have z3 := (hz.cell (p := ⟨g, 3, none⟩) HG.out).trans c3
    go_simp
    all_goals first | with_reducible rfl | omega
  try simp only [Act.put, pu]
  refine tkY 10 ?_ rfl hS ?_ ?_
  rotate_left
  · intro wz hz
    have z1 := (hz.cell (p := ⟨g, 1, none⟩) HG.out).trans c1
    have z2 := (hz.cell (p := ⟨g, 2, none⟩) HG.out).trans c2
    have z3 := (hz.cell (p := ⟨g, 3, none⟩) HG.out).trans c3
    go_simp
    all_goals first | with_reducible rfl | omega
  try simp only [Act.put, pu]
  refine tkY 11 ?_ rfl hS ?_ ?_
  rotate_left
  · intro wz hz
    have z1 := (hz.cell (p := ⟨g, 1, none⟩) HG.out).trans c1
    have z2 := (hz.cell (p := ⟨g, 2, none⟩) HG.out).trans c2
    have z3 := (hz.cell (p := ⟨g, 3, none⟩) HG.out).trans c3
    go_simp
    all_goals first | with_reducible rfl | omega
  try simp only [Act.put, pu]
  refine tkY 12 ?_ rfl hS ?_ ?_
  rotate_left
  · intro wz hz
    have z1 := (hz.cell (p := ⟨g, 1, none⟩) HG.out).trans c1
    have z2 := (hz.cell (p := ⟨g, 2, none⟩) HG.out).trans c2
    have z3 := (hz.cell (p := ⟨g, 3, none⟩) HG.out).trans c3
    go_simp
    all_goals first | with_reducible rfl | omega
  try simp only [Act.put, pu]
  refine wpAnyH_ready (rs := [8]) (by kernel_rfl) (by simp) (AllReadyH.cons rfl (fun K' hK' => ?_) AllReadyH.nil)
  go_simp
  refine (mclone_any _ x.m n x.L.length _ (HH.out.below hS).mp).mono ?_
  rintro e w2 ⟨rfl, hm2, hb2⟩
  have hb2' := hS.trans (hb2.mono hS.size)
  obtain ⟨mb, hmb⟩ : ∃ b, w.drew.heap.size = b := ⟨_, rfl⟩
  have hmw : w.heap.size ≤ mb := by rw [← hmb]; exact Nat.le_refl _
  rw [hmb] at hm2
  try rw [hmb]
  try rw [show w.heap.size = mb from hmb]
  have HM2 := Lib.hid hm2
  have HB2 := Lib.hid hb2'
  have HMB := Lib.hid hmw
  clear hm2 hb2 hmw hmb
  refine hK'.out _ _ ?_ (fun hSn => ?_)
  · exact hb2'
  clear hK' K' hS hb2'
  have hS := hSn
  clear hSn
  try simp only [Act.put, pu]
  refine wpAnyH_ready (rs := [13]) (by kernel_rfl) (by simp) (AllReadyH.cons rfl (fun K' hK' => ?_) AllReadyH.nil)
  go_simp
  refine (copied_any w2 B x.ob x.v x.L (HH.out.below HB2.out).ko (HH.out.below HB2.out).eq (by have := HH.out.le; have := HN.out; omega)).mono ?_
  rintro e w3 ⟨nb, a3, c3', rfl, kb3, he3, hnb, hb3⟩
  have hb3' := HB2.out.trans (hb3.mono HB2.out.size)
  have HM3 := Lib.hid (HM2.out.below hb3)
  have HB3 := Lib.hid hb3'
  have KB3 := Lib.hid kb3
  have HE3 := Lib.hid he3
  have HNB : Hid (w.heap.size ≤ nb) := Lib.hid (Nat.le_trans HB2.out.size hnb)
  have HW2 : Hid (w.heap.size ≤ w2.heap.size) := Lib.hid HB2.out.size
  clear kb3 he3 hnb hb3
  refine hK'.out _ _ ?_ (fun hSn => ?_)
  · exact hb3'
  clear hK' K' hS hb3'
  have hS := hSn
  clear hSn
  try simp only [Act.put, pu]
  refine wpAnyH_ready (rs := [14]) (by kernel_rfl) (by simp) (AllReadyH.cons rfl (fun K' hK' => ?_) AllReadyH.nil)
  go_simp
  refine (made_any w3 n mb nb).mono ?_
  rintro e w4 ⟨g4, rfl, kg4, hg4, hb4⟩
  have hb4' := HB3.out.trans (hb4.mono HB3.out.size)
  have HM4 := Lib.hid (HM3.out.below hb4)
  have HB4 := Lib.hid hb4'
  have KB4 := Lib.hid (KB3.out.below hb4)
  have HE4 := Lib.hid (HE3.out.below hb4)
  have KG4 := Lib.hid kg4
  have HG4 : Hid (w.heap.size ≤ g4) := Lib.hid (Nat.le_trans HB3.out.size hg4)
  clear kg4 hg4 hb4
  refine hK'.out _ _ ?_ (fun hSn => ?_)
  · exact hb4'
  clear hK' K' hS hb4'
  have hS := hSn
  clear hSn
  try simp only [Act.put, pu]
  refine tkY 15 ?_ rfl hS ?_ ?_
  rotate_left
  · intro wz hz
    go_simp
    all_goals first | with_reducible rfl | omega
  try simp only [Act.put, pu]
  refine wpAnyH_done (by kernel_rfl) ?_ _
  clear hS
  go_wp2
  go_ret
  have h1 := HB.out
  have h2 := HG4.out
  have h3 := HMB.out
  have h4 := HNB.out
  refine ⟨g4, ⟨mb, nb, a3, c3', x.L⟩, rfl, ⟨KG4.out, KB4.out, HE4.out.mono (Nat.le_trans h1 HW2.out), HM4.out, HH.out.sr, HH.out.le, by omega, by show B ≤ mb; omega, by show B ≤ nb; omega⟩, rfl, fun b hb => ?_, HB4.out⟩
  rcases hb with rfl | rfl | rfl | hb
  · exact h2
  · exact h3
  · exact h4
  · exact Nat.le_trans HW2.out (HE4.out.lt b hb).1
theorem due_nil (w : World) (t : Int) :
    Calls Tryz.prog 52 #[.pointer none, .int .i64 t] w fun e w' => e = .returned (.slice none 0 0) ∧ w = w' := by
  go_enter Tryz.func52, Tryz.ntmps52
  go_wp2_with fail
  refine (given_nil _).mono ?_
  rintro e w' ⟨rfl, rfl⟩
  go_wp2
  go_ret
  exact ⟨rfl, rfl⟩
theorem due_zero (w : World) (g : Nat) (h : w.cell? ⟨g, 0, none⟩ = some (.pointer none)) (t : Int) :
    Calls Tryz.prog 52 #[ptr g, .int .i64 t] w fun e w' => e = .returned (.slice none 0 0) ∧ w = w' := by
  go_enter Tryz.func52, Tryz.ntmps52
  go_wp2_with fail
  refine (given_zero _ g h).mono ?_
  rintro e w' ⟨rfl, rfl⟩
  go_wp2
  go_ret
  exact ⟨rfl, rfl⟩
theorem copy_nil (w : World) :
    Calls Tryz.prog 57 #[.pointer none] w fun e w' => e = .returned (.pointer none) ∧ w = w' := by
  go_enter Tryz.func57, Tryz.ntmps57
  go_wp2_with fail
  refine (given_nil _).mono ?_
  rintro e w' ⟨rfl, rfl⟩
  go_wp2
  go_ret
  exact ⟨rfl, rfl⟩
theorem copy_zero (w : World) (g : Nat) (h : w.cell? ⟨g, 0, none⟩ = some (.pointer none)) :
    Calls Tryz.prog 57 #[ptr g] w fun e w' => e = .returned (.pointer none) ∧ w = w' := by
  go_enter Tryz.func57, Tryz.ntmps57
  go_wp2_with fail
  refine (given_zero _ g h).mono ?_
  rintro e w' ⟨rfl, rfl⟩
  go_wp2
  go_ret
  exact ⟨rfl, rfl⟩
set_option maxHeartbeats 2000000 in
theorem find_nil (w : World) (k : ByteArray) :
    Calls Tryz.prog 83 #[.pointer none, .string k] w (FinP none w) := by
  go_enter Tryz.func83, Tryz.ntmps83
  go_wp2_with fail
  refine (given_nil _).mono ?_
  rintro e w' ⟨rfl, rfl⟩
  go_wp2_with fail
  have hk : Bk (w.alloc (.cells #[.string ⟨#[]⟩, .int .i64 0, .int .i64 0] 131)) w.heap.size 131 #[.string ⟨#[]⟩, .int .i64 0, .int .i64 0] := Bk.new _ _ _
  have hb : Below w.heap.size w (w.alloc (.cells #[.string ⟨#[]⟩, .int .i64 0, .int .i64 0] 131)) := (Below.refl _ _).alloc (Nat.le_refl _) _
  obtain ⟨W, hW⟩ : ∃ W, w.alloc (.cells #[.string ⟨#[]⟩, .int .i64 0, .int .i64 0] 131) = W := ⟨_, rfl⟩
  rw [hW] at hk hb ⊢
  have e0 : W.cell? ⟨w.heap.size, 0, none⟩ = some (.string ⟨#[]⟩) := hk.cell 0
  have e1 : W.cell? ⟨w.heap.size, 1, none⟩ = some (.int .i64 0) := hk.cell 1
  have e2 : W.cell? ⟨w.heap.size, 2, none⟩ = some (.int .i64 0) := hk.cell 2
  exact bodyPost_ret (v := .tuple #[eV zE, .bool false]) (by simp [results, Tryz.results83, go_sem, e0, e1, e2]; exact ⟨rfl, rfl, rfl⟩) rfl ⟨rfl, hb⟩
set_option maxHeartbeats 2000000 in
theorem drop_nil (w : World) (k : ByteArray) :
    Calls Tryz.prog 51 #[.pointer none, .string k] w fun e w' => e = .returned (.bool false) ∧ Below w.heap.size w w' := by
  have HF := Lib.hid (find_nil w k)
  unfold FinP at HF
  go_enter Tryz.func51, Tryz.ntmps51
  go_wp2_with fail
  refine HF.out.mono ?_
  rintro e w2 ⟨rfl, hb2⟩
  have HB2 := Lib.hid hb2
  clear hb2
  go_wp2
  go_ret
  exact ⟨rfl, HB2.out.alloc HB2.out.size _⟩
set_option maxHeartbeats 2000000 in
theorem at_nil (w : World) (k : ByteArray) :
    Calls Tryz.prog 46 #[.pointer none, .string k] w fun e w' => e = .returned (.tuple #[.int .i64 0, .bool false]) ∧ Below w.heap.size w w' := by
  have HF := Lib.hid (find_nil w k)
  unfold FinP at HF
  go_enter Tryz.func46, Tryz.ntmps46
  go_wp2_with fail
  refine HF.out.mono ?_
  rintro e w2 ⟨rfl, hb2⟩
  have HB2 := Lib.hid hb2
  clear hb2
  go_wp2
  go_ret2
  exact ⟨rfl, HB2.out.alloc HB2.out.size _⟩
set_option maxHeartbeats 2000000 in
theorem find_zero (w : World) (k : ByteArray) (g : Nat) (h : w.cell? ⟨g, 0, none⟩ = some (.pointer none)) :
    Calls Tryz.prog 83 #[ptr g, .string k] w (FinP none w) := by
  have hz : (w.alloc (.cells #[.string ⟨#[]⟩, .int .i64 0, .int .i64 0] 131)).cell? ⟨g, 0, none⟩ = some (.pointer none) := ((show Below w.heap.size w _ from (Below.refl _ _).alloc (Nat.le_refl _) _).cell (p := ⟨g, 0, none⟩) (World.block_lt_of_cell? _ _ h)).trans h
  go_enter Tryz.func83, Tryz.ntmps83
  go_wp2_with fail
  refine (given_zero _ g hz).mono ?_
  rintro e w' ⟨rfl, rfl⟩
  go_wp2_with fail
  have hk : Bk (w.alloc (.cells #[.string ⟨#[]⟩, .int .i64 0, .int .i64 0] 131)) w.heap.size 131 #[.string ⟨#[]⟩, .int .i64 0, .int .i64 0] := Bk.new _ _ _
  have hb : Below w.heap.size w (w.alloc (.cells #[.string ⟨#[]⟩, .int .i64 0, .int .i64 0] 131)) := (Below.refl _ _).alloc (Nat.le_refl _) _
  obtain ⟨W, hW⟩ : ∃ W, w.alloc (.cells #[.string ⟨#[]⟩, .int .i64 0, .int .i64 0] 131) = W := ⟨_, rfl⟩
  rw [hW] at hk hb ⊢
  have e0 : W.cell? ⟨w.heap.size, 0, none⟩ = some (.string ⟨#[]⟩) := hk.cell 0
  have e1 : W.cell? ⟨w.heap.size, 1, none⟩ = some (.int .i64 0) := hk.cell 1
  have e2 : W.cell? ⟨w.heap.size, 2, none⟩ = some (.int .i64 0) := hk.cell 2
  exact bodyPost_ret (v := .tuple #[eV zE, .bool false]) (by simp [results, Tryz.results83, go_sem, e0, e1, e2]; exact ⟨rfl, rfl, rfl⟩) rfl ⟨rfl, hb⟩
set_option maxHeartbeats 2000000 in
theorem drop_zero (w : World) (k : ByteArray) (g : Nat) (h : w.cell? ⟨g, 0, none⟩ = some (.pointer none)) :
    Calls Tryz.prog 51 #[ptr g, .string k] w fun e w' => e = .returned (.bool false) ∧ Below w.heap.size w w' := by
  have HF := Lib.hid (find_zero w k g h)
  unfold FinP at HF
  go_enter Tryz.func51, Tryz.ntmps51
  go_wp2_with fail
  refine HF.out.mono ?_
  rintro e w2 ⟨rfl, hb2⟩
  have HB2 := Lib.hid hb2
  clear hb2
  go_wp2
  go_ret
  exact ⟨rfl, HB2.out.alloc HB2.out.size _⟩
set_option maxHeartbeats 2000000 in
theorem at_zero (w : World) (k : ByteArray) (g : Nat) (h : w.cell? ⟨g, 0, none⟩ = some (.pointer none)) :
    Calls Tryz.prog 46 #[ptr g, .string k] w fun e w' => e = .returned (.tuple #[.int .i64 0, .bool false]) ∧ Below w.heap.size w w' := by
  have HF := Lib.hid (find_zero w k g h)
  unfold FinP at HF
  go_enter Tryz.func46, Tryz.ntmps46
  go_wp2_with fail
  refine HF.out.mono ?_
  rintro e w2 ⟨rfl, hb2⟩
  have HB2 := Lib.hid hb2
  clear hb2
  go_wp2
  go_ret2
  exact ⟨rfl, HB2.out.alloc HB2.out.size _⟩
end Go.Proofs.YtjngangojgjceaaGreat.EX
namespace Go.Proofs.YtjngangojgjceaaGreat.EX
open Go.ChangeShapes Go.WideShapes Go.ChangeAt Go.RowKit Go.Maps Go.ChangeMaps
open Go.Proofs.YtjngangojgjceaaGreat.SL Go.Proofs.YtjngangojgjceaaGreat.RW
set_option maxRecDepth 100000
set_option linter.unusedVariables false
set_option linter.unusedSimpArgs false

theorem bel_drew {w w' : World} {m : Nat} (h : w' = w.drewN m) : Below w.heap.size w w' := by rw [h]; exact SL.below_drewN _ _ _
/-- at block g stands a queue with these items, made since w0, of so many sets; what O names lies apart -/
def LQ (w0 w : World) (g n : Nat) (I : List It) (O : List Kp) : Prop :=
  ∃ x, QT w0.heap.size w g n x ∧ x.L.map it = I ∧ Below w0.heap.size w0 w ∧ ∀ p ∈ O, p.ok w0.heap.size w (x.own g)
theorem fnd_atI (k : ByteArray) (L : List Et) : atI k (L.map it) = (fnd k L).map (·.2.1) := by
  unfold atI fnd
  rw [List.find?_map, Option.map_map]
  rfl
def AtI (o : Option Int) : Value := .tuple #[.int .i64 (o.getD 0), .bool o.isSome]
theorem at_I (k : ByteArray) (L : List Et) : AtV (fnd k L) = AtI (atI k (L.map it)) := by
  rw [fnd_atI]
  cases fnd k L with
  | none => rfl
  | some e => rfl
def NexI (o : Option It) : Value := .tuple #[.int .i64 (match o with | some e => e.2 | none => 0), .bool o.isSome]
theorem next_I (L : List Et) : NexV L.head? = NexI (L.map it).head? := by
  cases L with
  | nil => rfl
  | cons e L => rfl
section
variable {w0 w w' : World} {g n : Nat} {I : List It} {O : List Kp}
theorem LQ.bel (h : LQ w0 w g n I O) : Below w0.heap.size w0 w := by obtain ⟨x, _, _, h, _⟩ := h; exact h
theorem LQ.below (h : LQ w0 w g n I O) (hb : Below w.heap.size w w') : LQ w0 w' g n I O := by
  obtain ⟨x, h1, h2, h3, h4⟩ := h
  exact ⟨x, h1.below hb, h2, h3.trans (hb.mono h3.size), fun p hp => (h4 p hp).below hb⟩
theorem LQ.told (h : LQ w0 w g n I O) {v : Value} {d : List ByteArray} (hp : Kp.txt v d ∈ O) : OT w0.heap.size w v d := by obtain ⟨x, h1, h2, h3, h4⟩ := h; exact (h4 _ hp).1
theorem LQ.blk (h : LQ w0 w g n I O) {b : Nat} {t : TypeId} {cs : Array Value} (hp : Kp.blk b t cs ∈ O) : Bk w b t cs := by obtain ⟨x, h1, h2, h3, h4⟩ := h; exact (h4 _ hp).1
theorem LQ.forget (h : LQ w0 w g n I O) {O' : List Kp} (hO : ∀ p ∈ O', p ∈ O) : LQ w0 w g n I O' := by
  obtain ⟨x, h1, h2, h3, h4⟩ := h
  exact ⟨x, h1, h2, h3, fun p hp => h4 p (hO p hp)⟩
theorem LQ.nil (h : LQ w0 w g n I O) : LQ w0 w g n I [] := h.forget fun p hp => by cases hp
theorem LQ.box (h : LQ w0 w g n I O) (t : TypeId) (cs : Array Value) : LQ w0 (w.alloc (.cells cs t)) g n I (.blk w.heap.size t cs :: O) := by
  obtain ⟨x, h1, h2, h3, h4⟩ := h
  have hb : Below w.heap.size w (w.alloc (.cells cs t)) := (Below.refl _ _).alloc (Nat.le_refl _) _
  refine ⟨x, h1.below hb, h2, h3.trans (hb.mono h3.size), fun p hp => ?_⟩
  rcases List.mem_cons.1 hp with rfl | hp
  · exact ⟨Bk.new _ _ _, fun hx => by have := h1.lt hx; omega⟩
  · exact (h4 p hp).below hb
theorem LQ.add (h : LQ w0 w g n I O) (hb : Below w.heap.size w w') {v : Value} {d : List ByteArray} (hv : OT w.heap.size w' v d) : LQ w0 w' g n I (.txt v d :: O) := by
  obtain ⟨x, h1, h2, h3, h4⟩ := h
  refine ⟨x, h1.below hb, h2, h3.trans (hb.mono h3.size), fun p hp => ?_⟩
  rcases List.mem_cons.1 hp with rfl | hp
  · exact ⟨OT.mono hv h3.size, (h1.below hb).offT hv⟩
  · exact (h4 p hp).below hb
theorem LQ.si (h : LQ w0 w g n I O) : I.Pairwise (fun a b => a.2 ≤ b.2) ∧ (keysI I).Nodup ∧ I.length ≤ n := by
  obtain ⟨x, h1, rfl, _, _⟩ := h
  refine ⟨?_, ?_, by rw [List.length_map]; exact h1.le⟩
  · rw [List.pairwise_map]
    exact h1.sr.ord.imp fun {a b} hab => by
      show a.2.1 ≤ b.2.1
      unfold ltE at hab
      omega
  · have := h1.sr.uq
    unfold keysI
    rw [List.map_map]; exact this
theorem lq_step {x : Qx} {n' : Nat} {I' : List It} (h1 : QT w0.heap.size w g n x) (h3 : Below w0.heap.size w0 w) (h4 : ∀ p ∈ O, p.ok w0.heap.size w (x.own g)) (hs : StepQ w0.heap.size g n' x I' w w') : LQ w0 w' g n' I' O := by
  obtain ⟨x', q1, q2, q3, q4⟩ := hs
  refine ⟨x', q1, q2, below_chg h3 q4 (fun b hb => h1.ge hb), fun p hp => (h4 p hp).chg q4 fun b hb ho => (q3 b ho).elim id fun h => absurd hb (Nat.not_lt.2 h)⟩
theorem lq_new (w0 w : World) (h0 : Below w0.heap.size w0 w) : Calls Tryz.prog 28 #[] w fun e w' => ∃ g, e = .returned (ptr g) ∧ LQ w0 w' g 0 [] [] ∧ Below w.heap.size w w' := by
  refine (new_any w w0.heap.size h0.size).mono ?_
  rintro e w' ⟨g, x, rfl, h1, h2, h3, h4⟩
  exact ⟨g, rfl, ⟨x, h1, by rw [h2]; rfl, h0.trans (h4.mono h0.size), fun p hp => by cases hp⟩, h4⟩
theorem lq_set (h : LQ w0 w g n I O) (k : ByteArray) (hk : k.size ≤ 281474976710656) (t : Int) (ht : 0 ≤ t ∧ t ≤ 1099511627776) (hn : n ≤ 490) (I' : List It) (hI : setI k t I = I') :
    Calls Tryz.prog 35 #[ptr g, .string k, .int .i64 t] w fun e w' => e = .returned (.int .i64 0) ∧ LQ w0 w' g (n + 1) I' O := by
  obtain ⟨x, h1, rfl, h3, h4⟩ := h
  subst hI
  refine (set_any w w0.heap.size g n x h1 k hk t ht hn h3.size).mono ?_
  rintro e w' ⟨rfl, hs⟩
  exact ⟨rfl, lq_step h1 h3 h4 hs⟩
theorem lq_err (h : LQ w0 w g n I O) (k : ByteArray) (t : Int) (ht : ¬ (0 ≤ t ∧ t ≤ 1099511627776)) :
    Calls Tryz.prog 35 #[ptr g, .string k, .int .i64 t] w fun e w' => e = .returned (.int .i64 1) ∧ w = w' := by
  obtain ⟨x, h1, _⟩ := h
  exact set_err w w0.heap.size g n x h1 k t ht
theorem lq_drop (h : LQ w0 w g n I O) (k : ByteArray) (hk : k.size ≤ 281474976710656) (hn : n ≤ 500) (I' : List It) (hI : dropI k I = I') (b : Bool) (hb : (atI k I).isSome = b) :
    Calls Tryz.prog 51 #[ptr g, .string k] w fun e w' => e = .returned (.bool b) ∧ LQ w0 w' g n I' O := by
  obtain ⟨x, h1, rfl, h3, h4⟩ := h
  subst hI hb
  refine (drop_any w w0.heap.size g n x h1 k hk hn h3.size).mono ?_
  rintro e w' ⟨rfl, hs⟩
  refine ⟨?_, lq_step h1 h3 h4 hs⟩
  rw [fnd_atI, Option.isSome_map]
theorem lq_due (h : LQ w0 w g n I O) (now : Int) (hk : ∀ y ∈ I, y.1.size ≤ 281474976710656) (hn : n ≤ 500) (I' : List It) (hI : gtI now I = I') (d : List ByteArray) (hd : keysI (leI now I) = d) :
    Calls Tryz.prog 52 #[ptr g, .int .i64 now] w fun e w' => ∃ v c, e = .returned (.slice v d.length c) ∧ LQ w0 w' g n I' (.txt (.slice v d.length c) d :: O) := by
  obtain ⟨x, h1, rfl, h3, h4⟩ := h
  subst hI
  refine (due_any w w0.heap.size g n x h1 now (fun e he => hk (it e) (List.mem_map_of_mem he)) hn h3.size).mono ?_
  rintro e w' ⟨u, rfl, ou, hs⟩
  have he : keysT (leL now x.L) = d := by rw [← hd, ← it_leL]; unfold keysT keysI; rw [List.map_map]; rfl
  rw [he] at ou
  obtain ⟨va, vc, rfl⟩ := ou.form
  obtain ⟨x', q1, q2, q3, q4⟩ := hs
  refine ⟨va, vc, rfl, x', q1, q2, below_chg h3 q4 (fun b hb => h1.ge hb), fun p hp => ?_⟩
  rcases List.mem_cons.1 hp with rfl | hp
  · exact ⟨OT.mono ou h3.size, q1.offT ou⟩
  · exact (h4 p hp).chg q4 fun b hb ho => (q3 b ho).elim id fun h => absurd hb (Nat.not_lt.2 h)
theorem lq_at (h : LQ w0 w g n I O) (k : ByteArray) (hk : k.size ≤ 281474976710656) (v : Value) (hv : AtI (atI k I) = v) :
    Calls Tryz.prog 46 #[ptr g, .string k] w fun e w' => e = .returned v ∧ Below w.heap.size w w' := by
  obtain ⟨x, h1, rfl, h3, h4⟩ := h
  exact at_any w w0.heap.size g n x h1 k hk v (by rw [at_I]; exact hv)
end
end Go.Proofs.YtjngangojgjceaaGreat.EX
namespace Go.Proofs.YtjngangojgjceaaGreat.EX
open Go.ChangeShapes Go.WideShapes Go.ChangeAt Go.RowKit Go.Maps Go.ChangeMaps
open Go.Proofs.YtjngangojgjceaaGreat.SL Go.Proofs.YtjngangojgjceaaGreat.RW
set_option maxRecDepth 100000
set_option linter.unusedVariables false
set_option linter.unusedSimpArgs false

theorem two_ts {w : World} {b : Nat} {k l : ByteArray} (h : Bk w b 9 #[.string k, .string l]) : TS w (.slice (some ⟨b, 0, none⟩) 2 2) [k, l] :=
  .inr ⟨b, 0, 2, rfl, Nat.le_refl _, fun i x hi => by
    match i, hi with
    | 0, hi => simp at hi; subst hi; exact h.cell 0
    | 1, hi => simp at hi; subst hi; exact h.cell 1⟩
theorem x1 : setI ka 5 [] = [(ka, 5)] := by kernel_rfl
theorem x2 : setI kb 3 [(ka, 5)] = [(kb, 3), (ka, 5)] := by kernel_rfl
theorem x3 : setI kc 5 [(kb, 3), (ka, 5)] = [(kb, 3), (ka, 5), (kc, 5)] := by kernel_rfl
theorem x4 : gtI 4 [(kb, 3), (ka, 5), (kc, 5)] = [(ka, 5), (kc, 5)] := by kernel_rfl
theorem x5 : keysI (leI 4 [(kb, 3), (ka, 5), (kc, 5)]) = [kb] := by kernel_rfl
theorem x6 : setI ka 5 [(ka, 5), (kc, 5)] = [(kc, 5), (ka, 5)] := by kernel_rfl
theorem x7 : AtI (atI kc [(kc, 5), (ka, 5)]) = .tuple #[.int .i64 5, .bool true] := by kernel_rfl
theorem x8 : dropI kc [(kc, 5), (ka, 5)] = [(ka, 5)] := by kernel_rfl
theorem x9 : dropI kc [(ka, 5)] = [(ka, 5)] := by kernel_rfl
theorem x10 : (atI kc [(kc, 5), (ka, 5)]).isSome = true := by kernel_rfl
theorem x11 : (atI kc [(ka, 5)]).isSome = false := by kernel_rfl
theorem iLe {l : List It} (h : l.all (fun y => decide (y.1.size ≤ 281474976710656)) = true) : ∀ y ∈ l, y.1.size ≤ 281474976710656 := fun y hy => of_decide_eq_true (List.all_eq_true.1 h y hy)
end Go.Proofs.YtjngangojgjceaaGreat.EX
namespace Go.Proofs.YtjngangojgjceaaGreat.EX
open Go.ChangeShapes Go.WideShapes Go.ChangeAt Go.RowKit Go.Maps Go.ChangeMaps
open Go.Proofs.YtjngangojgjceaaGreat.SL Go.Proofs.YtjngangojgjceaaGreat.RW
set_option maxRecDepth 100000
set_option linter.unusedVariables false
set_option linter.unusedSimpArgs false

theorem qzero (w : World) : Bk (w.alloc (.cells #[.pointer none, .int .i64 0, .map none, .slice none 0 0] 129)) w.heap.size 129 #[.pointer none, .int .i64 0, .map none, .slice none 0 0] := Bk.new _ _ _
end Go.Proofs.YtjngangojgjceaaGreat.EX
namespace Go.Proofs.YtjngangojgjceaaGreat.EX
open Go.ChangeShapes Go.WideShapes Go.ChangeAt Go.RowKit Go.Maps Go.ChangeMaps
open Go.Proofs.YtjngangojgjceaaGreat.SL Go.Proofs.YtjngangojgjceaaGreat.RW
set_option maxRecDepth 100000
set_option linter.unusedVariables false
set_option linter.unusedSimpArgs false

section
variable {H : Type} {enc : TypeId × Value → H} {W : World}
theorem one_txt {n : Nat} {cs : List Value} {x : DataW H × List MemPlace} (ht : DataW.trod enc Tryz.prog W 0 (fun _ => true) true n 9 cs = some x) : ∃ k : ByteArray, cs = [.string k] := by
  obtain ⟨x1, e1, _, _⟩ := DataW.trod_string Tryz.underlying9 ht
  exact ⟨x1, e1⟩
def FitsK (W : World) (v : Value) : Prop := ∃ l, TS W v l
theorem openedK {base : Nat} {v : Value} {d : DataW H} {p : List MemPlace} (hv : Value.okWide Tryz.prog W .any base 80 v)
    (h : DataW.Trod enc Tryz.prog W 0 (fun _ => true) true 80 v d p) (hz : (DataW.weights Tryz.prog 80 d).all (· ≤ reachBytes) = true) : FitsK W v := by
  obtain ⟨a, ln, cp, rfl⟩ := okWide_slice Tryz.underlying80 hv
  obtain ⟨fuel, hf⟩ := h
  rcases slice_any (α := ByteArray) (m := 1) (Q := fun k cs => cs = [.string k]) Tryz.underlying80 (by kernel_rfl) (fun ht => one_txt ht) hf with e | ⟨l, ad, cap, e, hc, h2⟩
  · rw [e]; exact ⟨[], .inl ⟨_, _, rfl, rfl⟩⟩
  · rw [e]
    refine ⟨l, ?_⟩
    by_cases h0 : l = []
    · subst h0; exact .inl ⟨_, _, rfl, rfl⟩
    · obtain ⟨x, hx0⟩ : ∃ x, l[0]? = some x := ⟨l[0]'(by cases l; exact absurd rfl h0; simp), List.getElem?_eq_getElem _⟩
      obtain ⟨cs, rfl, _, hat⟩ := h2 0 x hx0
      have c0 := hat 0 (by omega)
      have e0 : (ad.add (0 * 1)).add 0 = ad := by simp [Addr.add]
      rw [e0] at c0
      have hsp := spot_none (x := .string x) c0
      obtain ⟨bl, of, sp⟩ := ad
      simp only at hsp
      subst hsp
      refine .inr ⟨bl, of, cap, rfl, hc, fun i y hy => ?_⟩
      obtain ⟨cs, rfl, _, hat⟩ := h2 i y hy
      have a0 := hat 0 (by omega)
      simp only [Addr.add_lit, Nat.add_zero, Nat.mul_one] at a0
      exact a0
end
theorem ts_cell {w : World} {b o n c : Nat} {d : List ByteArray} (h : TS w (.slice (some ⟨b, o, none⟩) n c) d) {i : Nat} {x : ByteArray} (hi : d[i]? = some x) : w.cell? ⟨b, o + i, none⟩ = some (.string x) := by
  rcases h with ⟨_, _, _, rfl⟩ | ⟨g, off, cap, e, _, hx⟩
  · cases hi
  · injection e with e1 _ e3
    injection e1 with e1
    injection e1 with e1 e2
    subst e1 e2
    exact hx i x hi
/-- keys with one deadline -/
def sm (t : Int) (M : List ByteArray) : List It := M.map fun x => (x, t)
def upM (k : ByteArray) (M : List ByteArray) : List ByteArray := M.filter (fun x => decide (x ≠ k))
theorem keys_sm (t : Int) (M : List ByteArray) : keysI (sm t M) = M := by unfold keysI sm; rw [List.map_map]; exact List.map_id _
theorem le_sm {s t : Int} (h : t ≤ s) (M : List ByteArray) : leI s (sm t M) = sm t M := by
  unfold leI; rw [List.filter_eq_self]; intro y hy
  obtain ⟨x, _, rfl⟩ := List.mem_map.1 hy
  simp; omega
theorem gt_sm {s t : Int} (h : t ≤ s) (M : List ByteArray) : gtI s (sm t M) = [] := by
  unfold gtI; rw [List.filter_eq_nil_iff]; intro y hy
  obtain ⟨x, _, rfl⟩ := List.mem_map.1 hy
  simp; omega
theorem le_sm1 {s t : Int} (h : s < t) (M : List ByteArray) : leI s (sm t M) = [] := by
  unfold leI; rw [List.filter_eq_nil_iff]; intro y hy
  obtain ⟨x, _, rfl⟩ := List.mem_map.1 hy
  simp; omega
theorem gt_sm1 {s t : Int} (h : s < t) (M : List ByteArray) : gtI s (sm t M) = sm t M := by
  unfold gtI; rw [List.filter_eq_self]; intro y hy
  obtain ⟨x, _, rfl⟩ := List.mem_map.1 hy
  simp; omega
theorem drop_sm (k : ByteArray) (t : Int) (M : List ByteArray) : dropI k (sm t M) = sm t (upM k M) := by unfold dropI sm upM; rw [List.filter_map]; rfl
theorem set_sm (k : ByteArray) (t : Int) (M : List ByteArray) : setI k t (sm t M) = sm t (upM k M ++ [k]) := by
  unfold setI
  rw [drop_sm, le_sm (Int.le_refl _), gt_sm (Int.le_refl _)]
  unfold sm
  rw [List.map_append]; rfl
theorem up_len (k : ByteArray) (M : List ByteArray) : (upM k M).length ≤ M.length := List.length_filter_le _ _
theorem up_take_ne {k y : ByteArray} {M : List ByteArray} {j : Nat} (h : M[j]? = some y) (hy : y ≠ k) : upM k (M.take (j + 1)) = upM k (M.take j) ++ [y] := by
  unfold upM
  rw [List.take_add_one, h, List.filter_append]
  congr 1
  simp [hy]
theorem up_take_eq {k y : ByteArray} {M : List ByteArray} {j : Nat} (h : M[j]? = some y) (hy : y = k) : upM k (M.take (j + 1)) = upM k (M.take j) := by
  unfold upM
  rw [List.take_add_one, h, List.filter_append]
  simp [hy]
end Go.Proofs.YtjngangojgjceaaGreat.EX
namespace Go.Proofs.YtjngangojgjceaaGreat.EX
open Go.ChangeShapes Go.WideShapes Go.ChangeAt Go.RowKit Go.Maps Go.ChangeMaps
open Go.Proofs.YtjngangojgjceaaGreat.SL Go.Proofs.YtjngangojgjceaaGreat.RW
set_option maxRecDepth 100000
set_option linter.unusedVariables false
set_option linter.unusedSimpArgs false

section
variable {H : Type} {enc : TypeId × Value → H} {W : World}
end
def Kq (B g n : Nat) (y : Qx) : Kp := .keep (fun w => QT B w g n y) (y.own g)
section
variable {w0 w w' : World} {g n : Nat} {I : List It} {O : List Kp}
theorem lq_copy (h : LQ w0 w g n I O) (hn : n ≤ 1000000) :
    Calls Tryz.prog 57 #[ptr g] w fun e w' => ∃ gc y, e = .returned (ptr gc) ∧ y.L.map it = I ∧ LQ w0 w' g n I (Kq w0.heap.size gc n y :: O) := by
  obtain ⟨x, h1, rfl, h3, h4⟩ := h
  refine (copy_any w w0.heap.size g n x h1 hn h3.size).mono ?_
  rintro e w' ⟨gc, y, rfl, s1, s2, s3, s4⟩
  refine ⟨gc, y, rfl, by rw [s2], x, h1.below s4, rfl, h3.trans (s4.mono h3.size), fun p hp => ?_⟩
  rcases List.mem_cons.1 hp with rfl | hp
  · exact ⟨s1, fun b hb => ⟨s1.lt hb, fun ho => by have := s3 b hb; have := h1.lt ho; omega⟩, fun w1 w2 p1 hk => p1.keep hk⟩
  · exact (h4 p hp).below s4
theorem LQ.turn {g2 n2 : Nat} {y : Qx} {J : List It} (h : LQ w0 w g n I O) (hm : Kq w0.heap.size g2 n2 y ∈ O) (hJ : y.L.map it = J) : ∃ x, x.L.map it = I ∧ LQ w0 w g2 n2 J [Kq w0.heap.size g n x] := by
  obtain ⟨x, h1, rfl, h3, h4⟩ := h
  obtain ⟨qy, hlt, _⟩ := h4 _ hm
  refine ⟨x, rfl, y, qy, hJ, h3, fun p hp => ?_⟩
  rw [List.mem_singleton] at hp
  subst hp
  exact ⟨h1, fun b hb => ⟨h1.lt hb, fun ho => (hlt b ho).2 hb⟩, fun w1 w2 p1 hk => p1.keep hk⟩
theorem LQ.other {g2 n2 : Nat} {y : Qx} {J : List It} (h : LQ w0 w g n I O) (hm : Kq w0.heap.size g2 n2 y ∈ O) (hJ : y.L.map it = J) : LQ w0 w g2 n2 J [] := by
  obtain ⟨x, _, h⟩ := h.turn hm hJ
  exact h.nil
open Classical in
noncomputable def setA (k : ByteArray) (t : Int) (I : List It) : List It := if 0 ≤ t ∧ t ≤ 1099511627776 then setI k t I else I
open Classical in
noncomputable def setC (t : Int) : Int := if 0 ≤ t ∧ t ≤ 1099511627776 then 0 else 1
def SetP (w0 : World) (g n : Nat) (k : ByteArray) (t : Int) (I : List It) (O : List Kp) (e : Ending) (w' : World) : Prop := e = .returned (.int .i64 (setC t)) ∧ ∃ n', n' ≤ n + 1 ∧ LQ w0 w' g n' (setA k t I) O
theorem lq_seta (h : LQ w0 w g n I O) (k : ByteArray) (hk : k.size ≤ 281474976710656) (t : Int) (hn : n ≤ 490) :
    Calls Tryz.prog 35 #[ptr g, .string k, .int .i64 t] w (SetP w0 g n k t I O) := by
  by_cases ht : 0 ≤ t ∧ t ≤ 1099511627776
  · refine (lq_set h k hk t ht hn _ rfl).mono ?_
    rintro e w' ⟨rfl, h2⟩
    exact ⟨by unfold setC; rw [if_pos ht], n + 1, Nat.le_refl _, by unfold setA; rw [if_pos ht]; exact h2⟩
  · refine (lq_err h k t ht).mono ?_
    rintro e w' ⟨rfl, rfl⟩
    exact ⟨by unfold setC; rw [if_neg ht], n, Nat.le_succ _, by unfold setA; rw [if_neg ht]; exact h⟩
end
theorem mem_setI {k : ByteArray} {t : Int} {I : List It} {e : It} (h : e ∈ setI k t I) : e = (k, t) ∨ e ∈ I := by
  unfold setI at h
  rcases List.mem_append.1 h with h | h
  · exact .inr (List.mem_filter.1 (List.mem_filter.1 h).1).1
  · rcases List.mem_cons.1 h with h | h
    · exact .inl h
    · exact .inr (List.mem_filter.1 (List.mem_filter.1 h).1).1
theorem mem_setA {k : ByteArray} {t : Int} {I : List It} {e : It} (h : e ∈ setA k t I) : e = (k, t) ∨ e ∈ I := by
  unfold setA at h
  split at h
  · exact mem_setI h
  · exact .inr h
def Short (I : List It) : Prop := ∀ y ∈ I, y.1.size ≤ 100
theorem Short.setA {k : ByteArray} {I : List It} (h : Short I) (hk : k.size ≤ 100) (t : Int) : Short (setA k t I) := fun y hy => by
  rcases mem_setA hy with rfl | hy
  · exact hk
  · exact h y hy
theorem Short.setI {k : ByteArray} {I : List It} (h : Short I) (hk : k.size ≤ 100) (t : Int) : Short (setI k t I) := fun y hy => by
  rcases mem_setI hy with rfl | hy
  · exact hk
  · exact h y hy
theorem Short.sub {I J : List It} (h : Short I) (hs : ∀ y ∈ J, y ∈ I) : Short J := fun y hy => h y (hs y hy)
theorem Short.dropI {I : List It} (h : Short I) (k : ByteArray) : Short (dropI k I) := h.sub fun y hy => (List.mem_filter.1 hy).1
theorem Short.gtI {I : List It} (h : Short I) (t : Int) : Short (gtI t I) := h.sub fun y hy => (List.mem_filter.1 hy).1
theorem Short.le {I : List It} (h : Short I) : ∀ y ∈ I, y.1.size ≤ 281474976710656 := fun y hy => by have := h y hy; omega
theorem atI_none {k : ByteArray} {I : List It} (h : ∀ e ∈ I, e.1 ≠ k) : atI k I = none := by
  unfold atI
  rw [List.find?_eq_none.2 (fun e he => by simpa using h e he)]; rfl
theorem no_drop {k : ByteArray} {I : List It} : ∀ e ∈ dropI k I, e.1 ≠ k := fun e he => by simpa using (List.mem_filter.1 he).2
theorem no_sub {k : ByteArray} {I J : List It} (h : ∀ e ∈ I, e.1 ≠ k) (hs : ∀ y ∈ J, y ∈ I) : ∀ e ∈ J, e.1 ≠ k := fun e he => h e (hs e he)
theorem atI_mid {k : ByteArray} {t : Int} {A B : List It} (h : ∀ e ∈ A, e.1 ≠ k) : atI k (A ++ (k, t) :: B) = some t := by
  unfold atI
  rw [List.find?_append, List.find?_eq_none.2 (fun e he => by simpa using h e he)]
  simp
theorem at_early (k : ByteArray) (t : Int) (I : List It) : atI k (gtI (t - 1) (setI k t I)) = some t := by
  unfold setI
  have e : gtI (t - 1) (leI t (dropI k I) ++ (k, t) :: gtI t (dropI k I)) = gtI (t - 1) (leI t (dropI k I)) ++ (k, t) :: gtI (t - 1) (gtI t (dropI k I)) := by
    unfold gtI
    rw [List.filter_append, List.filter_cons, if_pos (by simp; omega)]
  rw [e]
  exact atI_mid (no_sub no_drop fun y hy => (List.mem_filter.1 (List.mem_filter.1 hy).1).1)
theorem at_gone (k : ByteArray) (t : Int) (I : List It) : atI k (gtI t (setI k t I)) = none := by
  refine atI_none fun e he => ?_
  obtain ⟨h1, h2⟩ := List.mem_filter.1 he
  unfold setI at h1
  rcases List.mem_append.1 h1 with h1 | h1
  · exact no_drop e (List.mem_filter.1 h1).1
  · rcases List.mem_cons.1 h1 with h1 | h1
    · subst h1; simp at h2
    · exact no_drop e (List.mem_filter.1 h1).1
end Go.Proofs.YtjngangojgjceaaGreat.EX
namespace Go.Proofs.YtjngangojgjceaaGreat.EX
open Go.ChangeShapes Go.WideShapes Go.ChangeAt Go.RowKit Go.Maps Go.ChangeMaps
open Go.Proofs.YtjngangojgjceaaGreat.SL Go.Proofs.YtjngangojgjceaaGreat.RW
set_option maxRecDepth 100000
set_option linter.unusedVariables false
set_option linter.unusedSimpArgs false

def Rng (I : List It) : Prop := ∀ e ∈ I, 0 ≤ e.2 ∧ e.2 ≤ 1099511627776
theorem Rng.setI {k : ByteArray} {t : Int} {I : List It} (h : Rng I) (ht : 0 ≤ t ∧ t ≤ 1099511627776) : Rng (setI k t I) := fun y hy => by
  rcases mem_setI hy with rfl | hy
  · exact ht
  · exact h y hy
theorem drop_len (k : ByteArray) : ∀ I : List It, (keysI I).Nodup → (dropI k I).length + (if (atI k I).isSome then 1 else 0) = I.length
  | [], _ => rfl
  | e :: I, h => by
    obtain ⟨h1, h2⟩ := List.nodup_cons.1 h
    have ih := drop_len k I h2
    by_cases hk : e.1 = k
    · have e1 : dropI k (e :: I) = I := by
        unfold dropI
        rw [List.filter_cons, if_neg (by simp [hk]), List.filter_eq_self]
        intro y hy
        exact decide_eq_true fun hy2 => h1 (by show e.1 ∈ _; rw [hk, ← hy2]; exact List.mem_map_of_mem (f := (·.1)) hy)
      have e2 : atI k (e :: I) = some e.2 := by unfold atI; simp [hk]
      rw [e1, e2]; rfl
    · have e1 : dropI k (e :: I) = e :: dropI k I := by unfold dropI; rw [List.filter_cons, if_pos (by simp [hk])]
      have e2 : atI k (e :: I) = atI k I := by unfold atI; rw [List.find?_cons, decide_eq_false hk]
      rw [e1, e2, List.length_cons, List.length_cons]; omega
theorem le_gt_len (t : Int) : ∀ I : List It, (leI t I).length + (gtI t I).length = I.length
  | [] => rfl
  | e :: I => by
    have ih := le_gt_len t I
    unfold leI gtI at ih ⊢
    rw [List.filter_cons, List.filter_cons]
    by_cases hx : t < e.2 <;> simp [hx] <;> omega
theorem set_len {k : ByteArray} {I : List It} (h : (keysI I).Nodup) (t : Int) : (setI k t I).length + (if (atI k I).isSome then 1 else 0) = I.length + 1 := by
  have h1 := drop_len k I h
  have h2 := le_gt_len t (dropI k I)
  unfold setI
  rw [List.length_append, List.length_cons]; omega
theorem atI_of : ∀ {I : List It}, (keysI I).Nodup → ∀ {e : It}, e ∈ I → atI e.1 I = some e.2
  | f :: I, h, e, he => by
    obtain ⟨h1, h2⟩ := List.nodup_cons.1 h
    rcases List.mem_cons.1 he with rfl | he
    · unfold atI; simp
    · have hne : f.1 ≠ e.1 := fun hy2 => h1 (by show f.1 ∈ _; rw [hy2]; exact List.mem_map_of_mem (f := (·.1)) he)
      have e2 : atI e.1 (f :: I) = atI e.1 I := by unfold atI; rw [List.find?_cons, decide_eq_false hne]
      rw [e2]; exact atI_of h2 he
theorem at_le_gt {I : List It} (h : (keysI I).Nodup) {now : Int} {e : It} (he : e ∈ leI now I) : atI e.1 I = some e.2 ∧ atI e.1 (gtI now I) = none ∧ ¬ now < e.2 := by
  obtain ⟨h1, h2⟩ := List.mem_filter.1 he
  have h3 : ¬ now < e.2 := by simpa using h2
  refine ⟨atI_of h h1, atI_none fun f hf hfe => ?_, h3⟩
  obtain ⟨f1, f2⟩ := List.mem_filter.1 hf
  have a1 := atI_of h h1
  have a2 := atI_of h f1
  rw [hfe, a1] at a2
  injection a2 with a2
  have f3 : now < f.2 := by simpa using f2
  omega
theorem gt_gt (now : Int) (I : List It) : gtI now (gtI now I) = gtI now I := by unfold gtI; rw [List.filter_filter]; simp
theorem le_gt (now : Int) (I : List It) : leI now (gtI now I) = [] := by
  unfold leI; rw [List.filter_eq_nil_iff]; intro y hy
  have := (List.mem_filter.1 hy).2
  simpa using this
theorem Rng.le {I : List It} (h : Rng I) : leI 1099511627776 I = I := by
  unfold leI; rw [List.filter_eq_self]; intro y hy
  have := h y hy
  simp; omega
theorem Rng.gt {I : List It} (h : Rng I) : gtI 1099511627776 I = [] := by
  unfold gtI; rw [List.filter_eq_nil_iff]; intro y hy
  have := h y hy
  simp; omega
end Go.Proofs.YtjngangojgjceaaGreat.EX
namespace Go.Proofs.YtjngangojgjceaaGreat.EX
open Go.ChangeShapes Go.WideShapes Go.ChangeAt Go.RowKit Go.Maps Go.ChangeMaps
open Go.Proofs.YtjngangojgjceaaGreat.SL Go.Proofs.YtjngangojgjceaaGreat.RW
set_option maxRecDepth 100000
set_option linter.unusedVariables false
set_option linter.unusedSimpArgs false

/-- the call owns the entries -/
def EI (B : Nat) (w : World) (v : Value) (l : List En) : Prop := w.ownsRow B 141 2 v l.length (SL.eC l)
theorem EI.er {B : Nat} {w : World} {v : Value} {l : List En} (h : EI B w v l) : ER w v l := by
  rcases h.2 with ⟨rfl, hz⟩ | ⟨g, cap, cur, rfl, hb, hh, hc, hm, hs, ht⟩
  · exact .inl ⟨none, 0, rfl, List.eq_nil_of_length_eq_zero hz⟩
  · refine .inr ⟨g, 0, cap, rfl, hc, fun i y hi => ?_⟩
    obtain ⟨e1, e2⟩ := SL.eC_at l i y hi
    have h1 := World.ownsRow.cells h (g := g) rfl _ _ e1
    have h2 := World.ownsRow.cells h (g := g) rfl _ _ e2
    rw [Addr.add_lit] at h1 h2
    exact ⟨h1, by rw [Nat.add_assoc]; exact h2⟩
theorem EI.nil (B : Nat) (w : World) : EI B w (.slice none 0 0) [] := World.ownsRow_nil _ _ _ _
theorem EI.below {B : Nat} {w w' : World} {v : Value} {l : List En} (h : EI B w v l) (hb : Below w.heap.size w w') : EI B w' v l := by
  refine ⟨h.1, ?_⟩
  rcases h.2 with h2 | ⟨g, cap, cur, rfl, hbb, hg, hr⟩
  · exact .inl h2
  · exact .inr ⟨g, cap, cur, rfl, hbb, (hb.block g (World.ownsRow.lt h g rfl).2).trans hg, hr⟩
theorem iItm : ∃ i, Tryz.prog.info? 141 = some i ∧ i.zero = some (.agg #[.string ByteArray.empty, .int .i64 0]) ∧ i.size = 2 ∧ i.bytes = 24 := by
  have h : (Tryz.prog.info? 141).bind (fun i => if i.size = 2 ∧ i.bytes = 24 then i.zero else none) = some (.agg #[.string ByteArray.empty, .int .i64 0]) := by kernel_rfl
  cases hi : Tryz.prog.info? 141 with
  | none => rw [hi] at h; cases h
  | some j =>
    rw [hi] at h
    by_cases hc : j.size = 2 ∧ j.bytes = 24
    · simp [hc] at h
      exact ⟨j, rfl, h, hc.1, hc.2⟩
    · simp [hc] at h
/-- a list of entries put behind a list that the call owns -/
theorem wpList_app_its {w : World} {ops : Array Oper} {rest : List Oper} {o : Oper} {a : Act} {Q : Exit → Act → World → Prop} (B : Nat) (v : Value) (d : List En) (v2 : Value) (e : List En) (L : List En) (hL : d ++ e = L) (hgd : o.guard = none) (s x : Operand)
    (ho : o.op = .call { callee := .builtin .append, args := #[s, x], argTypes := #[73, 73] }) (hs : a.eval s = v) (hown : EI B w v d) (hx : a.eval x = v2) (h2 : ER w v2 e)
    (hd : d.length + e.length ≤ 1099511627776) (hB : B ≤ w.heap.size)
    (hk : ∀ va c w', EI B w' (.slice va L.length c) L → w.grownBy w' v.ownBlock ∨ w = w' → wpList Tryz.prog ops Q rest (a.put o.dst (.slice va L.length c)) w') : wpList Tryz.prog ops Q (o :: rest) a w := by
  subst hL
  obtain ⟨i, hi, hz, hsz, hby⟩ := iItm
  have none_ : ∀ p c, v2 = .slice p 0 c → e = [] → wpList Tryz.prog ops Q (o :: rest) a w := by
    rintro p c rfl rfl
    have hown0 := hown
    obtain ⟨va, vc, rfl⟩ := hown.er.form
    refine wpList_plain hgd fun K' hK => ?_
    have hrun := run_app_nothing (P := Tryz.prog) (w := w) B 73 o.type 141 i 2 Tryz.underlying73 hi _ _ _ hown p c
    unfold Oper.wp
    simp [execOp, ho, resolve, invoke, builtin, hs, hx, hrun, Result.andThen]
    refine hK _ _ ?_
    have := hk va vc w (by rw [List.append_nil]; exact hown0) (.inr rfl)
    rw [List.append_nil] at this
    exact this
  rcases h2 with ⟨A, cap, e1, e2⟩ | ⟨b, off, cap, e1, hcap, hx2⟩
  · exact none_ A cap e1 e2
  · by_cases h0 : e.length = 0
    · exact none_ _ cap (by rw [e1, h0]) (List.eq_nil_of_length_eq_zero h0)
    · subst e1
      refine wpList_append_lies _ hgd s x 73 ho B 141 i (.agg #[.string ByteArray.empty, .int .i64 0]) 2 24 Tryz.underlying73 hi hz hsz hby rfl (by decide) v d.length (SL.eC d) hs hown ⟨b, off, none⟩ e.length cap (SL.eC e) hx (SL.eC_len e) ?_ SL.eC_one (by omega) (by unfold maxLen; omega) (by omega) hB _ rfl ?_
      · intro j u hu
        obtain ⟨q, y, hq, h | h⟩ := SL.eC_inv e j u hu
        · rw [Addr.add_lit, h.1, h.2]; exact (hx2 q y hq).1
        · rw [Addr.add_lit, h.1, h.2, ← Nat.add_assoc]; exact (hx2 q y hq).2
      · intro g' cap' w' o1 o2 o3 o4
        have e1 : d.length + e.length = (d ++ e).length := by rw [List.length_append]
        rw [e1] at o1 ⊢
        exact hk _ _ _ (by unfold EI; rw [SL.eC_app]; exact o1) (.inl o2)
theorem one_it {w : World} {b : Nat} {y : En} (h : Bk w b 141 #[.string y.1, .int .i64 y.2]) : ER w (.slice (some ⟨b, 0, none⟩) 1 1) [y] :=
  .inr ⟨b, 0, 1, rfl, Nat.le_refl _, fun i x hi => by
    cases i with
    | zero => simp at hi; subst hi; exact ⟨h.cell 0, h.cell 1⟩
    | succ i => simp at hi⟩

theorem EI.keepB {B : Nat} {w w' : World} {v : Value} {l : List It} (h : EI B w v l) (hk : ∀ b, v.ownBlock = some b → w'.heap[b]? = w.heap[b]?) : EI B w' v l := by
  refine ⟨h.1, ?_⟩
  rcases h.2 with h2 | ⟨q, cap, cur, rfl, hbb, hg, hr⟩
  · exact .inl h2
  · exact .inr ⟨q, cap, cur, rfl, hbb, (hk q rfl).trans hg, hr⟩
theorem EI.ty {B : Nat} {w : World} {v : Value} {l : List It} (h : EI B w v l) : ∀ b, v.ownBlock = some b → B ≤ b ∧ b < w.heap.size ∧ ∃ cur fz, w.heap[b]? = some (.cells cur 141 fz) := by
  intro b hb
  refine ⟨(World.ownsRow.lt h b hb).1, (World.ownsRow.lt h b hb).2, ?_⟩
  rcases h.2 with ⟨rfl, _⟩ | ⟨q, cap, cur, rfl, hbb, hg, hr⟩
  · cases hb
  · injection hb with hb
    subst hb
    exact ⟨cur, _, hg⟩
theorem EI.mono {B B' : Nat} {w : World} {v : Value} {l : List It} (h : EI B w v l) (hB : B' ≤ B) : EI B' w v l := by
  refine ⟨h.1, ?_⟩
  rcases h.2 with h2 | ⟨q, cap, cur, rfl, hbb, hr⟩
  · exact .inl h2
  · exact .inr ⟨q, cap, cur, rfl, Nat.le_trans hB hbb, hr⟩
/-- at block r the document's queue, of these items -/
def RQ (B : Nat) (w : World) (r : Nat) (I : List It) : Prop := ∃ a c, Bk w r 75 #[.slice a I.length c] ∧ EI B w (.slice a I.length c) I ∧ B ≤ r
theorem RQ.below {B : Nat} {w w' : World} {r : Nat} {I : List It} (h : RQ B w r I) (hb : Below w.heap.size w w') : RQ B w' r I := by
  obtain ⟨a, c, h1, h2, h3⟩ := h
  exact ⟨a, c, h1.below hb, h2.below hb, h3⟩
theorem RQ.lt {B : Nat} {w : World} {r : Nat} {I : List It} (h : RQ B w r I) : r < w.heap.size := by obtain ⟨a, c, h1, _⟩ := h; exact h1.lt
theorem at_found {k : ByteArray} {t : Int} {I : List It} {i : Nat} (h : I[i]? = some (k, t)) (hn : ∀ e ∈ I.take i, e.1 ≠ k) : atI k I = some t := by
  have hlt := (List.getElem?_eq_some_iff.1 h).1
  have e1 : I = I.take i ++ (k, t) :: I.drop (i + 1) := by
    have h2 := List.drop_eq_getElem_cons hlt
    have h3 : I[i] = (k, t) := by have := List.getElem?_eq_getElem hlt; rw [this] at h; injection h
    rw [h3] at h2
    rw [← h2, List.take_append_drop]
  rw [e1]
  exact atI_mid hn
section
variable {B : Nat} {w : World} {r : Nat} {I : List It}
set_option maxHeartbeats 2000000 in
theorem rat_any (h : RQ B w r I) (hl : I.length ≤ 1000000) (k : ByteArray) (v : Value) (hv : AtI (atI k I) = v) :
    Calls Tryz.prog 48 #[ptr r, .string k] w fun e w' => e = .returned v ∧ ∃ n, w' = w.drewN n := by
  subst hv
  obtain ⟨a, c, hb, he, _⟩ := h
  have HE := Lib.hid he.er
  have HL := Lib.hid hl
  have HR := Lib.hid hb.lt
  have q0 := hb.cell 0
  clear hb he hl
  go_enter Tryz.func48, Tryz.ntmps48
  go_wp2
  go_loopg [6] I.length (fun g u6 wx => ∃ i : Nat, u6 = .int .i64 (i : Int) ∧ i + g = I.length ∧ (∀ e ∈ I.take i, e.1 ≠ k) ∧ ∃ n, wx = w.drewN n)
  case atStart => exact ⟨0, rfl, by omega, by simp, 0, rfl⟩
  case round =>
    obtain ⟨i, rfl, hi, hn, n0, rfl⟩ := hrel
    have HN := Lib.hid hn
    cases gk with
    | zero =>
      have hil : i = I.length := by omega
      have l1 : ¬ ((i : Int) < (I.length : Int)) := by omega
      have HA : Hid (atI k I = none) := Lib.hid (by rw [hil, List.take_length] at hn; exact atI_none hn)
      clear hi hil hn
      go_wp2
      go_ret2
      exact ⟨by rw [HA.out]; rfl, _, rfl⟩
    | succ g =>
      have hlt : i < I.length := by omega
      obtain ⟨b, off, cap, he, hc, hx⟩ := HE.out.inv (by omega)
      injection he with e1 _ e3
      subst e1 e3
      obtain ⟨y, hy⟩ : ∃ y, I[i] = y := ⟨_, rfl⟩
      have hyi : I[i]? = some y := by rw [List.getElem?_eq_getElem hlt, hy]
      obtain ⟨x0, x1⟩ := hx i y hyi
      have l0 : (0 : Int) ≤ (i : Int) := by omega
      have l1 : (i : Int) < (I.length : Int) := by omega
      obtain ⟨i1, hi1⟩ : ∃ i1, i + 1 = i1 := ⟨_, rfl⟩
      have wk : IntKind.i64.wrap ((i : Int) + 1) = (i1 : Int) := by rw [show (i : Int) + 1 = (i1 : Int) by omega]; exact IntWalk.i64_in _ (by have := HL.out; omega)
      have HI1 : Hid (i1 + g = I.length) := Lib.hid (by omega)
      have HYI := Lib.hid hyi
      obtain ⟨yk, yz⟩ := y
      simp only at x0 x1
      by_cases hk : yk = k
      · have es : (yk.toList == k.toList) = true := by rw [tl_dec]; exact decide_eq_true hk
        have HA : Hid (atI k I = some yz) := Lib.hid (by rw [hk] at hyi; exact at_found hyi hn)
        clear hi hx hc hy hyi hi1 hlt hn hk
        go_wp2
        go_ret2
        exact ⟨by rw [HA.out]; rfl, _, rfl⟩
      · have es : (yk.toList == k.toList) = false := by rw [tl_dec]; exact decide_eq_false hk
        have HN1 : Hid (∀ e ∈ I.take i1, e.1 ≠ k) := Lib.hid (by
          rw [← hi1, List.take_add_one, hyi]
          intro e he
          rcases List.mem_append.1 he with he | he
          · exact hn e he
          · simp at he; subst he; exact hk)
        clear hi hx hc hy hyi hi1 hlt hn hk
        go_wp2
        go_roundg g
        case measure => exact Nat.lt_succ_self _
        case rel => exact ⟨i1, rfl, HI1.out, HN1.out, _, rfl⟩
end
end Go.Proofs.YtjngangojgjceaaGreat.EX
namespace Go.Proofs.YtjngangojgjceaaGreat.EX
open Go.ChangeShapes Go.WideShapes Go.ChangeAt Go.RowKit Go.Maps Go.ChangeMaps
open Go.Proofs.YtjngangojgjceaaGreat.SL Go.Proofs.YtjngangojgjceaaGreat.RW
set_option maxRecDepth 100000
set_option linter.unusedVariables false
set_option linter.unusedSimpArgs false

theorem EI.grown' {B : Nat} {w w' : World} {u : Value} {d : List It} {row : Option Nat} (h : EI B w u d) (hg : w.grownBy w' row) (hn : ∀ q, row = some q → u.ownBlock ≠ some q) : EI B w' u d := h.keepB fun q hq => hg.block q (World.ownsRow.lt h q hq).2 (fun e => hn q e.symm hq)
theorem ot_ei_ne {B B' : Nat} {w : World} {u v : Value} {d : List ByteArray} {l : List It} (h1 : OT B w u d) (h2 : EI B' w v l) : ∀ q, u.ownBlock = some q → v.ownBlock ≠ some q := by
  intro q hq hv
  obtain ⟨_, c1, f1, e1⟩ := h1.ty q hq
  obtain ⟨_, _, c2, f2, e2⟩ := h2.ty q hv
  rw [e1] at e2
  injection e2 with e2
  injection e2 with _ e3 _
  exact absurd e3 (by decide)
theorem its_below {B : Nat} {w0 w w1 w' : World} {v : Value} {l : List It} (h : EI B w v l) (hb : Below B w0 w1) (hs : B ≤ w1.heap.size) (hg : w1.grownBy w' v.ownBlock ∨ w1 = w') : Below B w0 w' := by
  rcases hg with hg | hg
  · exact hb.grown hg hs fun q hq => (World.ownsRow.lt h q hq).1
  · rw [← hg]; exact hb
theorem RQ.stored {B B' : Nat} {w : World} {r : Nat} {cs : Value} {a : Option Addr} {c : Nat} {L : List It} (h : Bk w r 75 #[cs]) (he : EI B' w (.slice a L.length c) L) (hr : r < B') (hB : B ≤ r) : RQ B (w.setCell ⟨r, 0, none⟩ (.slice a L.length c)) r L :=
  ⟨a, c, h.set_ 0 _, (he.keepB fun b hb => Below.heap_setCell w _ _ b (by have := (he.ty b hb).1; show b ≠ r; omega)).mono (by omega), hB⟩
theorem ot_far {B : Nat} {w : World} {v : Value} {d : List ByteArray} (h : OT B w v d) {p : Addr} (hp : p.block < B) (u : Value) : OT B (w.setCell p u) v d := h.keep fun b hb => Below.heap_setCell w p u b (by have := (World.ownsRow.lt h b hb).1; omega)
theorem chg_stored {w w' : World} {r : Nat} (h : Below w.heap.size w w') (u : Value) : Chg (fun b => b = r) w (w'.setCell ⟨r, 0, none⟩ u) := (Chg.of_below (S := fun b => b = r) h).setCell (p := ⟨r, 0, none⟩) rfl u
theorem gt_take {now : Int} {I : List It} {i : Nat} {y : It} (h : I[i]? = some y) : gtI now (I.take (i + 1)) = if now < y.2 then gtI now (I.take i) ++ [y] else gtI now (I.take i) := by
  rw [List.take_add_one, h]; unfold gtI; rw [List.filter_append]
  by_cases e : now < y.2
  · rw [if_pos e]; simp [e]
  · rw [if_neg e]; simp [e]
theorem le_take {now : Int} {I : List It} {i : Nat} {y : It} (h : I[i]? = some y) : keysI (leI now (I.take (i + 1))) = if now < y.2 then keysI (leI now (I.take i)) else keysI (leI now (I.take i)) ++ [y.1] := by
  rw [List.take_add_one, h]; unfold leI keysI; rw [List.filter_append, List.map_append]
  by_cases e : now < y.2
  · rw [if_pos e]; simp [e]
  · rw [if_neg e]; simp [e]
section
variable {B : Nat} {w : World} {r : Nat} {I : List It}
set_option maxHeartbeats 4000000 in
theorem rdrop_any (h : RQ B w r I) (hl : I.length ≤ 1000000) (k : ByteArray) (R : List It) (hR : dropI k I = R) (bb : Bool) (hbb : decide (R.length < I.length) = bb) :
    Calls Tryz.prog 81 #[ptr r, .string k] w fun e w' => e = .returned (.bool bb) ∧ RQ B w' r R ∧ Chg (fun b => b = r) w w' := by
  obtain ⟨a, c, hb, he, hB0⟩ := h
  have HE := Lib.hid he.er
  have HLEN := Lib.hid hl
  have HBK := Lib.hid hb
  have HR := Lib.hid hR
  have HBB := Lib.hid hbb
  have HB0 := Lib.hid hB0
  clear hb he hl hR hB0 hbb
  go_enter Tryz.func81, Tryz.ntmps81
  go_wp2
  go_loopg [5, 6] I.length (fun g u5 u6 wx => ∃ (i : Nat) (D : List It), u6 = .int .i64 (i : Int) ∧ i + g = I.length ∧ dropI k (I.take i) = D ∧ (∃ a c, u5 = .slice a D.length c) ∧ EI w.heap.size wx u5 D ∧ Below w.heap.size w wx)
  case atStart => exact ⟨0, [], rfl, by omega, rfl, ⟨_, _, rfl⟩, EI.nil _ _, Below.refl _ _⟩
  case round =>
    obtain ⟨i, D, rfl, hi, hD, ⟨ua, uc, rfl⟩, hO, hB⟩ := hrel
    have HO := Lib.hid hO
    have HB := Lib.hid hB
    have HK := Lib.hid (HBK.out.below hB)
    have q0 := HK.out.cell 0
    cases gk with
    | zero =>
      have hil : i = I.length := by omega
      have l1 : ¬ ((i : Int) < (I.length : Int)) := by omega
      have hd2 : D = R := by rw [← hD, hil, List.take_length]; exact HR.out
      subst hd2
      have f0 := HK.out.frozen 0
      have HQ := Lib.hid (RQ.stored (B := B) HK.out HO.out HBK.out.lt HB0.out)
      have HC := Lib.hid (chg_stored (r := r) hB (.slice ua D.length uc))
      clear hi hil hO hB hD
      by_cases hlt : D.length < I.length
      · have l3 : (D.length : Int) < (I.length : Int) := by omega
        have HBT : Hid (bb = true) := Lib.hid (by rw [← HBB.out]; exact decide_eq_true hlt)
        clear hlt
        go_wp2
        go_ret
        exact ⟨by rw [HBT.out]; rfl, HQ.out, HC.out⟩
      · have l3 : ¬ ((D.length : Int) < (I.length : Int)) := by omega
        have HBT : Hid (bb = false) := Lib.hid (by rw [← HBB.out]; exact decide_eq_false hlt)
        clear hlt
        go_wp2
        go_ret
        exact ⟨by rw [HBT.out]; rfl, HQ.out, HC.out⟩
    | succ g =>
      have hlt : i < I.length := by omega
      obtain ⟨b, off, cap, he, hc, hx⟩ := (HE.out.below hB).inv (by omega)
      injection he with e1 _ e3
      subst e1 e3
      obtain ⟨y, hy⟩ : ∃ y, I[i] = y := ⟨_, rfl⟩
      have hyi : I[i]? = some y := by rw [List.getElem?_eq_getElem hlt, hy]
      obtain ⟨x0, x1⟩ := hx i y hyi
      have l0 : (0 : Int) ≤ (i : Int) := by omega
      have l1 : (i : Int) < (I.length : Int) := by omega
      obtain ⟨i1, hi1⟩ : ∃ i1, i + 1 = i1 := ⟨_, rfl⟩
      have wk : IntKind.i64.wrap ((i : Int) + 1) = (i1 : Int) := by rw [show (i : Int) + 1 = (i1 : Int) by omega]; exact IntWalk.i64_in _ (by have := HLEN.out; omega)
      have hdl : dropI k (I.take (i + 1)) = if y.1 = k then dropI k (I.take i) else dropI k (I.take i) ++ [y] := delE_take (k := k) hyi
      rw [hi1, hD] at hdl
      have HDL : Hid (D.length ≤ 1073741824) := Lib.hid (by
        rw [← hD]
        unfold dropI
        have := List.length_filter_le (fun x : It => decide (x.1 ≠ k)) (I.take i)
        rw [List.length_take] at this
        have := HLEN.out; omega)
      have HI1 : Hid (i1 + g = I.length) := Lib.hid (by omega)
      obtain ⟨yk, yz⟩ := y
      simp only at hdl x0 x1
      by_cases hk : yk = k
      · have es : (yk.toList == k.toList) = true := by rw [tl_dec]; exact decide_eq_true hk
        have es2 : (!(yk.toList == k.toList)) = false := by rw [es]; rfl
        rw [if_pos hk] at hdl
        have HDD := Lib.hid hdl
        clear hi hx hc hy hyi hi1 hk hlt hdl hD hO hB
        go_wp2
        go_roundg g
        case measure => exact Nat.lt_succ_self _
        case rel => exact ⟨i1, D, rfl, HI1.out, HDD.out, ⟨_, _, rfl⟩, HO.out, HB.out⟩
      · have es : (yk.toList == k.toList) = false := by rw [tl_dec]; exact decide_eq_false hk
        have es2 : (!(yk.toList == k.toList)) = true := by rw [es]; rfl
        rw [if_neg hk] at hdl
        obtain ⟨D2, hD2⟩ : ∃ D2, D ++ [(yk, yz)] = D2 := ⟨_, rfl⟩
        rw [hD2] at hdl
        have HDD := Lib.hid hdl
        have HD2 := Lib.hid hD2
        clear hi hx hc hy hyi hi1 hk hlt hdl hD hO hB hD2
        have hbx : Below wr.heap.size wr (wr.alloc (.cells #[.string yk, .int .i64 yz] 141)) := (Below.refl _ _).alloc (Nat.le_refl _) _
        have HBX := Lib.hid hbx
        clear hbx
        go_wp2_with (at_builtin; refine wpList_app_its w.heap.size (.slice ua D.length uc) D (.slice (some ⟨wr.heap.size, 0, none⟩) 1 1) [(yk, yz)] D2 HD2.out rfl _ _ rfl rfl (HO.out.below HBX.out) rfl (one_it (Bk.new wr _ _)) (by have := HDL.out; simp; omega) (by have := HB.out.size; simp; omega) ?_; intro va9 c9 w9 o9 b9)
        have HB9 : Hid (Below w.heap.size w w9) := Lib.hid (its_below (HO.out) (HB.out.alloc HB.out.size _) (by have := HB.out.size; simp; omega) b9)
        have HO9 := Lib.hid o9
        clear o9 b9
        go_wp2
        go_roundg g
        case measure => exact Nat.lt_succ_self _
        case rel => exact ⟨i1, D2, rfl, HI1.out, HDD.out, ⟨_, _, rfl⟩, HO9.out, HB9.out⟩
set_option maxHeartbeats 4000000 in
theorem rdue_any (h : RQ B w r I) (hl : I.length ≤ 1000000) (now : Int) (R : List It) (hR : gtI now I = R) (d : List ByteArray) (hd : keysI (leI now I) = d) :
    Calls Tryz.prog 53 #[ptr r, .int .i64 now] w fun e w' => ∃ v, e = .returned v ∧ OT w.heap.size w' v d ∧ RQ B w' r R ∧ Chg (fun b => b = r) w w' := by
  obtain ⟨a, c, hb, he, hB0⟩ := h
  have HE := Lib.hid he.er
  have HLEN := Lib.hid hl
  have HBK := Lib.hid hb
  have HR := Lib.hid hR
  have HD := Lib.hid hd
  have HB0 := Lib.hid hB0
  clear hb he hl hR hB0 hd
  go_enter Tryz.func53, Tryz.ntmps53
  go_wp2
  go_loopg [5, 6, 7] I.length (fun g u5 u6 u7 wx => ∃ (i : Nat) (D : List It), u7 = .int .i64 (i : Int) ∧ i + g = I.length ∧ gtI now (I.take i) = D ∧ (∃ a c, u6 = .slice a D.length c) ∧ OT w.heap.size wx u5 (keysI (leI now (I.take i))) ∧ EI w.heap.size wx u6 D ∧ Below w.heap.size w wx)
  case atStart => exact ⟨0, [], rfl, by omega, rfl, ⟨_, _, rfl⟩, OT.nil _ _, EI.nil _ _, Below.refl _ _⟩
  case round =>
    obtain ⟨i, D, rfl, hi, hD, ⟨ua, uc, rfl⟩, hot, hO, hB⟩ := hrel
    have HO := Lib.hid hO
    have HOT := Lib.hid hot
    have HB := Lib.hid hB
    have HK := Lib.hid (HBK.out.below hB)
    have q0 := HK.out.cell 0
    cases gk with
    | zero =>
      have hil : i = I.length := by omega
      have l1 : ¬ ((i : Int) < (I.length : Int)) := by omega
      have hd2 : D = R := by rw [← hD, hil, List.take_length]; exact HR.out
      subst hd2
      have f0 := HK.out.frozen 0
      have HQ := Lib.hid (RQ.stored (B := B) HK.out HO.out HBK.out.lt HB0.out)
      have HC := Lib.hid (chg_stored (r := r) hB (.slice ua D.length uc))
      have HF : Hid (OT w.heap.size (wr.setCell ⟨r, 0, none⟩ (.slice ua D.length uc)) u5 d) := Lib.hid (by rw [hil, List.take_length, HD.out] at hot; exact ot_far hot (show r < w.heap.size from HBK.out.lt) _)
      clear hi hil hO hB hD hot
      go_wp2
      go_ret
      exact ⟨_, rfl, HF.out, HQ.out, HC.out⟩
    | succ g =>
      have hlt : i < I.length := by omega
      obtain ⟨b, off, cap, he, hc, hx⟩ := (HE.out.below hB).inv (by omega)
      injection he with e1 _ e3
      subst e1 e3
      obtain ⟨y, hy⟩ : ∃ y, I[i] = y := ⟨_, rfl⟩
      have hyi : I[i]? = some y := by rw [List.getElem?_eq_getElem hlt, hy]
      obtain ⟨x0, x1⟩ := hx i y hyi
      have l0 : (0 : Int) ≤ (i : Int) := by omega
      have l1 : (i : Int) < (I.length : Int) := by omega
      obtain ⟨i1, hi1⟩ : ∃ i1, i + 1 = i1 := ⟨_, rfl⟩
      have wk : IntKind.i64.wrap ((i : Int) + 1) = (i1 : Int) := by rw [show (i : Int) + 1 = (i1 : Int) by omega]; exact IntWalk.i64_in _ (by have := HLEN.out; omega)
      have hgt := gt_take (now := now) hyi
      have hle := le_take (now := now) hyi
      rw [hi1, hD] at hgt
      rw [hi1] at hle
      have HDL : Hid (D.length ≤ 1073741824 ∧ (keysI (leI now (I.take i))).length ≤ 1073741824) := Lib.hid (by
        rw [← hD]
        have h1 := le_gt_len now (I.take i)
        rw [List.length_take] at h1
        have h2 : (keysI (leI now (I.take i))).length = (leI now (I.take i)).length := by unfold keysI; rw [List.length_map]
        have := HLEN.out; omega)
      have HI1 : Hid (i1 + g = I.length) := Lib.hid (by omega)
      have HWS : Hid (w.heap.size ≤ wr.heap.size) := Lib.hid hB.size
      obtain ⟨yk, yz⟩ := y
      simp only at hgt hle x0 x1
      by_cases hk : now < yz
      · have hk2 : ¬ (yz ≤ now) := by omega
        rw [if_pos hk] at hgt hle
        obtain ⟨D2, hD2⟩ : ∃ D2, D ++ [(yk, yz)] = D2 := ⟨_, rfl⟩
        rw [hD2] at hgt
        have HGT := Lib.hid hgt
        have HLE := Lib.hid hle
        have HD2 := Lib.hid hD2
        clear hi hx hc hy hyi hi1 hk hlt hgt hle hD hO hB hD2 hot
        have hbx : Below wr.heap.size wr (wr.alloc (.cells #[.string yk, .int .i64 yz] 141)) := (Below.refl _ _).alloc (Nat.le_refl _) _
        have HBX := Lib.hid hbx
        clear hbx
        go_wp2_with (at_builtin; refine wpList_app_its w.heap.size (.slice ua D.length uc) D (.slice (some ⟨wr.heap.size, 0, none⟩) 1 1) [(yk, yz)] D2 HD2.out rfl _ _ rfl rfl (HO.out.below HBX.out) rfl (one_it (Bk.new wr _ _)) (by have := HDL.out; simp; omega) (by have := HB.out.size; simp; omega) ?_; intro va9 c9 w9 o9 b9)
        have HB9 : Hid (Below w.heap.size w w9) := Lib.hid (its_below (HO.out) (HB.out.alloc HB.out.size _) (by have := HB.out.size; simp; omega) b9)
        have HO9 := Lib.hid o9
        have HT9 : Hid (OT w.heap.size w9 u5 (keysI (leI now (I.take i1)))) := Lib.hid (by
          rw [HLE.out]
          have h1 := HOT.out.below HBX.out
          rcases b9 with b9 | b9
          · exact OT.grown' h1 b9 fun q hq => fun hu => ot_ei_ne h1 (HO.out.below HBX.out) q hu hq
          · rw [← b9]; exact h1)
        clear o9 b9
        go_wp2
        go_roundg g
        case measure => exact Nat.lt_succ_self _
        case rel => exact ⟨i1, D2, rfl, HI1.out, HGT.out, ⟨_, _, rfl⟩, HT9.out, HO9.out, HB9.out⟩
      · have hk2 : yz ≤ now := by omega
        rw [if_neg hk] at hgt hle
        have HGT := Lib.hid hgt
        have HLE := Lib.hid hle
        clear hi hx hc hy hyi hi1 hk hlt hgt hle hD hO hB hot
        have hbx : Below wr.heap.size wr (wr.alloc (.cells #[.string yk] 9)) := (Below.refl _ _).alloc (Nat.le_refl _) _
        have HBX := Lib.hid hbx
        clear hbx
        go_wp2_with (at_builtin; refine wpList_app_text w.heap.size u5 (keysI (leI now (I.take i))) yk wr.heap.size rfl _ _ rfl rfl (HOT.out.below HBX.out) rfl (Bk.new _ _ _) (by have := HDL.out; omega) (by have := HWS.out; simp; omega) ?_; intro g9 cap9 w9 o9 gr9)
        have hbl9 : Below w.heap.size w w9 := (HB.out.alloc HWS.out _).grown gr9 (by have := HWS.out; simp; omega) (fun k hk => (World.ownsRow.lt HOT.out k hk).1)
        have ho9 : OT w.heap.size w9 (.slice (some ⟨g9, 0, none⟩) ((keysI (leI now (I.take i))).length + 1) cap9) (keysI (leI now (I.take i1))) := by rw [HLE.out]; exact o9
        have HI9 : Hid (EI w.heap.size w9 (.slice ua D.length uc) D) := Lib.hid ((HO.out.below HBX.out).grown' gr9 fun q hq => ot_ei_ne (HOT.out.below HBX.out) (HO.out.below HBX.out) q hq)
        have HO9 := Lib.hid ho9
        have HB9 := Lib.hid hbl9
        clear o9 gr9 hbl9 ho9
        go_wp2
        go_roundg g
        case measure => exact Nat.lt_succ_self _
        case rel => exact ⟨i1, D, rfl, HI1.out, HGT.out, ⟨_, _, rfl⟩, HO9.out, HI9.out, HB9.out⟩
end
end Go.Proofs.YtjngangojgjceaaGreat.EX
namespace Go.Proofs.YtjngangojgjceaaGreat.EX
open Go.ChangeShapes Go.WideShapes Go.ChangeAt Go.RowKit Go.Maps Go.ChangeMaps
open Go.Proofs.YtjngangojgjceaaGreat.SL Go.Proofs.YtjngangojgjceaaGreat.RW
set_option maxRecDepth 100000
set_option linter.unusedVariables false
set_option linter.unusedSimpArgs false

theorem rise_split (t : Int) : ∀ L : List It, L.Pairwise (fun a b => a.2 ≤ b.2) → L = leI t L ++ gtI t L
  | [], _ => rfl
  | x :: L, hp => by
    obtain ⟨h1, h2⟩ := List.pairwise_cons.1 hp
    have ih := rise_split t L h2
    by_cases hx : t < x.2
    · have hall : ∀ y ∈ L, t < y.2 := fun y hy => by have := h1 y hy; omega
      have e1 : leI t (x :: L) = [] := by
        unfold leI; rw [List.filter_eq_nil_iff]; intro y hy
        rcases List.mem_cons.1 hy with rfl | hy
        · simp [hx]
        · simp [hall y hy]
      have e2 : gtI t (x :: L) = x :: L := by
        unfold gtI; rw [List.filter_eq_self]; intro y hy
        rcases List.mem_cons.1 hy with rfl | hy
        · simp [hx]
        · simp [hall y hy]
      rw [e1, e2]; rfl
    · have e1 : leI t (x :: L) = x :: leI t L := by unfold leI; rw [List.filter_cons, if_pos (by simp [hx])]
      have e2 : gtI t (x :: L) = gtI t L := by unfold gtI; rw [List.filter_cons, if_neg (by simp [hx])]
      rw [e1, e2]
      exact congrArg (x :: ·) ih
theorem er_cell {w : World} {b n c : Nat} {d : List It} (h : ER w (.slice (some ⟨b, 0, none⟩) n c) d) {i : Nat} {x : It} (hi : d[i]? = some x) : w.cell? ⟨b, i * 2, none⟩ = some (.string x.1) ∧ w.cell? ⟨b, i * 2 + 1, none⟩ = some (.int .i64 x.2) := by
  rcases h with ⟨_, _, _, rfl⟩ | ⟨g, off, cap, e, _, hx⟩
  · cases hi
  · injection e with e1 _ e3
    injection e1 with e1
    injection e1 with e1 e2
    subst e1 e2
    have := hx i x hi
    rw [Nat.zero_add] at this
    exact this
theorem er_tail {w : World} {b c : Nat} {d : List It} (h : ER w (.slice (some ⟨b, 0, none⟩) d.length c) d) (i : Nat) (hi : i ≤ d.length) (hc : d.length ≤ c) : ER w (.slice (some ⟨b, i * 2, none⟩) (d.length - i) (c - i)) (d.drop i) := by
  refine .inr ⟨b, i * 2, c - i, by rw [List.length_drop], by rw [List.length_drop]; omega, fun j y hj => ?_⟩
  rw [List.getElem?_drop] at hj
  have := er_cell h hj
  rw [Nat.add_mul] at this
  exact this
section
variable {B : Nat} {w : World} {r : Nat} {I : List It}
theorem rset_err (k : ByteArray) (t : Int) (ht : ¬ (0 ≤ t ∧ t ≤ 1099511627776)) :
    Calls Tryz.prog 42 #[ptr r, .string k, .int .i64 t] w fun e w' => e = .returned (.int .i64 1) ∧ w = w' := by
  by_cases h0 : t < 0
  · clear ht
    go_enter Tryz.func42, Tryz.ntmps42
    go_wp2
    go_ret
    exact ⟨rfl, rfl⟩
  · have h1 : 1099511627776 < t := by omega
    clear ht
    go_enter Tryz.func42, Tryz.ntmps42
    go_wp2
    go_ret
    exact ⟨rfl, rfl⟩
set_option maxHeartbeats 4000000 in
theorem rset_any (h : RQ B w r I) (hl : I.length ≤ 1000000) (hs : I.Pairwise (fun a b => a.2 ≤ b.2)) (k : ByteArray) (t : Int) (ht : 0 ≤ t ∧ t ≤ 1099511627776) (R : List It) (hR : setI k t I = R) :
    Calls Tryz.prog 42 #[ptr r, .string k, .int .i64 t] w fun e w' => e = .returned (.int .i64 0) ∧ RQ B w' r R ∧ Chg (fun b => b = r) w w' := by
  have n0 : ¬ (t < 0) := by omega
  have n1 : ¬ (1099511627776 < t) := by omega
  obtain ⟨D, hD⟩ : ∃ D, dropI k I = D := ⟨_, rfl⟩
  obtain ⟨A, hA⟩ : ∃ A, leI t D = A := ⟨_, rfl⟩
  obtain ⟨G, hG⟩ : ∃ A, gtI t D = A := ⟨_, rfl⟩
  have hsp : D = A ++ G := by rw [← hA, ← hG]; exact rise_split t D (by rw [← hD]; exact hs.sublist List.filter_sublist)
  have hRR : A ++ [(k, t)] ++ G = R := by
    rw [← hR]; unfold setI
    rw [hD, hA, hG, List.append_assoc]; rfl
  have HA : Hid (∀ e ∈ A, e.2 ≤ t) := Lib.hid (by rw [← hA]; exact fun e he => by simpa using (List.mem_filter.1 he).2)
  have HG : Hid (∀ e ∈ G, t < e.2) := Lib.hid (by rw [← hG]; exact fun e he => by simpa using (List.mem_filter.1 he).2)
  have HLEN : Hid (D.length ≤ 1000000 ∧ D.length = A.length + G.length) := Lib.hid ⟨by rw [← hD]; exact Nat.le_trans (List.length_filter_le _ _) hl, by rw [hsp, List.length_append]⟩
  have HL0 := Lib.hid hl
  have H := Lib.hid h
  have HLT := Lib.hid h.lt
  have HDD := Lib.hid hD
  have HSP := Lib.hid hsp
  have HRR := Lib.hid hRR
  clear h hl hs ht hR hD hA hG hsp hRR
  go_enter Tryz.func42, Tryz.ntmps42
  go_wp2_with fail
  refine (rdrop_any H.out HL0.out k D HDD.out _ rfl).mono ?_
  rintro e w1 ⟨rfl, ⟨a, c, hb, he, hB0⟩, hc1⟩
  have hinv : (a = none ∧ c = 0 ∧ D = []) ∨ ∃ b, a = some ⟨b, 0, none⟩ ∧ D.length ≤ c ∧ c ≤ maxLen := by
    rcases he.2 with ⟨e, hz⟩ | ⟨g, cap, cur, e, hb2, hh, hcc, hm, _⟩
    · injection e with e1 _ e3
      exact .inl ⟨e1, e3, List.eq_nil_of_length_eq_zero hz⟩
    · injection e with e1 _ e3
      subst e1 e3
      exact .inr ⟨g, rfl, hcc, hm⟩
  have HINV := Lib.hid hinv
  clear hinv
  have HE := Lib.hid he.er
  have HBK := Lib.hid hb
  have HB0 := Lib.hid hB0
  have HC1 := Lib.hid hc1
  clear hb he hB0 hc1
  go_wp2
  go_loopg [7, 8] A.length (fun g u7 u8 wx => ∃ (i : Nat) (E : List It), u8 = .int .i64 (i : Int) ∧ i + g = A.length ∧ A.take i = E ∧ (∃ a c, u7 = .slice a E.length c) ∧ EI w1.heap.size wx u7 E ∧ Below w1.heap.size w1 wx)
  case atStart => exact ⟨0, [], rfl, by omega, rfl, ⟨_, _, rfl⟩, EI.nil _ _, Below.refl _ _⟩
  case round =>
    obtain ⟨i, E, rfl, hi, hE, ⟨ua, uc, rfl⟩, hO, hB⟩ := hrel
    have HO := Lib.hid hO
    have HB := Lib.hid hB
    have HK := Lib.hid (HBK.out.below hB)
    have HEL : Hid (E.length = i) := Lib.hid (by rw [← hE, List.length_take]; omega)
    have q0 := HK.out.cell 0
    cases gk with
    | zero =>
      have hil : i = A.length := by omega
      have HEA : Hid (E ++ [(k, t)] ++ G = R) := Lib.hid (by rw [← hE, hil, List.take_length]; exact HRR.out)
      have HIL := Lib.hid hil
      have HER := Lib.hid (HE.out.below hB)
      have f0 := HK.out.frozen 0
      obtain ⟨M, hM⟩ : ∃ M, E ++ [(k, t)] = M := ⟨_, rfl⟩
      have HM := Lib.hid hM
      have HMR : Hid (M ++ G = R) := Lib.hid (by rw [← hM]; exact HEA.out)
      have HML : Hid (M.length ≤ 1000001) := Lib.hid (by rw [← hM, List.length_append]; have := HEL.out; have := HLEN.out; simp; omega)
      clear hi hO hB hE hM hil
      rcases HINV.out with ⟨rfl, rfl, hD0⟩ | ⟨b, rfl, hcap, hmax⟩
      · have hG0 : G = [] := by have h1 := HLEN.out; rw [hD0, List.length_nil] at h1; exact List.eq_nil_of_length_eq_zero (by omega)
        have hi0 : i = 0 := by have h1 := HLEN.out; have h2 := HIL.out; rw [hD0, List.length_nil] at h1; omega
        have HMR0 : Hid (M ++ [] = R) := Lib.hid (by rw [← hG0]; exact HMR.out)
        subst hi0
        have q1 : wr.cell? ⟨r, 0, none⟩ = some (.slice none 0 0) := by rw [q0, hD0]; rfl
        have HK1 : Hid (Bk wr r 75 #[.slice none 0 0]) := Lib.hid (by have := HK.out; rw [hD0] at this; exact this)
        have HD0 := Lib.hid hD0
        clear q0 hG0 hD0
        have hbx : Below wr.heap.size wr (wr.alloc (.cells #[.string k, .int .i64 t] 141)) := (Below.refl _ _).alloc (Nat.le_refl _) _
        have HBX := Lib.hid hbx
        clear hbx
        go_wp2_with (at_builtin; first
          | (refine wpList_app_its w1.heap.size (.slice ua E.length uc) E (.slice (some ⟨wr.heap.size, 0, none⟩) 1 1) [(k, t)] M HM.out rfl _ _ rfl rfl (HO.out.below HBX.out) rfl (one_it (Bk.new wr _ _)) (by have := HEL.out; have := HIL.out; have := HLEN.out; simp; omega) (by have := HB.out.size; simp; omega) ?_; intro va9 c9 w9 o9 b9; have HB9 : Hid (Below w1.heap.size w1 w9) := Lib.hid (its_below (HO.out) (HB.out.alloc HB.out.size _) (by have := HB.out.size; simp; omega) b9); have HO9 := Lib.hid o9; have q9 := (HBK.out.below HB9.out).cell 0; rw [show D = [] from HD0.out] at q9; clear o9 b9)
          | (refine wpList_app_its w1.heap.size (.slice va9 M.length c9) M (.slice none 0 0) [] R HMR0.out rfl _ _ rfl rfl HO9.out rfl (.inl ⟨none, 0, rfl, rfl⟩) (by have := HML.out; simp; omega) HB9.out.size ?_; intro va10 c10 w10 o10 b10; have HB10 : Hid (Below w1.heap.size w1 w10) := Lib.hid (its_below HO9.out HB9.out HB9.out.size b10); have f10 := (HBK.out.below HB10.out).frozen 0; have p10 := (HBK.out.below HB10.out).cell 0; have HQ := Lib.hid (RQ.stored (B := B) (HBK.out.below HB10.out) o10 HBK.out.lt HB0.out); have HC := Lib.hid (HC1.out.trans (chg_stored (r := r) HB10.out (.slice va10 R.length c10))); clear o10 b10))
        go_ret
        exact ⟨rfl, HQ.out, HC.out⟩
      · have hcm : c ≤ 9223372036854775807 := by unfold maxLen at hmax; omega
        have l0 : (0 : Int) ≤ (i : Int) := by omega
        have hiD : i ≤ D.length := by have := HLEN.out; have := HIL.out; omega
        have HDR : Hid (D.drop i = G) := Lib.hid (by rw [HSP.out, HIL.out]; exact List.drop_left ..)
        cases hG : G with
        | nil =>
          have l1 : ¬ ((i : Int) < (D.length : Int)) := by have h1 := HLEN.out; have h2 := HIL.out; rw [hG, List.length_nil] at h1; omega
          have HGN : Hid (G = []) := Lib.hid hG
          have HDI : Hid (D.length - i = 0) := Lib.hid (by have h1 := HLEN.out; have h2 := HIL.out; rw [hG, List.length_nil] at h1; omega)
          clear hG
          by_cases hci : c = i
          · subst hci
            have hbx : Below wr.heap.size wr (wr.alloc (.cells #[.string k, .int .i64 t] 141)) := (Below.refl _ _).alloc (Nat.le_refl _) _
            have HBX := Lib.hid hbx
            clear hbx
            go_wp2_with (at_builtin; first
              | (refine wpList_app_its w1.heap.size (.slice ua E.length uc) E (.slice (some ⟨wr.heap.size, 0, none⟩) 1 1) [(k, t)] M HM.out rfl _ _ rfl rfl (HO.out.below HBX.out) rfl (one_it (Bk.new wr _ _)) (by have := HEL.out; have := HIL.out; have := HLEN.out; simp; omega) (by have := HB.out.size; simp; omega) ?_; intro va9 c9 w9 o9 b9; have HB9 : Hid (Below w1.heap.size w1 w9) := Lib.hid (its_below (HO.out) (HB.out.alloc HB.out.size _) (by have := HB.out.size; simp; omega) b9); have HO9 := Lib.hid o9; have q9 := (HBK.out.below HB9.out).cell 0; clear o9 b9)
              | (refine wpList_app_its w1.heap.size (.slice va9 M.length c9) M _ G R HMR.out rfl _ _ rfl rfl HO9.out rfl (by first | (have h8 := er_tail (HE.out.below HB9.out) i hiD hcap; rw [HDR.out] at h8; first | exact h8 | (rw [HDI.out] at h8; exact h8) | (rw [HDI.out] at h8; simpa using h8)) | exact .inl ⟨_, _, rfl, HGN.out⟩ | exact .inl ⟨_, _, by rw [HDI.out], HGN.out⟩ | (split <;> first | exact .inl ⟨_, _, rfl, HGN.out⟩ | exact .inl ⟨_, _, by rw [HDI.out], HGN.out⟩)) (by have := HML.out; have := HLEN.out; omega) HB9.out.size ?_; intro va10 c10 w10 o10 b10; have HB10 : Hid (Below w1.heap.size w1 w10) := Lib.hid (its_below HO9.out HB9.out HB9.out.size b10); have f10 := (HBK.out.below HB10.out).frozen 0; have p10 := (HBK.out.below HB10.out).cell 0; have HQ := Lib.hid (RQ.stored (B := B) (HBK.out.below HB10.out) o10 HBK.out.lt HB0.out); have HC := Lib.hid (HC1.out.trans (chg_stored (r := r) HB10.out (.slice va10 R.length c10))); clear o10 b10))
            go_ret
            exact ⟨rfl, HQ.out, HC.out⟩
          · have hci2 : ¬ (i = c) := fun e => hci e.symm
            have hbx : Below wr.heap.size wr (wr.alloc (.cells #[.string k, .int .i64 t] 141)) := (Below.refl _ _).alloc (Nat.le_refl _) _
            have HBX := Lib.hid hbx
            clear hbx
            go_wp2_with (at_builtin; first
              | (refine wpList_app_its w1.heap.size (.slice ua E.length uc) E (.slice (some ⟨wr.heap.size, 0, none⟩) 1 1) [(k, t)] M HM.out rfl _ _ rfl rfl (HO.out.below HBX.out) rfl (one_it (Bk.new wr _ _)) (by have := HEL.out; have := HIL.out; have := HLEN.out; simp; omega) (by have := HB.out.size; simp; omega) ?_; intro va9 c9 w9 o9 b9; have HB9 : Hid (Below w1.heap.size w1 w9) := Lib.hid (its_below (HO.out) (HB.out.alloc HB.out.size _) (by have := HB.out.size; simp; omega) b9); have HO9 := Lib.hid o9; have q9 := (HBK.out.below HB9.out).cell 0; clear o9 b9)
              | (refine wpList_app_its w1.heap.size (.slice va9 M.length c9) M _ G R HMR.out rfl _ _ rfl rfl HO9.out rfl (by first | (have h8 := er_tail (HE.out.below HB9.out) i hiD hcap; rw [HDR.out] at h8; first | exact h8 | (rw [HDI.out] at h8; exact h8) | (rw [HDI.out] at h8; simpa using h8)) | exact .inl ⟨_, _, rfl, HGN.out⟩ | exact .inl ⟨_, _, by rw [HDI.out], HGN.out⟩ | (split <;> first | exact .inl ⟨_, _, rfl, HGN.out⟩ | exact .inl ⟨_, _, by rw [HDI.out], HGN.out⟩)) (by have := HML.out; have := HLEN.out; omega) HB9.out.size ?_; intro va10 c10 w10 o10 b10; have HB10 : Hid (Below w1.heap.size w1 w10) := Lib.hid (its_below HO9.out HB9.out HB9.out.size b10); have f10 := (HBK.out.below HB10.out).frozen 0; have p10 := (HBK.out.below HB10.out).cell 0; have HQ := Lib.hid (RQ.stored (B := B) (HBK.out.below HB10.out) o10 HBK.out.lt HB0.out); have HC := Lib.hid (HC1.out.trans (chg_stored (r := r) HB10.out (.slice va10 R.length c10))); clear o10 b10))
            go_ret
            exact ⟨rfl, HQ.out, HC.out⟩
        | cons g0 G' =>
          have l1 : (i : Int) < (D.length : Int) := by have h1 := HLEN.out; have h2 := HIL.out; rw [hG, List.length_cons] at h1; omega
          have hyi : D[i]? = some g0 := by rw [HSP.out, HIL.out, List.getElem?_append_right (Nat.le_refl _), Nat.sub_self, hG]; rfl
          obtain ⟨x0, x1⟩ := er_cell HER.out hyi
          have nt : ¬ (g0.2 ≤ t) := by have := HG.out g0 (by rw [hG]; exact List.mem_cons_self ..); omega
          clear hG hyi
          have hbx : Below wr.heap.size wr (wr.alloc (.cells #[.string k, .int .i64 t] 141)) := (Below.refl _ _).alloc (Nat.le_refl _) _
          have HBX := Lib.hid hbx
          clear hbx
          go_wp2_with (at_builtin; first
            | (refine wpList_app_its w1.heap.size (.slice ua E.length uc) E (.slice (some ⟨wr.heap.size, 0, none⟩) 1 1) [(k, t)] M HM.out rfl _ _ rfl rfl (HO.out.below HBX.out) rfl (one_it (Bk.new wr _ _)) (by have := HEL.out; have := HIL.out; have := HLEN.out; simp; omega) (by have := HB.out.size; simp; omega) ?_; intro va9 c9 w9 o9 b9; have HB9 : Hid (Below w1.heap.size w1 w9) := Lib.hid (its_below (HO.out) (HB.out.alloc HB.out.size _) (by have := HB.out.size; simp; omega) b9); have HO9 := Lib.hid o9; have q9 := (HBK.out.below HB9.out).cell 0; clear o9 b9)
            | (refine wpList_app_its w1.heap.size (.slice va9 M.length c9) M _ G R HMR.out rfl _ _ rfl rfl HO9.out rfl (by have h8 := er_tail (HE.out.below HB9.out) i hiD hcap; rw [HDR.out] at h8; first | exact h8 | simpa using h8) (by have := HML.out; have := HLEN.out; omega) HB9.out.size ?_; intro va10 c10 w10 o10 b10; have HB10 : Hid (Below w1.heap.size w1 w10) := Lib.hid (its_below HO9.out HB9.out HB9.out.size b10); have f10 := (HBK.out.below HB10.out).frozen 0; have p10 := (HBK.out.below HB10.out).cell 0; have HQ := Lib.hid (RQ.stored (B := B) (HBK.out.below HB10.out) o10 HBK.out.lt HB0.out); have HC := Lib.hid (HC1.out.trans (chg_stored (r := r) HB10.out (.slice va10 R.length c10))); clear o10 b10))
          go_ret
          exact ⟨rfl, HQ.out, HC.out⟩
    | succ g =>
      have hlt : i < A.length := by omega
      have hltD : i < D.length := by have := HLEN.out; omega
      obtain ⟨b, off, cap, he, hc, hx⟩ := (HE.out.below hB).inv (by omega)
      injection he with e1 _ e3
      subst e1 e3
      obtain ⟨y, hy⟩ : ∃ y, A[i] = y := ⟨_, rfl⟩
      have hya : A[i]? = some y := by rw [List.getElem?_eq_getElem hlt, hy]
      have hyi : D[i]? = some y := by rw [HSP.out, List.getElem?_append_left hlt]; exact hya
      obtain ⟨x0, x1⟩ := hx i y hyi
      have l0 : (0 : Int) ≤ (i : Int) := by omega
      have l1 : (i : Int) < (D.length : Int) := by omega
      have ly : y.2 ≤ t := HA.out y (by rw [← hy]; exact List.getElem_mem _)
      obtain ⟨i1, hi1⟩ : ∃ i1, i + 1 = i1 := ⟨_, rfl⟩
      have wk : IntKind.i64.wrap ((i : Int) + 1) = (i1 : Int) := by rw [show (i : Int) + 1 = (i1 : Int) by omega]; exact IntWalk.i64_in _ (by have := HLEN.out; omega)
      have HI1 : Hid (i1 + g = A.length) := Lib.hid (by omega)
      obtain ⟨yk, yz⟩ := y
      simp only at x0 x1 ly
      obtain ⟨E2, hE2⟩ : ∃ E2, E ++ [(yk, yz)] = E2 := ⟨_, rfl⟩
      have HEE : Hid (A.take i1 = E2) := Lib.hid (by rw [← hi1, List.take_add_one, hya, hE, ← hE2]; rfl)
      have HE2 := Lib.hid hE2
      clear hi hx hc hy hya hyi hi1 hlt hltD hE hO hB hE2
      have hbx : Below wr.heap.size wr (wr.alloc (.cells #[.string yk, .int .i64 yz] 141)) := (Below.refl _ _).alloc (Nat.le_refl _) _
      have HBX := Lib.hid hbx
      clear hbx
      go_wp2_with (at_builtin; refine wpList_app_its w1.heap.size (.slice ua E.length uc) E (.slice (some ⟨wr.heap.size, 0, none⟩) 1 1) [(yk, yz)] E2 HE2.out rfl _ _ rfl rfl (HO.out.below HBX.out) rfl (one_it (Bk.new wr _ _)) (by have := HEL.out; have := HI1.out; have := HLEN.out; simp; omega) (by have := HB.out.size; simp; omega) ?_; intro va9 c9 w9 o9 b9)
      have HB9 : Hid (Below w1.heap.size w1 w9) := Lib.hid (its_below (HO.out) (HB.out.alloc HB.out.size _) (by have := HB.out.size; simp; omega) b9)
      have HO9 := Lib.hid o9
      clear o9 b9
      go_wp2
      go_roundg g
      case measure => exact Nat.lt_succ_self _
      case rel => exact ⟨i1, E2, rfl, HI1.out, HEE.out, ⟨_, _, rfl⟩, HO9.out, HB9.out⟩
end
end Go.Proofs.YtjngangojgjceaaGreat.EX
namespace Go.Proofs.YtjngangojgjceaaGreat.EX
open Go.ChangeShapes Go.WideShapes Go.ChangeAt Go.RowKit Go.Maps Go.ChangeMaps
open Go.Proofs.YtjngangojgjceaaGreat.SL Go.Proofs.YtjngangojgjceaaGreat.RW
set_option maxRecDepth 100000
set_option linter.unusedVariables false
set_option linter.unusedSimpArgs false

theorem bk_ne {w : World} {b : Nat} {t t' : TypeId} {cs cur : Array Value} {fz : Nat × Nat} (h : Bk w b t cs) (hb : w.heap[b]? = some (.cells cur t' fz)) (hn : t' ≠ t) : False := by
  have h2 : w.heap[b]? = some (.cells cs t (0, 0)) := h
  rw [h2] at hb
  injection hb with hb
  injection hb with _ e2 _
  exact hn e2.symm
theorem QT.otherB {B : Nat} {w : World} {g n : Nat} {x : Qx} (h : QT B w g n x) {b : Nat} {cur : Array Value} {t : TypeId} {fz : Nat × Nat} (hb : w.heap[b]? = some (.cells cur t fz)) (h1 : t ≠ 129) (h2 : t ≠ 168) (h3 : t ≠ 131) : ¬ x.own g b := by
  rintro (rfl | rfl | rfl | ho)
  · exact bk_ne h.bk hb h1
  · obtain ⟨D, ⟨es, clock, hm, _⟩, _⟩ := h.mp
    rw [hm] at hb
    cases hb
  · exact bk_ne h.ko hb h2
  · obtain ⟨_, cur2, fz2, h4⟩ := h.eq.ty b ho
    rw [h4] at hb
    injection hb with hb
    injection hb with _ e2 _
    exact h3 e2.symm
theorem ty_q1 : (75 : TypeId) ≠ 129 := by decide
theorem ty_q2 : (75 : TypeId) ≠ 168 := by decide
theorem ty_q3 : (75 : TypeId) ≠ 131 := by decide
theorem ty_i1 : (141 : TypeId) ≠ 129 := by decide
theorem ty_i2 : (141 : TypeId) ≠ 168 := by decide
theorem ty_i3 : (141 : TypeId) ≠ 131 := by decide
theorem ty_sq : (9 : TypeId) ≠ 75 := by decide
def Kr (B r : Nat) (J : List It) (a : Option Addr) (c : Nat) : Kp :=
  .keep (fun w => Bk w r 75 #[.slice a J.length c] ∧ EI B w (.slice a J.length c) J ∧ B ≤ r) (fun b => b = r ∨ (Value.slice a J.length c).ownBlock = some b)
/-- the code's queue with these items, the document's with those, what was told -/
def L2 (w0 w : World) (g n : Nat) (I : List It) (r : Nat) (J : List It) (O : List Kp) : Prop := ∃ a c, LQ w0 w g n I (Kr w0.heap.size r J a c :: O)
section
variable {w0 w w' : World} {g n r : Nat} {I J : List It} {O : List Kp}
theorem L2.lq (h : L2 w0 w g n I r J O) : LQ w0 w g n I O := by
  obtain ⟨a, c, h⟩ := h
  exact h.forget fun p hp => List.mem_cons_of_mem _ hp
theorem L2.rq (h : L2 w0 w g n I r J O) : RQ w0.heap.size w r J := by
  obtain ⟨a, c, x, h1, _, h3, h4⟩ := h
  obtain ⟨h5, _, _⟩ := h4 _ (List.mem_cons_self ..)
  exact ⟨a, c, h5⟩
theorem L2.mk (h : LQ w0 w g n I O) (hr : RQ w0.heap.size w r J) : L2 w0 w g n I r J O := by
  obtain ⟨a, c, r1, r2, r3⟩ := hr
  obtain ⟨x, h1, h2, h3, h4⟩ := h
  refine ⟨a, c, x, h1, h2, h3, fun p hp => ?_⟩
  rcases List.mem_cons.1 hp with rfl | hp
  · refine ⟨⟨r1, r2, r3⟩, fun b hb => ?_, fun w1 w2 ⟨q1, q2, q3⟩ hk => ⟨q1.heap (hk _ (.inl rfl)), q2.keepB fun b hb => hk _ (.inr hb), q3⟩⟩
    rcases hb with rfl | hb
    · exact ⟨r1.lt, h1.otherB (show w.heap[b]? = some (.cells #[.slice a J.length c] 75 (0, 0)) from r1) ty_q1 ty_q2 ty_q3⟩
    · obtain ⟨_, hl, cur, fz, hc⟩ := r2.ty b hb
      exact ⟨hl, h1.otherB hc ty_i1 ty_i2 ty_i3⟩
  · exact h4 p hp
theorem L2.below (h : L2 w0 w g n I r J O) (hb : Below w.heap.size w w') : L2 w0 w' g n I r J O := by
  obtain ⟨a, c, h⟩ := h
  exact ⟨a, c, h.below hb⟩
theorem L2.forget (h : L2 w0 w g n I r J O) {O' : List Kp} (hO : ∀ p ∈ O', p ∈ O) : L2 w0 w g n I r J O' := L2.mk (h.lq.forget hO) h.rq
theorem L2.box (h : L2 w0 w g n I r J O) (t : TypeId) (cs : Array Value) : L2 w0 (w.alloc (.cells cs t)) g n I r J (.blk w.heap.size t cs :: O) := L2.mk (h.lq.box t cs) (h.rq.below ((Below.refl _ _).alloc (Nat.le_refl _) _))
theorem l2_set (h : L2 w0 w g n I r J O) (k : ByteArray) (hk : k.size ≤ 281474976710656) (t : Int) (ht : 0 ≤ t ∧ t ≤ 1099511627776) (hn : n ≤ 490) (I' : List It) (hI : setI k t I = I') :
    Calls Tryz.prog 35 #[ptr g, .string k, .int .i64 t] w fun e w' => e = .returned (.int .i64 0) ∧ L2 w0 w' g (n + 1) I' r J O := by
  obtain ⟨a, c, h⟩ := h
  refine (lq_set h k hk t ht hn I' hI).mono ?_
  rintro e w' ⟨rfl, h2⟩
  exact ⟨rfl, a, c, h2⟩
theorem l2_drop (h : L2 w0 w g n I r J O) (k : ByteArray) (hk : k.size ≤ 281474976710656) (hn : n ≤ 500) (I' : List It) (hI : dropI k I = I') (b : Bool) (hb : (atI k I).isSome = b) :
    Calls Tryz.prog 51 #[ptr g, .string k] w fun e w' => e = .returned (.bool b) ∧ L2 w0 w' g n I' r J O := by
  obtain ⟨a, c, h⟩ := h
  refine (lq_drop h k hk hn I' hI b hb).mono ?_
  rintro e w' ⟨rfl, h2⟩
  exact ⟨rfl, a, c, h2⟩
theorem l2_due (h : L2 w0 w g n I r J O) (now : Int) (hk : ∀ y ∈ I, y.1.size ≤ 281474976710656) (hn : n ≤ 500) (I' : List It) (hI : gtI now I = I') (d : List ByteArray) (hd : keysI (leI now I) = d) :
    Calls Tryz.prog 52 #[ptr g, .int .i64 now] w fun e w' => ∃ v c, e = .returned (.slice v d.length c) ∧ L2 w0 w' g n I' r J (.txt (.slice v d.length c) d :: O) := by
  obtain ⟨a, c, h⟩ := h
  refine (lq_due h now hk hn I' hI d hd).mono ?_
  rintro e w' ⟨v, cc, rfl, h2⟩
  refine ⟨v, cc, rfl, a, c, h2.forget fun p hp => ?_⟩
  rcases List.mem_cons.1 hp with rfl | hp
  · exact List.mem_cons_of_mem _ (List.mem_cons_self ..)
  · rcases List.mem_cons.1 hp with rfl | hp
    · exact List.mem_cons_self ..
    · exact List.mem_cons_of_mem _ (List.mem_cons_of_mem _ hp)
theorem l2_copy (h : L2 w0 w g n I r J O) (hn : n ≤ 1000000) :
    Calls Tryz.prog 57 #[ptr g] w fun e w' => ∃ gc y, e = .returned (ptr gc) ∧ y.L.map it = I ∧ L2 w0 w' g n I r J (Kq w0.heap.size gc n y :: O) := by
  obtain ⟨a, c, h⟩ := h
  refine (lq_copy h hn).mono ?_
  rintro e w' ⟨gc, y, rfl, hy, h2⟩
  refine ⟨gc, y, rfl, hy, a, c, h2.forget fun p hp => ?_⟩
  rcases List.mem_cons.1 hp with rfl | hp
  · exact List.mem_cons_of_mem _ (List.mem_cons_self ..)
  · rcases List.mem_cons.1 hp with rfl | hp
    · exact List.mem_cons_self ..
    · exact List.mem_cons_of_mem _ (List.mem_cons_of_mem _ hp)
end
end Go.Proofs.YtjngangojgjceaaGreat.EX
namespace Go.Proofs.YtjngangojgjceaaGreat.CA
open Go.ChangeShapes Go.WideShapes Go.ChangeAt Go.RowKit
open Go.Proofs.YtjngangojgjceaaGreat.SL Go.Proofs.YtjngangojgjceaaGreat.EX
set_option maxRecDepth 100000
set_option linter.unusedVariables false
set_option linter.unusedSimpArgs false

noncomputable instance decMem (x : ByteArray) (l : List ByteArray) : Decidable (x ∈ l) := Classical.propDecidable _
abbrev Vm : Type := ByteArray → Option ByteArray
/-- a cache's state: the tried segment, the kept one, the deadlines, the values -/
structure Sg where
  T : List En
  K : List En
  I : List It
  V : Vm
def delV (t : ByteArray) (V : Vm) : Vm := fun x => if x = t then none else V x
def setV (t v : ByteArray) (V : Vm) : Vm := fun x => if x = t then some v else V x
def dropS (t : ByteArray) (s : Sg) : Sg := ⟨delE t s.T, delE t s.K, dropI t s.I, delV t s.V⟩
def dropsS (l : List ByteArray) (s : Sg) : Sg := l.foldl (fun s t => dropS t s) s
/-- the map of entries -/
def fV (V : Vm) : Ky → Option (ByteArray × ByteArray) := fun k => if rightK k = true then (V (textK k)).map fun v => (textK k, v) else none
theorem fV_del {k : Ky} (h : rightK k = true) (V : Vm) (x : Ky) : fV (delV (textK k) V) x = if x = k then none else fV V x := by
  unfold fV delV
  by_cases hx : x = k
  · subst hx; rw [if_pos h, if_pos rfl, if_pos rfl]; rfl
  · rw [if_neg hx]
    by_cases hr : rightK x = true
    · rw [if_pos hr, if_pos hr, if_neg (fun e => hx (text_inj hr h e))]
    · rw [if_neg hr, if_neg hr]
theorem fV_set {k : Ky} (h : rightK k = true) (v : ByteArray) (V : Vm) (x : Ky) : fV (setV (textK k) v V) x = if x = k then some (textK k, v) else fV V x := by
  unfold fV setV
  by_cases hx : x = k
  · subst hx; rw [if_pos h, if_pos rfl, if_pos rfl]; rfl
  · rw [if_neg hx]
    by_cases hr : rightK x = true
    · rw [if_pos hr, if_pos hr, if_neg (fun e => hx (text_inj hr h e))]
    · rw [if_neg hr, if_neg hr]
theorem fV_some {V : Vm} {k : Ky} {e : ByteArray × ByteArray} (h : fV V k = some e) : rightK k = true ∧ e.1 = textK k ∧ V (textK k) = some e.2 := by
  unfold fV at h
  by_cases hr : rightK k = true
  · rw [if_pos hr] at h
    cases hv : V (textK k) with
    | none => rw [hv] at h; cases h
    | some v => rw [hv] at h; injection h with h; subst h; exact ⟨hr, rfl, rfl⟩
  · rw [if_neg hr] at h; cases h
theorem fV_none {V : Vm} {k : Ky} (h : fV V k = none) : rightK k = false ∨ V (textK k) = none := by
  unfold fV at h
  by_cases hr : rightK k = true
  · rw [if_pos hr] at h
    right
    cases hv : V (textK k) with
    | none => rfl
    | some v => rw [hv] at h; cases h
  · left; simpa using hr
theorem dropsS_T (l : List ByteArray) : ∀ s, (dropsS l s).T = s.T.filter (fun y => decide (y.1 ∉ l)) := by
  induction l with
  | nil => intro s; show s.T = _; symm; rw [List.filter_eq_self]; intro y _; simp
  | cons t l ih =>
    intro s
    rw [show dropsS (t :: l) s = dropsS l (dropS t s) from rfl, ih]
    show List.filter _ (delE t s.T) = _
    unfold delE
    rw [List.filter_filter]
    congr 1; funext y; by_cases h1 : y.1 = t <;> by_cases h2 : y.1 ∈ l <;> simp [h1, h2]
theorem dropsS_K (l : List ByteArray) : ∀ s, (dropsS l s).K = s.K.filter (fun y => decide (y.1 ∉ l)) := by
  induction l with
  | nil => intro s; show s.K = _; symm; rw [List.filter_eq_self]; intro y _; simp
  | cons t l ih =>
    intro s
    rw [show dropsS (t :: l) s = dropsS l (dropS t s) from rfl, ih]
    show List.filter _ (delE t s.K) = _
    unfold delE
    rw [List.filter_filter]
    congr 1; funext y; by_cases h1 : y.1 = t <;> by_cases h2 : y.1 ∈ l <;> simp [h1, h2]
theorem dropsS_I (l : List ByteArray) : ∀ s, (dropsS l s).I = s.I.filter (fun y => decide (y.1 ∉ l)) := by
  induction l with
  | nil => intro s; show s.I = _; symm; rw [List.filter_eq_self]; intro y _; simp
  | cons t l ih =>
    intro s
    rw [show dropsS (t :: l) s = dropsS l (dropS t s) from rfl, ih]
    show List.filter _ (dropI t s.I) = _
    unfold dropI
    rw [List.filter_filter]
    congr 1; funext y; by_cases h1 : y.1 = t <;> by_cases h2 : y.1 ∈ l <;> simp [h1, h2]
theorem dropsS_V (l : List ByteArray) : ∀ s, (dropsS l s).V = fun x => if x ∈ l then none else s.V x := by
  induction l with
  | nil => intro s; funext x; show s.V x = _; rw [if_neg (by simp)]
  | cons t l ih =>
    intro s
    rw [show dropsS (t :: l) s = dropsS l (dropS t s) from rfl, ih]
    funext x
    show (if x ∈ l then none else delV t s.V x) = _
    unfold delV
    by_cases h1 : x = t <;> by_cases h2 : x ∈ l <;> simp [h1, h2]
theorem Sg.ext' {a b : Sg} (h1 : a.T = b.T) (h2 : a.K = b.K) (h3 : a.I = b.I) (h4 : a.V = b.V) : a = b := by
  cases a; cases b; simp only at h1 h2 h3 h4; subst h1 h2 h3 h4; rfl
/-- the times of a store and of a key that does not go change places -/
theorem set_drops (t v : ByteArray) (a : Int) (l : List ByteArray) (h : t ∉ l) (s : Sg) :
    (⟨(dropsS l s).T, (dropsS l s).K, setI t a (dropsS l s).I, setV t v (dropsS l s).V⟩ : Sg) = dropsS l ⟨s.T, s.K, setI t a s.I, setV t v s.V⟩ := by
  refine Sg.ext' ?_ ?_ ?_ ?_
  · rw [dropsS_T, dropsS_T]
  · rw [dropsS_K, dropsS_K]
  · rw [dropsS_I, dropsS_I]
    show setI t a (s.I.filter _) = (setI t a s.I).filter _
    unfold setI leI gtI dropI
    rw [List.filter_append, List.filter_cons, if_pos (by simpa using h)]
    simp only [List.filter_filter]
    congr 1
    · congr 1; funext y; cases decide (y.1 ≠ t) <;> cases decide (y.1 ∉ l) <;> cases (!decide (a < y.2)) <;> rfl
    · congr 2; funext y; cases decide (y.1 ≠ t) <;> cases decide (y.1 ∉ l) <;> cases (decide (a < y.2)) <;> rfl
  · rw [dropsS_V, dropsS_V]
    funext x
    show setV t v (fun x => if x ∈ l then none else s.V x) x = if x ∈ l then none else setV t v s.V x
    unfold setV
    by_cases h1 : x = t
    · subst h1; simp [h]
    · simp [h1]
theorem mem_keysE {x : ByteArray} {l : List En} : x ∈ keysE l ↔ ∃ y ∈ l, y.1 = x := by unfold keysE; exact List.mem_map
theorem mem_keysI {x : ByteArray} {l : List It} : x ∈ keysI l ↔ ∃ y ∈ l, y.1 = x := by unfold keysI; exact List.mem_map
theorem mem_delE {x t : ByteArray} {l : List En} : x ∈ keysE (delE t l) ↔ x ∈ keysE l ∧ x ≠ t := by
  rw [mem_keysE, mem_keysE]
  unfold delE
  constructor
  · rintro ⟨y, hy, rfl⟩
    have := List.mem_filter.1 hy
    exact ⟨⟨y, this.1, rfl⟩, by simpa using this.2⟩
  · rintro ⟨⟨y, hy, rfl⟩, hn⟩
    exact ⟨y, List.mem_filter.2 ⟨hy, by simpa using hn⟩, rfl⟩
theorem mem_dropI {x t : ByteArray} {l : List It} : x ∈ keysI (dropI t l) ↔ x ∈ keysI l ∧ x ≠ t := by
  rw [mem_keysI, mem_keysI]
  unfold dropI
  constructor
  · rintro ⟨y, hy, rfl⟩
    have := List.mem_filter.1 hy
    exact ⟨⟨y, this.1, rfl⟩, by simpa using this.2⟩
  · rintro ⟨⟨y, hy, rfl⟩, hn⟩
    exact ⟨y, List.mem_filter.2 ⟨hy, by simpa using hn⟩, rfl⟩
theorem mem_setI_ {x t : ByteArray} {a : Int} {l : List It} : x ∈ keysI (setI t a l) ↔ x = t ∨ x ∈ keysI l := by
  have key : x ∈ keysI (setI t a l) ↔ x = t ∨ x ∈ keysI (dropI t l) := by
    rw [mem_keysI, mem_keysI]
    unfold setI leI gtI
    constructor
    · rintro ⟨y, hy, rfl⟩
      rcases List.mem_append.1 hy with hy | hy
      · exact .inr ⟨y, (List.mem_filter.1 hy).1, rfl⟩
      · rcases List.mem_cons.1 hy with rfl | hy
        · exact .inl rfl
        · exact .inr ⟨y, (List.mem_filter.1 hy).1, rfl⟩
    · rintro (rfl | ⟨y, hy, rfl⟩)
      · exact ⟨(x, a), List.mem_append_right _ (List.mem_cons_self ..), rfl⟩
      · by_cases hc : a < y.2
        · exact ⟨y, List.mem_append_right _ (List.mem_cons_of_mem _ (List.mem_filter.2 ⟨hy, by simpa using hc⟩)), rfl⟩
        · exact ⟨y, List.mem_append_left _ (List.mem_filter.2 ⟨hy, by simpa using hc⟩), rfl⟩
  rw [key, mem_dropI]
  by_cases h : x = t <;> simp [h]
theorem has_iff {k : ByteArray} {T K : List En} : (hasS k T K).isSome = true ↔ k ∈ keysE T ∨ k ∈ keysE K := by
  constructor
  · intro h
    unfold hasS at h
    cases h1 : hasE k T with
    | some z => obtain ⟨y, hy, e, _⟩ := has_key h1; exact .inl (mem_keysE.2 ⟨y, hy, e⟩)
    | none =>
      rw [h1] at h
      cases h2 : hasE k K with
      | some z => obtain ⟨y, hy, e, _⟩ := has_key h2; exact .inr (mem_keysE.2 ⟨y, hy, e⟩)
      | none => rw [h2] at h; cases h
  · intro h
    refine has_mk ?_
    rcases h with h | h
    · obtain ⟨y, hy, e⟩ := mem_keysE.1 h; exact ⟨y, .inl hy, e⟩
    · obtain ⟨y, hy, e⟩ := mem_keysE.1 h; exact ⟨y, .inr hy, e⟩
theorem at_iff {k : ByteArray} {I : List It} : (atI k I).isSome = true ↔ k ∈ keysI I := by
  unfold atI
  rw [Option.isSome_map, List.find?_isSome, mem_keysI]
  constructor
  · rintro ⟨y, hy, h⟩; exact ⟨y, hy, by simpa using h⟩
  · rintro ⟨y, hy, h⟩; exact ⟨y, hy, by simpa using h⟩
/-- which keys go for room -/
structure RoomK (T K : List En) (R : List En × List En × List ByteArray) : Prop where
  all : ∀ x, (x ∈ keysE T ∨ x ∈ keysE K) ↔ (x ∈ keysE R.1 ∨ x ∈ keysE R.2.1) ∨ x ∈ R.2.2
  ap : ∀ x, x ∈ R.2.2 → ¬ (x ∈ keysE R.1 ∨ x ∈ keysE R.2.1)
  nd : R.2.2.Nodup
theorem keys_last {l : List En} {y : En} (h : l.getLast? = some y) (x : ByteArray) : x ∈ keysE l ↔ x ∈ keysE l.dropLast ∨ x = y.1 := by
  have := last_app h
  constructor
  · intro hx
    rw [this] at hx
    rw [SL.keysE_app] at hx
    rcases List.mem_append.1 hx with hx | hx
    · exact .inl hx
    · exact .inr (by simpa [keysE] using hx)
  · intro hx
    rw [this, SL.keysE_app]
    rcases hx with hx | hx
    · exact List.mem_append_left _ hx
    · exact List.mem_append_right _ (by simp [keysE, hx])
theorem del_gone {k : ByteArray} {l : List En} : k ∉ keysE (delE k l) := fun h => (mem_delE.1 h).2 rfl
theorem room_keys {al z : Int} : ∀ (n : Nat) (T K : List En), UK T K → RoomK T K (roomE al z n T K)
  | 0, T, K, _ => ⟨fun x => by show _ ↔ (_ ∨ _) ∨ x ∈ []; simp [roomE], fun x hx => by simp [roomE] at hx, List.nodup_nil⟩
  | n + 1, T, K, hu => by
    have none_ : RoomK T K (T, K, []) := ⟨fun x => by simp, fun x hx => by simp at hx, List.nodup_nil⟩
    unfold roomE
    split
    · split
      · rename_i y hy
        obtain ⟨u1, u2, u3⟩ := hu.last hy
        obtain ⟨a1, a2, a3⟩ := room_keys (al := al) (z := z) n T.dropLast K u3
        have hy1 : ¬ (y.1 ∈ keysE T.dropLast ∨ y.1 ∈ keysE K) := by
          rintro (h | h)
          · rw [← u1] at h; exact del_gone h
          · rw [← u2] at h; exact del_gone h
        refine ⟨fun x => ?_, fun x hx => ?_, ?_⟩
        · simp only [List.mem_cons]
          rw [keys_last hy x]
          have := a1 x
          constructor
          · rintro ((h | h) | h)
            · rcases this.1 (.inl h) with h | h
              · exact .inl h
              · exact .inr (.inr h)
            · exact .inr (.inl h)
            · rcases this.1 (.inr h) with h | h
              · exact .inl h
              · exact .inr (.inr h)
          · rintro (h | h | h)
            · rcases this.2 (.inl h) with h | h
              · exact .inl (.inl h)
              · exact .inr h
            · exact .inl (.inr h)
            · rcases this.2 (.inr h) with h | h
              · exact .inl (.inl h)
              · exact .inr h
        · simp only [List.mem_cons] at hx
          rcases hx with rfl | hx
          · exact fun h => hy1 ((a1 _).2 (.inl h))
          · exact a2 x hx
        · exact List.nodup_cons.2 ⟨fun h => hy1 ((a1 _).2 (.inr h)), a3⟩
      · split
        · rename_i y hy
          obtain ⟨u1, u2, u3⟩ := hu.lastK hy
          obtain ⟨a1, a2, a3⟩ := room_keys (al := al) (z := z) n T K.dropLast u3
          have hy1 : ¬ (y.1 ∈ keysE T ∨ y.1 ∈ keysE K.dropLast) := by
            rintro (h | h)
            · rw [← u2] at h; exact del_gone h
            · rw [← u1] at h; exact del_gone h
          refine ⟨fun x => ?_, fun x hx => ?_, ?_⟩
          · simp only [List.mem_cons]
            rw [keys_last hy x]
            have := a1 x
            constructor
            · rintro (h | h | h)
              · rcases this.1 (.inl h) with h | h
                · exact .inl h
                · exact .inr (.inr h)
              · rcases this.1 (.inr h) with h | h
                · exact .inl h
                · exact .inr (.inr h)
              · exact .inr (.inl h)
            · rintro (h | h | h)
              · rcases this.2 (.inl h) with h | h
                · exact .inl h
                · exact .inr (.inl h)
              · exact .inr (.inr h)
              · rcases this.2 (.inr h) with h | h
                · exact .inl h
                · exact .inr (.inl h)
          · simp only [List.mem_cons] at hx
            rcases hx with rfl | hx
            · exact fun h => hy1 ((a1 _).2 (.inl h))
            · exact a2 x hx
          · exact List.nodup_cons.2 ⟨fun h => hy1 ((a1 _).2 (.inr h)), a3⟩
        · exact none_
    · exact none_
theorem put_keys {al z : Int} {k : ByteArray} {T K : List En} (hu : UK T K) {R : List En × List En × List ByteArray} (hR : putE al k z T K = R) :
    (∀ x, (x ∈ keysE R.1 ∨ x ∈ keysE R.2.1) ↔ x = k ∨ ((x ∈ keysE T ∨ x ∈ keysE K) ∧ x ∉ R.2.2)) ∧ (∀ x, x ∈ R.2.2 → (x ∈ keysE T ∨ x ∈ keysE K) ∧ x ≠ k ∧ ¬ (x ∈ keysE R.1 ∨ x ∈ keysE R.2.1)) ∧ R.2.2.Nodup := by
  subst hR
  obtain ⟨a1, a2, a3⟩ := room_keys (al := al) (z := z) ((delE k T).length + (delE k K).length) _ _ (hu.del k)
  unfold putE
  simp only
  generalize roomE al z ((delE k T).length + (delE k K).length) (delE k T) (delE k K) = R at *
  have mem : ∀ x, (x ∈ keysE (delE k T) ∨ x ∈ keysE (delE k K)) ↔ ((x ∈ keysE T ∨ x ∈ keysE K) ∧ x ≠ k) := fun x => by rw [mem_delE, mem_delE]; exact or_and_right.symm
  have hkc : ∀ x, x ∈ keysE ((k, z) :: R.1) ↔ x = k ∨ x ∈ keysE R.1 := fun x => by unfold keysE; rw [List.map_cons, List.mem_cons]
  refine ⟨fun x => ?_, fun x hx => ?_, a3⟩
  · rw [hkc]
    have h1 := a1 x
    rw [mem x] at h1
    constructor
    · rintro ((h | h) | h)
      · exact .inl h
      · exact .inr ⟨(h1.2 (.inl (.inl h))).1, fun hg => a2 x hg (.inl h)⟩
      · exact .inr ⟨(h1.2 (.inl (.inr h))).1, fun hg => a2 x hg (.inr h)⟩
    · rintro (h | ⟨h, hn⟩)
      · exact .inl (.inl h)
      · by_cases hk : x = k
        · exact .inl (.inl hk)
        · rcases h1.1 ⟨h, hk⟩ with h | h
          · exact h.elim (fun h => .inl (.inr h)) .inr
          · exact absurd h hn
  · have h1 := (mem x).1 ((a1 x).2 (.inr hx))
    refine ⟨h1.1, h1.2, ?_⟩
    rw [hkc]
    rintro ((h | h) | h)
    · exact h1.2 h
    · exact a2 x hx (.inl h)
    · exact a2 x hx (.inr h)
theorem put_sums {al ke z : Int} {k : ByteArray} {T K : List En} (hT : posE T) (hK : posE K) (hz : z ≤ al) (hk : sumE K ≤ ke) {R : List En × List En × List ByteArray} (hR : putE al k z T K = R) :
    sumE R.1 + sumE R.2.1 ≤ al ∧ sumE R.2.1 ≤ ke := by
  subst hR
  have h1 := room_le (al := al) (z := z) ((delE k T).length + (delE k K).length) _ _ (hT.del k) (hK.del k)
  have h2 := room_fit (al := al) hz ((delE k T).length + (delE k K).length) (delE k T) (delE k K) rfl
  have h3 := (sum_del_has (k := k) hK).2
  unfold putE
  simp only [sumE]
  omega
theorem touch_keys {ke z : Int} {k : ByteArray} {T K : List En} (hke : 0 ≤ ke) (hT : posE T) (hK : posE K) (hz : hasS k T K = some z) {R : List En × List En × List ByteArray} (hR : touchE ke k z T K = R) :
    (∀ x, (x ∈ keysE R.1 ∨ x ∈ keysE R.2.1) ↔ x ∈ keysE T ∨ x ∈ keysE K) := by
  subst hR
  have hkin : k ∈ keysE T ∨ k ∈ keysE K := has_iff.1 (by rw [hz]; rfl)
  have hzp : 1 ≤ z := by
    unfold hasS at hz
    cases h0 : hasE k T with
    | some y =>
      rw [h0] at hz
      have : y = z := by simpa using hz
      subst this
      exact has_pos hT h0
    | none =>
      rw [h0] at hz
      exact has_pos hK (by simpa using hz)
  have mem : ∀ x, (x ∈ keysE (delE k T) ∨ x ∈ keysE (delE k K)) ↔ ((x ∈ keysE T ∨ x ∈ keysE K) ∧ x ≠ k) := fun x => by rw [mem_delE, mem_delE]; exact or_and_right.symm
  intro x
  unfold touchE
  split
  · obtain ⟨_, _, c3⟩ := shr_ok hke ((delE k K).length + 1) (delE k T) ((k, z) :: delE k K) (by simp) (hT.del k) (fun y hy => (List.mem_cons.1 hy).elim (fun e => by rw [e]; exact hzp) (hK.del k y))
    have c4 := fun y => shr_all (ke := ke) ((delE k K).length + 1) (delE k T) ((k, z) :: delE k K) y
    generalize shrE ke ((delE k K).length + 1) (delE k T) ((k, z) :: delE k K) = R at *
    constructor
    · intro h
      have : ∃ y, (y ∈ R.1 ∨ y ∈ R.2.1) ∧ y.1 = x := by
        rcases h with h | h
        · obtain ⟨y, hy, e⟩ := mem_keysE.1 h; exact ⟨y, .inl hy, e⟩
        · obtain ⟨y, hy, e⟩ := mem_keysE.1 h; exact ⟨y, .inr hy, e⟩
      obtain ⟨y, hy, rfl⟩ := this
      rcases c3 y hy with h | h
      · exact ((mem _).1 (.inl (mem_keysE.2 ⟨y, h, rfl⟩))).1
      · rcases List.mem_cons.1 h with rfl | h
        · exact hkin
        · exact ((mem _).1 (.inr (mem_keysE.2 ⟨y, h, rfl⟩))).1
    · intro h
      have : ∃ y, (y ∈ delE k T ∨ y ∈ (k, z) :: delE k K) ∧ y.1 = x := by
        by_cases hx : x = k
        · subst hx; exact ⟨(x, z), .inr (List.mem_cons_self ..), rfl⟩
        · rcases (mem x).2 ⟨h, hx⟩ with h | h
          · obtain ⟨y, hy, e⟩ := mem_keysE.1 h; exact ⟨y, .inl hy, e⟩
          · obtain ⟨y, hy, e⟩ := mem_keysE.1 h; exact ⟨y, .inr (List.mem_cons_of_mem _ hy), e⟩
      obtain ⟨y, hy, rfl⟩ := this
      rcases c4 y hy with h | h
      · exact .inl (mem_keysE.2 ⟨y, h, rfl⟩)
      · exact .inr (mem_keysE.2 ⟨y, h, rfl⟩)
  · simp only
    have hkc : x ∈ keysE ((k, z) :: delE k T) ↔ x = k ∨ x ∈ keysE (delE k T) := by unfold keysE; rw [List.map_cons, List.mem_cons]
    rw [hkc]
    constructor
    · rintro ((rfl | h) | h)
      · exact hkin
      · exact ((mem x).1 (.inl h)).1
      · exact ((mem x).1 (.inr h)).1
    · intro h
      by_cases hx : x = k
      · exact .inl (.inl hx)
      · rcases (mem x).2 ⟨h, hx⟩ with h | h
        · exact .inl (.inr h)
        · exact .inr h
theorem touch_sums {ke z : Int} {k : ByteArray} {T K : List En} (hke : 0 ≤ ke) (hT : posE T) (hK : posE K) (hs : sumE K ≤ ke) (hz : hasS k T K = some z) {R : List En × List En × List ByteArray} (hR : touchE ke k z T K = R) :
    sumE R.1 + sumE R.2.1 ≤ sumE T + sumE K ∧ sumE R.2.1 ≤ ke := by
  subst hR
  obtain ⟨a1, a2⟩ := sum_del_has (k := k) hT
  obtain ⟨b1, b2⟩ := sum_del_has (k := k) hK
  have hsum : sumE (delE k T) + z + sumE (delE k K) ≤ sumE T + sumE K ∧ 1 ≤ z := by
    unfold hasS at hz
    cases h0 : hasE k T with
    | some y =>
      rw [h0] at hz
      have : y = z := by simpa using hz
      subst this
      have := a1 y h0
      exact ⟨by omega, has_pos hT h0⟩
    | none =>
      rw [h0] at hz
      have h1 : hasE k K = some z := by simpa using hz
      have := b1 z h1
      exact ⟨by omega, has_pos hK h1⟩
  unfold touchE
  split
  · obtain ⟨c1, c2, c3⟩ := shr_ok hke ((delE k K).length + 1) (delE k T) ((k, z) :: delE k K) (by simp) (hT.del k) (fun y hy => (List.mem_cons.1 hy).elim (fun e => by rw [e]; exact hsum.2) (hK.del k y))
    exact ⟨by rw [c1, sumE]; simp only; omega, c2⟩
  · exact ⟨by simp only [sumE]; omega, by simp only; omega⟩
/-- what holds of a cache between two calls -/
structure InvS (al ke : Int) (s : Sg) : Prop where
  st : ∀ t, (t ∈ keysE s.T ∨ t ∈ keysE s.K) ↔ (s.V t).isSome = true
  qu : ∀ t, t ∈ keysI s.I ↔ (s.V t).isSome = true
  ok : ∀ t, (s.V t).isSome = true → okP t = true ∧ t.size ≤ 4000
  sk : sumE s.K ≤ ke
  sa : sumE s.T + sumE s.K ≤ al
theorem InvS.nil {al ke : Int} (h : 0 ≤ ke ∧ 0 ≤ al) : InvS al ke ⟨[], [], [], fun _ => none⟩ :=
  ⟨fun t => by simp [keysE], fun t => by simp [keysI], fun t h => (by cases h), h.1, h.2⟩
theorem filter_sum {p : En → Bool} : ∀ {l : List En}, posE l → sumE (l.filter p) ≤ sumE l
  | [], _ => Int.le_refl _
  | x :: l, h => by
    have hx := h x (by simp)
    have := filter_sum (p := p) (l := l) fun y hy => h y (by simp [hy])
    rw [List.filter_cons]
    split <;> simp only [sumE] <;> omega
theorem InvS.drops {al ke : Int} {s : Sg} (h : InvS al ke s) (hT : posE s.T) (hK : posE s.K) (l : List ByteArray) : InvS al ke (dropsS l s) := by
  have hV : ∀ t, ((dropsS l s).V t).isSome = true ↔ (s.V t).isSome = true ∧ t ∉ l := fun t => by
    rw [dropsS_V]
    by_cases ht : t ∈ l <;> simp [ht]
  refine ⟨fun t => ?_, fun t => ?_, fun t ht => h.ok t ((hV t).1 ht).1, ?_, ?_⟩
  · rw [hV t, ← h.st t, dropsS_T, dropsS_K, mem_keysE, mem_keysE, mem_keysE, mem_keysE]
    constructor
    · rintro (⟨y, hy, rfl⟩ | ⟨y, hy, rfl⟩)
      · have := List.mem_filter.1 hy; exact ⟨.inl ⟨y, this.1, rfl⟩, by simpa using this.2⟩
      · have := List.mem_filter.1 hy; exact ⟨.inr ⟨y, this.1, rfl⟩, by simpa using this.2⟩
    · rintro ⟨⟨y, hy, rfl⟩ | ⟨y, hy, rfl⟩, hn⟩
      · exact .inl ⟨y, List.mem_filter.2 ⟨hy, by simpa using hn⟩, rfl⟩
      · exact .inr ⟨y, List.mem_filter.2 ⟨hy, by simpa using hn⟩, rfl⟩
  · rw [hV t, ← h.qu t, dropsS_I, mem_keysI, mem_keysI]
    constructor
    · rintro ⟨y, hy, rfl⟩
      have := List.mem_filter.1 hy; exact ⟨⟨y, this.1, rfl⟩, by simpa using this.2⟩
    · rintro ⟨⟨y, hy, rfl⟩, hn⟩
      exact ⟨y, List.mem_filter.2 ⟨hy, by simpa using hn⟩, rfl⟩
  · rw [dropsS_K]; exact Int.le_trans (filter_sum hK) h.sk
  · rw [dropsS_K, dropsS_T]; have := filter_sum (p := fun y => decide (y.1 ∉ l)) hK; have := filter_sum (p := fun y => decide (y.1 ∉ l)) hT; have := h.sa; omega
theorem InvS.drop {al ke : Int} {s : Sg} (h : InvS al ke s) (hT : posE s.T) (hK : posE s.K) (t : ByteArray) : InvS al ke (dropS t s) := h.drops hT hK [t]
/-- what a Tick makes -/
def tickS (now : Int) (s : Sg) : Sg := dropsS (keysI (leI now s.I)) ⟨s.T, s.K, gtI now s.I, s.V⟩
theorem tick_is {now : Int} {s : Sg} (hn : (keysI s.I).Nodup) : tickS now s = dropsS (keysI (leI now s.I)) s := by
  unfold tickS
  refine Sg.ext' ?_ ?_ ?_ ?_
  · rw [dropsS_T, dropsS_T]
  · rw [dropsS_K, dropsS_K]
  · rw [dropsS_I, dropsS_I]
    show (gtI now s.I).filter _ = s.I.filter _
    unfold gtI
    rw [List.filter_filter]
    apply List.filter_congr
    intro y hy
    by_cases hc : now < y.2
    · simp [hc]
    · have : y.1 ∈ keysI (leI now s.I) := mem_keysI.2 ⟨y, List.mem_filter.2 ⟨hy, by simpa using hc⟩, rfl⟩
      simp [hc, this]
  · rw [dropsS_V, dropsS_V]
/-- what a Put makes, where it is right -/
def putS (al : Int) (t v : ByteArray) (z a : Int) (s : Sg) : Sg × List ByteArray :=
  (dropsS (putE al t z s.T s.K).2.2 ⟨(putE al t z s.T s.K).1, (putE al t z s.T s.K).2.1, setI t a s.I, setV t v s.V⟩, (putE al t z s.T s.K).2.2)
theorem InvS.put {al ke : Int} {s : Sg} (h : InvS al ke s) (hu : UK s.T s.K) (hT : posE s.T) (hK : posE s.K) {t v : ByteArray} (ht : okP t = true ∧ t.size ≤ 4000) {z a : Int} (hz : z ≤ al) : InvS al ke (putS al t v z a s).1 := by
  unfold putS
  obtain ⟨R, hR⟩ : ∃ R, putE al t z s.T s.K = R := ⟨_, rfl⟩
  obtain ⟨p1, p2, p3⟩ := put_keys hu hR
  obtain ⟨q1, q2⟩ := put_sums hT hK hz h.sk hR
  rw [hR]
  simp only
  have hV : ∀ x, ((dropsS R.2.2 ⟨R.1, R.2.1, setI t a s.I, setV t v s.V⟩).V x).isSome = true ↔ x = t ∨ ((s.V x).isSome = true ∧ x ∉ R.2.2) := fun x => by
    rw [dropsS_V]
    show (if x ∈ R.2.2 then none else setV t v s.V x).isSome = true ↔ _
    unfold setV
    by_cases hx : x = t
    · subst hx
      have : x ∉ R.2.2 := fun hg => (p2 x hg).2.1 rfl
      simp [this]
    · by_cases hg : x ∈ R.2.2 <;> simp [hg, hx]
  have keepT : (dropsS R.2.2 ⟨R.1, R.2.1, setI t a s.I, setV t v s.V⟩).T = R.1 := by
    rw [dropsS_T, List.filter_eq_self]
    intro y hy
    have : y.1 ∉ R.2.2 := fun hg => (p2 _ hg).2.2 (.inl (mem_keysE.2 ⟨y, hy, rfl⟩))
    simpa using this
  have keepK : (dropsS R.2.2 ⟨R.1, R.2.1, setI t a s.I, setV t v s.V⟩).K = R.2.1 := by
    rw [dropsS_K, List.filter_eq_self]
    intro y hy
    have : y.1 ∉ R.2.2 := fun hg => (p2 _ hg).2.2 (.inr (mem_keysE.2 ⟨y, hy, rfl⟩))
    simpa using this
  refine ⟨fun x => ?_, fun x => ?_, fun x hx => ?_, ?_, ?_⟩
  · rw [hV x, keepT, keepK, p1 x, h.st x]
  · rw [hV x, dropsS_I, mem_keysI]
    have e : (∃ y ∈ List.filter (fun y => decide (y.1 ∉ R.2.2)) (setI t a s.I), y.1 = x) ↔ x ∈ keysI (setI t a s.I) ∧ x ∉ R.2.2 := by
      rw [mem_keysI]
      constructor
      · rintro ⟨y, hy, rfl⟩
        have := List.mem_filter.1 hy; exact ⟨⟨y, this.1, rfl⟩, by simpa using this.2⟩
      · rintro ⟨⟨y, hy, rfl⟩, hn⟩
        exact ⟨y, List.mem_filter.2 ⟨hy, by simpa using hn⟩, rfl⟩
    rw [e, mem_setI_, h.qu x]
    constructor
    · rintro ⟨h1 | h1, h2⟩
      · exact .inl h1
      · exact .inr ⟨h1, h2⟩
    · rintro (h1 | ⟨h1, h2⟩)
      · subst h1; exact ⟨.inl rfl, fun hg => (p2 x hg).2.1 rfl⟩
      · exact ⟨.inr h1, h2⟩
  · rcases (hV x).1 hx with rfl | ⟨h1, _⟩
    · exact ht
    · exact h.ok x h1
  · rw [keepK]; exact q2
  · rw [keepT, keepK]; exact q1
def touchS (ke : Int) (t : ByteArray) (z : Int) (s : Sg) : Sg := ⟨(touchE ke t z s.T s.K).1, (touchE ke t z s.T s.K).2.1, s.I, s.V⟩
theorem InvS.touch {al ke : Int} {s : Sg} (h : InvS al ke s) (hke : 0 ≤ ke) (hT : posE s.T) (hK : posE s.K) {t : ByteArray} {z : Int} (hz : hasS t s.T s.K = some z) : InvS al ke (touchS ke t z s) := by
  have p1 := touch_keys hke hT hK hz rfl
  obtain ⟨q1, q2⟩ := touch_sums hke hT hK h.sk hz rfl
  refine ⟨fun x => (p1 x).trans (h.st x), h.qu, h.ok, q2, ?_⟩
  have := h.sa
  show sumE _ + sumE _ ≤ al
  unfold touchS
  simp only
  omega
end Go.Proofs.YtjngangojgjceaaGreat.CA
