/- Package expiry: Due. Conditions: how long keys are, how many. -/
import Derived.Test.YtfilmbeoggmglaaExo
namespace Go.Proofs.Ytfilmbeoggmglaa.EX
open Go.ChangeShapes Go.WideShapes Go.ChangeAt Go.RowKit Go.Maps Go.ChangeMaps Classical
open Go.Proofs.Ytfilmbeoggmglaa.SL Go.Proofs.Ytfilmbeoggmglaa.RW
set_option maxRecDepth 100000
set_option linter.unusedVariables false
set_option linter.unusedSimpArgs false

theorem MapF.congr {w : World} {b n s : Nat} {f f' : ByteArray → Option Et} (h : MapF w b n f s) (hf : ∀ k, f k = f' k) : MapF w b n f' s := by
  have : f = f' := funext hf
  subst this; exact h
/-- a list of texts is none of a queue's blocks -/
theorem QT.offT {B B' : Nat} {w : World} {g n : Nat} {x : Qx} {u : Value} {d : List ByteArray} (h : QT B w g n x) (hu : OT B' w u d) : ∀ q, u.ownBlock = some q → ¬ x.own g q := by
  rintro q hq (rfl | rfl | rfl | hx)
  · exact OT.offB hu h.bk (by decide) _ hq rfl
  · obtain ⟨D, ⟨es, clock, hb, _⟩, _⟩ := h.mp
    rcases hu.2 with ⟨rfl, _⟩ | ⟨g', cap, cur, rfl, _, hg, _⟩
    · cases hq
    · have hq2 : g' = x.m := (by injection hq)
      rw [hq2, hb] at hg
      cases hg
  · exact OT.offB hu h.ko (by decide) _ hq rfl
  · exact h.eq.offT hu q hx hq
theorem due_keys {n now : Int} {L : List Et} (h : Srt n L) : (keysT (leL now L)).Nodup ∧ (keysT (leL now L)).length + (gtL now L).length = L.length ∧ (∀ y, y ∈ keysT (leL now L) → (fnd y L).isSome = true) ∧ ∀ y, (if y ∈ keysT (leL now L) then none else fnd y L) = fnd y (gtL now L) := by
  have hs := h.split now
  have hu := h.uq
  have e1 : L.map (·.1) = keysT (leL now L) ++ keysT (gtL now L) := by
    have := congrArg (List.map (fun e : Et => e.1)) hs
    rw [List.map_append] at this
    exact this
  rw [e1] at hu
  obtain ⟨u1, u2, u3⟩ := List.nodup_append.1 hu
  refine ⟨u1, ?_, fun y hy => ?_, fun y => ?_⟩
  · have := congrArg List.length hs
    rw [List.length_append] at this
    unfold keysT
    rw [List.length_map]; omega
  · obtain ⟨e, he, hk⟩ := List.mem_map.1 hy
    cases hf : fnd y L with
    | some _ => rfl
    | none => exact absurd hk (fnd_none.1 hf e (List.mem_filter.1 he).1)
  · have hfa : fnd y L = (fnd y (leL now L)).or (fnd y (gtL now L)) := by rw [← fnd_app, ← hs]
    by_cases hy : y ∈ keysT (leL now L)
    · rw [if_pos hy]
      symm
      rw [fnd_none]
      intro e he hk
      exact u3 y hy y (List.mem_map.2 ⟨e, he, hk⟩) rfl
    · rw [if_neg hy, hfa]
      have : fnd y (leL now L) = none := fnd_none.2 fun e he hk => hy (List.mem_map.2 ⟨e, he, hk⟩)
      rw [this]; rfl
def DueQ (B g n : Nat) (x : Qx) (now : Int) (w : World) (e : Ending) (w' : World) : Prop :=
  ∃ u, e = .returned u ∧ OT w.heap.size w' u (keysT (leL now x.L)) ∧ StepQ B g n x (gtI now (x.L.map it)) w w'
set_option maxHeartbeats 8000000 in
theorem due_any (w : World) (B g n : Nat) (x : Qx) (h : QT B w g n x) (now : Int) (hk : ∀ e ∈ x.L, e.1.size ≤ 281474976710656) (hn : n ≤ 500) (hB : B ≤ w.heap.size) :
    Calls Try.prog 31 #[ptr g, .int .i64 now] w (DueQ B g n x now w) := by
  obtain ⟨c0, _, _, _, _⟩ := h.cells
  have HT := Lib.hid (take_any w B g x.ob x.v x.L n now (qC g n x) h.bk rfl h.ko h.eq h.sr (by have := h.le; omega) hB)
  have HH := Lib.hid h
  have HDK := Lib.hid (due_keys (now := now) h.sr)
  have HKL : Hid (∀ y ∈ keysT (leL now x.L), y.size ≤ 281474976710656) := Lib.hid fun y hy => by
    obtain ⟨e, he, hk2⟩ := List.mem_map.1 hy
    rw [← hk2]; exact hk e (List.mem_filter.1 he).1
  obtain ⟨D, hD⟩ : ∃ D, keysT (leL now x.L) = D := ⟨_, rfl⟩
  have HN := Lib.hid hn
  have HB0 := Lib.hid hB
  unfold DueQ
  rw [hD] at HT HDK HKL ⊢
  clear h hk hn hB hD
  go_enter Try.func31, Try.ntmps31
  go_wp2_with fail
  refine (given_yes _ g c0).mono ?_
  rintro e w' ⟨rfl, rfl⟩
  go_wp2_with fail
  refine HT.out.mono ?_
  rintro e w2 ⟨u, rfl, ou, a2, c2, kg2, ko2, he2, hc2, ho2⟩
  obtain ⟨nb1, nb2, nb3, nb4, nb5, nb6⟩ := HH.out.nob
  have hm2 : MapF w2 x.m n (fun y => fnd y x.L) x.L.length := HH.out.mp.keep (hc2.block _ HH.out.mp.lt (fun e => by rcases e with e | e | e; exact nb2 e; exact nb3 e; exact nb6 e))
  obtain ⟨ua, uc, rfl⟩ := ou.form
  have OU := Lib.hid ou
  have KG := Lib.hid kg2
  have KO := Lib.hid ko2
  have KE := Lib.hid he2
  have HC := Lib.hid hc2
  have HO := Lib.hid ho2
  have HM := Lib.hid hm2
  have HDL : Hid (D.length ≤ x.L.length) := Lib.hid (by have := HDK.out.2.1; omega)
  have HUM : Hid (∀ q, (Value.slice ua D.length uc).ownBlock = some q → q ≠ x.m) := Lib.hid fun q hq e => by
    obtain ⟨D', ⟨es, clock, hb, _⟩, _⟩ := hm2
    rcases ou.2 with ⟨e1, _⟩ | ⟨g', cap, cur, e1, _, hg, _⟩
    · rw [e1] at hq; cases hq
    · rw [e1] at hq
      have hq2 : g' = q := (by injection hq)
      rw [hq2, e, hb] at hg
      cases hg
  clear ou kg2 ko2 he2 hc2 ho2 hm2 nb1 nb2 nb3 nb4 nb5 nb6
  go_wp2
  go_loopg [18] D.length (fun gk u18 wx => ∃ i : Nat, u18 = .int .i64 (i : Int) ∧ i + gk = D.length ∧ MapF wx x.m n (fun y => if y ∈ D.take i then none else fnd y x.L) (x.L.length - i) ∧ Chg (fun b => b = x.m) w2 wx)
  case atStart => exact ⟨0, rfl, by omega, by have := HM.out; simpa using this, Chg.refl _ _⟩
  case round =>
    obtain ⟨i, rfl, hi, hmp, hch⟩ := hrel
    have HCH := Lib.hid hch
    have hnm : ∀ b t cs, Bk w2 b t cs → b ≠ x.m := fun b t cs hb e => bk_nomapF hb HM.out e
    cases gk with
    | zero =>
      have hid : i = D.length := by omega
      subst hid
      have HMP := Lib.hid hmp
      clear hmp hi hch hnm
      go_wp2
      go_ret
      obtain ⟨nb1, nb2, nb3, nb4, nb5, nb6⟩ := HH.out.nob
      have hnm : ∀ b t cs, Bk w2 b t cs → b ≠ x.m := fun b t cs hb e => bk_nomapF hb HM.out e
      have hlen : x.L.length - D.length = (gtL now x.L).length := by have := HDK.out.2.1; omega
      have hf : (fun y => if y ∈ D.take D.length then none else fnd y x.L) = fun y => fnd y (gtL now x.L) := by
        funext y; rw [List.take_of_length_le (Nat.le_refl _)]; exact HDK.out.2.2.2 y
      have hown : ∀ q, (Value.slice a2 (gtL now x.L).length c2).ownBlock = some q → q ≠ x.m := fun q hq e => nb6 (by rw [← e]; exact HO.out q hq)
      refine ⟨_, rfl, OU.out.chg HCH.out (fun q hq e => HUM.out q hq e), ⟨x.m, x.ob, a2, c2, gtL now x.L⟩, ⟨KG.out.chg HCH.out (hnm _ _ _ KG.out), KO.out.chg HCH.out (hnm _ _ _ KO.out), KE.out.keep fun q hq => HCH.out.block q (KE.out.lt q hq).2 (hown q hq), ?_, HH.out.sr.gt now, ?_, HH.out.bs⟩, it_gtL now x.L, fun b hb => ?_, ?_⟩
      · have := HMP.out; rw [hf, hlen] at this; exact this
      · show (gtL now x.L).length ≤ n
        have := HH.out.le; have := HDK.out.2.1; omega
      · rcases hb with hb | hb | hb | hb
        · exact .inl (.inl hb)
        · exact .inl (.inr (.inl hb))
        · exact .inl (.inr (.inr (.inl hb)))
        · exact .inl (.inr (.inr (.inr (HO.out b hb))))
      · exact (HC.out.mono fun b _ hb => by rcases hb with e | e | e; exact .inl e; exact .inr (.inr (.inl e)); exact .inr (.inr (.inr e))).trans (HCH.out.mono fun b _ hb => .inr (.inl hb))
    | succ gko =>
      have hlt : i < D.length := by omega
      obtain ⟨y, hy⟩ : ∃ y, D[i] = y := ⟨_, rfl⟩
      have hiy : D[i]? = some y := by rw [List.getElem?_eq_getElem hlt, hy]
      have hym : y ∈ D := List.mem_of_getElem? hiy
      have hynot : y ∉ D.take i := fun hm => by
        have hnd := HDK.out.1
        rw [← List.take_append_drop i D] at hnd
        refine (List.nodup_append.1 hnd).2.2 y hm y ?_ rfl
        rw [List.drop_eq_getElem_cons hlt, hy]; exact List.mem_cons_self ..
      have ts := (OU.out.chg hch (fun q hq e => HUM.out q hq e)).ts
      obtain ⟨bb, off, cap, he, hcap, hx⟩ := ts.inv (by omega)
      injection he with e1 _ e2
      subst e1 e2
      have t0 := hx i y hiy
      have hkey := keyB y (HKL.out y hym)
      obtain ⟨D', hown, hd1, hd2, hd3⟩ := hmp
      have c2' : wr.cell? ⟨g, 2, none⟩ = some (.map (some x.m)) := (KG.out.chg hch (hnm _ _ _ KG.out)).cell 2
      obtain ⟨i1, hi1⟩ : ∃ i1, i + 1 = i1 := ⟨_, rfl⟩
      have l0 : (0 : Int) ≤ (i : Int) := by omega
      have l1 : (i : Int) < (D.length : Int) := by omega
      have wk : IntKind.i64.wrap ((i : Int) + 1) = (i1 : Int) := by rw [show (i : Int) + 1 = (i1 : Int) by omega]; exact IntWalk.i64_in _ (by have := HDL.out; have := HH.out.le; have := HN.out; omega)
      have HI : Hid (i1 + gko = D.length) := Lib.hid (by omega)
      have hsz : x.L.length - i = (x.L.length - i1) + 1 := by have := HDL.out; omega
      have HD3 : Hid (Maps.size D' = (x.L.length - i1) + 1) := Lib.hid (hd3.trans hsz)
      have HOWN := Lib.hid hown
      have HD1 := Lib.hid hd1
      have HD2 := Lib.hid hd2
      have HSO : Hid ((if y ∈ D.take i then none else fnd y x.L).isSome = true) := Lib.hid (by rw [if_neg hynot]; exact HDK.out.2.2.1 y hym)
      have HTK : Hid (D.take i1 = D.take i ++ [y]) := Lib.hid (by rw [← hi1, List.take_add_one, hiy]; rfl)
      clear hi hlt hy hiy hym hynot ts hcap hx hown hd1 hd2 hd3 hi1 hsz hch hnm
      go_wp2_with (at_delete; refine wpList_delete_own _ rfl _ _ 69 9 rfl 101 strK Try.underlying69 entE x.m n D' rfl HOWN.out _ _ rfl hkey ?_; intro w4 ho4 ht4)
      have hm4 := MapF.delD HOWN.out HD1.out HD2.out HD3.out HSO.out ho4
      have hc4 : Chg (fun b => b = x.m) w2 w4 := HCH.out.grown ht4.grown (fun q hq _ => by have hq2 : x.m = q := (by injection hq); exact hq2.symm)
      have HM4 : Hid (MapF w4 x.m n (fun y => if y ∈ D.take i1 then none else fnd y x.L) (x.L.length - i1)) := Lib.hid (by
        refine hm4.congr fun z => ?_
        show (if z = y then none else if z ∈ D.take i then none else fnd z x.L) = if z ∈ D.take i1 then none else fnd z x.L
        rw [HTK.out]
        by_cases hz : z = y
        · subst hz; rw [if_pos rfl, if_pos (List.mem_append.2 (.inr (List.mem_cons_self ..)))]
        · rw [if_neg hz]
          by_cases hz2 : z ∈ D.take i
          · rw [if_pos hz2, if_pos (List.mem_append.2 (.inl hz2))]
          · rw [if_neg hz2, if_neg (fun h => (List.mem_append.1 h).elim hz2 (fun h => by simp at h; exact hz h))])
      have HC4 := Lib.hid hc4
      clear hm4 hc4 ho4 ht4 c2' t0
      go_wp2
      go_roundg gko
      case measure => exact Nat.lt_succ_self _
      case rel => exact ⟨i1, rfl, HI.out, HM4.out, HC4.out⟩
end Go.Proofs.Ytfilmbeoggmglaa.EX
