/- What package slru's add makes of a store. Conditions: how long the key is, that it is new, that there is room. -/
import Derived.Test.YtfilmbeoggmglaaSls
namespace Go.Proofs.Ytfilmbeoggmglaa.SL
open Go.ChangeShapes Go.WideShapes Go.ChangeAt Go.RowKit Go.Maps Go.ChangeMaps
set_option maxRecDepth 100000
set_option linter.unusedVariables false
set_option linter.unusedSimpArgs false

/-- what a step that makes memory makes of a store -/
def StepN (g n n' : Nat) (al ke mo : Int) (x : Sx) (T K : List En) (w w' : World) : Prop :=
  ∃ x', St w' g n' al ke mo x' ∧ x'.tE = T ∧ x'.kE = K ∧ (∀ y, x'.own g y → x.own g y ∨ w.heap.size ≤ y) ∧ Chg (x.own g) w w'
theorem StepP.n {g n : Nat} {al ke mo : Int} {x : Sx} {T K : List En} {w w' : World} (h : StepP g n al ke mo x T K (x.own g) w w') : StepN g n n al ke mo x T K w w' := by
  obtain ⟨x', h1, h2, h3, h4, h5, _⟩ := h
  exact ⟨x', h1, h2, h3, fun y hy => .inl (h4 y hy), h5⟩
/-- the world in which a new entry's block has been made -/
abbrev addW (w : World) (k : ByteArray) (z s : Int) : World := (w.alloc (.cells #[.string k, .int .i64 z] 86)).alloc (.cells #[.string k, .int .i64 z, .int .i64 s, .pointer none, .pointer none] 92)
theorem addW_bel (w : World) (k : ByteArray) (z s : Int) : Below w.heap.size w (addW w k z s) := ((Below.refl _ _).alloc (Nat.le_refl _) _).alloc (by simp) _
theorem add_md {w : World} {g n : Nat} {al ke mo : Int} {x : Sx} (h : St w g n al ke mo x) {k : ByteArray} (hf : x.f k = none) {z : Int} (s : Int) (hz : 1 ≤ z) (hl : sumE x.tE + sumE x.kE + z ≤ 1073741824) :
    Md (addW w k z s) g al ke mo ⟨x.e0, x.e1, x.mb, x.T, x.K, upA x.F (w.heap.size + 1) ⟨k, z, s, none, none⟩, x.f⟩ (w.heap.size + 1) := by
  have hp : ∀ b, x.nd b → b ≠ w.heap.size + 1 := fun b hb e => by have := h.lt (.inr (.inr hb)); omega
  have hF : ∀ b, x.nd b → upA x.F (w.heap.size + 1) ⟨k, z, s, none, none⟩ b = x.F b := fun b hb => by unfold upA; rw [if_neg (hp b hb)]
  have hq : upA x.F (w.heap.size + 1) ⟨k, z, s, none, none⟩ (w.heap.size + 1) = ⟨k, z, s, none, none⟩ := by unfold upA; rw [if_pos rfl]
  have eT : en (upA x.F (w.heap.size + 1) ⟨k, z, s, none, none⟩) x.T = x.tE := en_congr fun b hb => by rw [hF b (.inr (.inr (.inl hb)))]; exact ⟨rfl, rfl⟩
  have eK : en (upA x.F (w.heap.size + 1) ⟨k, z, s, none, none⟩) x.K = x.kE := en_congr fun b hb => by rw [hF b (.inr (.inr (.inr hb)))]; exact ⟨rfl, rfl⟩
  refine ⟨?_, ?_, h.gg.other fun b hb => hF b hb, fun hb => hp _ hb rfl, ?_, ?_, ?_⟩
  · show Bk _ g _ (cel g al ke mo x.e0 x.e1 x.mb (sumE (en (upA x.F (w.heap.size + 1) ⟨k, z, s, none, none⟩) x.T)) (sumE (en (upA x.F (w.heap.size + 1) ⟨k, z, s, none, none⟩) x.K)))
    rw [eT, eK]
    exact h.bk.below (addW_bel w k z s)
  · intro b hb
    rcases hb with hb | rfl
    · show Bk _ b _ (pc (upA x.F (w.heap.size + 1) ⟨k, z, s, none, none⟩ b))
      rw [hF b hb]
      exact (h.nn b hb).below (addW_bel w k z s)
    · show Bk _ _ _ (pc (upA x.F (w.heap.size + 1) ⟨k, z, s, none, none⟩ (w.heap.size + 1)))
      rw [hq]
      exact Bk.new1 _ _ _ _
  · show 1 ≤ (upA x.F (w.heap.size + 1) ⟨k, z, s, none, none⟩ (w.heap.size + 1)).z
    rw [hq]; exact hz
  · intro b hb
    show (upA x.F (w.heap.size + 1) ⟨k, z, s, none, none⟩ b).k ≠ (upA x.F (w.heap.size + 1) ⟨k, z, s, none, none⟩ (w.heap.size + 1)).k
    rw [hq, hF b (.inr (.inr hb))]
    exact (h.none_ hf).1 b hb
  · show sumE (en (upA x.F (w.heap.size + 1) ⟨k, z, s, none, none⟩) x.T) + sumE (en (upA x.F (w.heap.size + 1) ⟨k, z, s, none, none⟩) x.K) + (upA x.F (w.heap.size + 1) ⟨k, z, s, none, none⟩ (w.heap.size + 1)).z ≤ 1073741824
    rw [eT, eK, hq]; exact hl
theorem add_stT {w w3 w4 : World} {g n : Nat} {al ke mo : Int} {x : Sx} (h : St w g n al ke mo x) {k : ByteArray} (hf : x.f k = none) {z : Int} (hz : 1 ≤ z) (hl : sumE x.tE + sumE x.kE + z ≤ 1073741824) (hn : n < 1099511627776) {e : Ending}
    (hen : EnPT g al ke mo ⟨x.e0, x.e1, x.mb, x.T, x.K, upA x.F (w.heap.size + 1) ⟨k, z, 0, none, none⟩, x.f⟩ (w.heap.size + 1) (addW w k z 0) e w3)
    (hm : MapP w4 x.mb (n + 1) fun y => if y = k then some (w.heap.size + 1) else x.f y) (hgr : w3.grownBy w4 (some x.mb)) : StepN g n (n + 1) al ke mo x ((k, z) :: x.tE) (x.kE) w w4 := by
  obtain ⟨_, F', q1, q2, q3, q4, q5, q6⟩ := hen
  have hp : ∀ b, x.nd b → b ≠ w.heap.size + 1 := fun b hb e => by have := h.lt (.inr (.inr hb)); omega
  have hq : upA x.F (w.heap.size + 1) ⟨k, z, 0, none, none⟩ (w.heap.size + 1) = ⟨k, z, 0, none, none⟩ := by unfold upA; rw [if_pos rfl]
  have hF1 : (F' (w.heap.size + 1)).k = k := by rw [(q3 _).1]; show (upA x.F (w.heap.size + 1) ⟨k, z, 0, none, none⟩ (w.heap.size + 1)).k = k; rw [hq]
  have hF2 : (F' (w.heap.size + 1)).z = z := by rw [(q3 _).2]; show (upA x.F (w.heap.size + 1) ⟨k, z, 0, none, none⟩ (w.heap.size + 1)).z = z; rw [hq]
  have hF0 : ∀ b, x.nd b → upA x.F (w.heap.size + 1) ⟨k, z, 0, none, none⟩ b = x.F b := fun b hb => by unfold upA; rw [if_neg (hp b hb)]
  have hF : ∀ b, x.nd b → (F' b).k = (x.F b).k ∧ (F' b).z = (x.F b).z := fun b hb => by
    rw [(q3 b).1, (q3 b).2]
    show (upA x.F (w.heap.size + 1) ⟨k, z, 0, none, none⟩ b).k = _ ∧ (upA x.F (w.heap.size + 1) ⟨k, z, 0, none, none⟩ b).z = _
    rw [hF0 b hb]; exact ⟨rfl, rfl⟩
  have eT : en F' x.T = x.tE := en_congr fun b hb => hF b (.inr (.inr (.inl hb)))
  have eK : en F' x.K = x.kE := en_congr fun b hb => hF b (.inr (.inr (.inr hb)))
  have hbel := addW_bel w k z 0
  have hnm := h.nm
  have hT : en F' ((w.heap.size + 1) :: x.T) = (k, z) :: x.tE := by show ((F' (w.heap.size + 1)).k, (F' (w.heap.size + 1)).z) :: en F' x.T = _; rw [hF1, hF2, eT]
  have hK : en F' x.K = x.kE := by exact eK
  have hsz : w3.heap.size = w.heap.size + 2 := by rw [q6]; simp
  have hne : ∀ b, (x.nd b ∨ b = w.heap.size + 1) → some b ≠ some x.mb := fun b hb e => by
    injection e with e
    rcases hb with hb | hb
    · exact hnm.1 (by rw [← e]; exact hb)
    · have := h.mp.lt; omega
  have hC : Chg (x.own g) w w4 := ((Chg.of_below hbel).trans' q5 fun b hb hs => by
    rcases hs with hs | hs | hs
    · exact .inl hs
    · exact .inr (.inr hs)
    · omega).grown hgr fun b hb _ => by injection hb with hb; exact .inr (.inl hb.symm)
  refine ⟨⟨x.e0, x.e1, x.mb, ((w.heap.size + 1) :: x.T), x.K, F', fun y => if y = k then some (w.heap.size + 1) else x.f y⟩, ⟨?_, fun y hy => ?_, q2, hm, fun q d => ?_, ?_, by omega⟩, hT, hK, fun y hy => ?_, hC⟩
  · show Bk w4 g _ (cel g al ke mo x.e0 x.e1 x.mb (sumE (en F' ((w.heap.size + 1) :: x.T))) (sumE (en F' x.K)))
    refine Bk.heap (w := w3) ?_ (hgr.block g (by have := h.bk.lt; omega) (fun e => hnm.2 (by injection e with e)))
    rw [hT, hK]
    have hb2 := q4
    have e5 : en (upA x.F (w.heap.size + 1) ⟨k, z, 0, none, none⟩) x.T = x.tE := en_congr fun b hb => by rw [hF0 b (.inr (.inr (.inl hb)))]; exact ⟨rfl, rfl⟩
    have e6 : en (upA x.F (w.heap.size + 1) ⟨k, z, 0, none, none⟩) x.K = x.kE := en_congr fun b hb => by rw [hF0 b (.inr (.inr (.inr hb)))]; exact ⟨rfl, rfl⟩
    have e9 : sumE ((k, z) :: x.tE) = sumE x.tE + z := by rw [sumE]; exact Int.add_comm _ _
    rw [e9]
    have hb3 : Bk w3 g 82 (cel g al ke mo x.e0 x.e1 x.mb (sumE (en (upA x.F (w.heap.size + 1) ⟨k, z, 0, none, none⟩) x.T) + (upA x.F (w.heap.size + 1) ⟨k, z, 0, none, none⟩ (w.heap.size + 1)).z) (sumE (en (upA x.F (w.heap.size + 1) ⟨k, z, 0, none, none⟩) x.K))) := hb2
    rw [e5, e6, hq] at hb3
    exact hb3
  · have hy2 : x.nd y ∨ y = w.heap.size + 1 := by
      rcases hy with hy | hy | hy | hy
      · exact .inl (.inl hy)
      · exact .inl (.inr (.inl hy))
      · rcases List.mem_cons.1 hy with hy | hy
        · exact .inr hy
        · exact .inl (.inr (.inr (.inl hy)))
      · exact .inl (.inr (.inr (.inr hy)))
    exact (q1 y hy2).heap (hgr.block y (by
      rcases hy2 with hy2 | hy2
      · have := h.lt (.inr (.inr hy2)); omega
      · omega) (hne y hy2))
  · show (if q = k then some (w.heap.size + 1) else x.f q) = some d ↔ (d ∈ ((w.heap.size + 1) :: x.T) ∨ d ∈ x.K) ∧ (F' d).k = q
    have hmem : ∀ d, (d ∈ ((w.heap.size + 1) :: x.T) ∨ d ∈ x.K) → d = w.heap.size + 1 ∨ (d ∈ x.T ∨ d ∈ x.K) := fun d h1 => h1.elim (fun e => (List.mem_cons.1 e).imp_right .inl) fun e => .inr (.inr e)
    by_cases hqk : q = k
    · rw [hqk, if_pos rfl]
      constructor
      · intro e; injection e with e; subst e; exact ⟨.inl (List.mem_cons_self ..), hF1⟩
      · rintro ⟨h1, h2⟩
        rcases hmem d h1 with e | e
        · rw [e]
        · exact absurd ((hF d (.inr (.inr e))).1.symm.trans h2) ((h.none_ hf).1 d e)
    · rw [if_neg hqk, h.lk q d]
      constructor
      · rintro ⟨h1, h2⟩; exact ⟨h1.imp_left (List.mem_cons_of_mem _), by rw [(hF d (.inr (.inr h1))).1, h2]⟩
      · rintro ⟨h1, h2⟩
        rcases hmem d h1 with e | e
        · rw [e, hF1] at h2; exact absurd h2.symm hqk
        · exact ⟨e, by rw [← (hF d (.inr (.inr e))).1, h2]⟩
  · show sumE (en F' ((w.heap.size + 1) :: x.T)) + sumE (en F' x.K) ≤ 1073741824
    rw [hT, hK, sumE]; simp only; omega
  · rcases hy with hy | hy | hy
    · exact .inl (.inl hy)
    · exact .inl (.inr (.inl hy))
    · have hy2 : x.nd y ∨ y = w.heap.size + 1 := by
        rcases hy with hy | hy | hy | hy
        · exact .inl (.inl hy)
        · exact .inl (.inr (.inl hy))
        · rcases List.mem_cons.1 hy with hy | hy
          · exact .inr hy
          · exact .inl (.inr (.inr (.inl hy)))
        · exact .inl (.inr (.inr (.inr hy)))
      rcases hy2 with hy2 | hy2
      · exact .inl (.inr (.inr hy2))
      · exact .inr (by omega)
set_option maxHeartbeats 2000000 in
theorem add_T (w : World) (g n : Nat) (al ke mo : Int) (x : Sx) (h : St w g n al ke mo x) (k : ByteArray) (hk : k.size ≤ 281474976710656) (hf : x.f k = none) (z : Int) (hz : 1 ≤ z) (hl : sumE x.tE + sumE x.kE + z ≤ 1073741824) (hn : n < 1099511627776) :
    Calls Try.prog 44 #[ptr g, .agg #[.string k, .int .i64 z], .int .i64 0] w (RetP (StepN g n (n + 1) al ke mo x ((k, z) :: x.tE) (x.kE) w)) := by
  have hmd := add_md h hf (z := z) 0 hz hl
  have HEN := Lib.hid (ent_T _ g al ke mo _ _ hmd (by show (upA x.F (w.heap.size + 1) ⟨k, z, 0, none, none⟩ (w.heap.size + 1)).s = 0; unfold upA; rw [if_pos rfl]))
  have HEND := Lib.hid (fun (w3 w4 : World) (e : Ending) hen hm hgr => add_stT (w3 := w3) (w4 := w4) h hf hz hl hn (e := e) hen hm hgr)
  have hmb := h.nm
  have hml := h.mp.lt
  have HM := Lib.hid (fun (w3 : World) (hC : Chg (fun b => b = g ∨ x.nd b ∨ b = w.heap.size + 1) (addW w k z 0) w3) => (h.mp.below (addW_bel w k z 0)).keep (hC.block x.mb (by simp; omega) (fun e => e.elim (fun e => hmb.2 e.symm) fun e => e.elim hmb.1 fun e => by omega)))
  have hgl := h.bk.lt
  have hkey := keyB k hk
  have HNW := Lib.hid hn
  have HGE := Lib.hid (fun (w3 : World) (hC : Chg (fun b => b = g ∨ x.nd b ∨ b = w.heap.size + 1) (addW w k z 0) w3) => (hC.block w.heap.size (by simp; omega) (fun e => e.elim (fun e => by omega) fun e => e.elim (fun e => by have := h.lt (.inr (.inr e)); omega) fun e => by omega)).trans (Below.heap_alloc _ _ _ (by simp)))
  obtain ⟨c0, _, _, _, c4, c5, c6, c7, c8⟩ := h.cells
  clear h hk hf hz hl hmd hmb hml hgl hn
  go_enter Try.func44, Try.ntmps44
  go_wp2_with fail
  refine HEN.out.mono ?_
  intro e w3 hq
  have HQ := Lib.hid hq
  obtain ⟨rfl, F', q1, q2, q3, q4, q5, q6⟩ := hq
  have k8 : w3.cell? ⟨g, 8, none⟩ = some (.map (some x.mb)) := q4.cell 8
  have kB : Bk w3 w.heap.size 86 #[.string k, .int .i64 z] := (HGE.out w3 q5).trans (heap_alloc_new w _)
  have k0 : w3.cell? ⟨w.heap.size, 0, none⟩ = some (.string k) := kB.cell 0
  obtain ⟨D, hown, hD⟩ := HM.out w3 q5
  obtain ⟨w4, hrun, ho4, hg4⟩ := (hown.drew).update strK Try.underlying80 (by have := HNW.out; unfold maxLen; omega) hkey (val := ptr (w.heap.size + 1)) (d := pD (some (w.heap.size + 1))) (ps := []) (ptrE_mk (some (w.heap.size + 1)))
  have hm4 : MapP w4 x.mb (n + 1) fun y => if y = k then some (w.heap.size + 1) else x.f y := MapP.put hown hD ho4
  have HS := Lib.hid (HEND.out w3 w4 _ HQ.out hm4 ⟨hg4.os, hg4.tape, hg4.output, hg4.size, hg4.block⟩)
  clear q1 q2 q3 q4 q5 q6 kB hD hown ho4 hg4 hm4
  go_wp2
  go_region
  all_goals
    go_wp2
    refine bodyPost_ret (v := .tuple #[]) (by simp [results, Try.results44, go_sem]) rfl ⟨rfl, ?_⟩
    exact HS.out
theorem add_stK {w w3 w4 : World} {g n : Nat} {al ke mo : Int} {x : Sx} (h : St w g n al ke mo x) {k : ByteArray} (hf : x.f k = none) {z : Int} (hz : 1 ≤ z) (hl : sumE x.tE + sumE x.kE + z ≤ 1073741824) (hn : n < 1099511627776) {e : Ending}
    (hen : EnPK g al ke mo ⟨x.e0, x.e1, x.mb, x.T, x.K, upA x.F (w.heap.size + 1) ⟨k, z, 1, none, none⟩, x.f⟩ (w.heap.size + 1) (addW w k z 1) e w3)
    (hm : MapP w4 x.mb (n + 1) fun y => if y = k then some (w.heap.size + 1) else x.f y) (hgr : w3.grownBy w4 (some x.mb)) : StepN g n (n + 1) al ke mo x (x.tE) ((k, z) :: x.kE) w w4 := by
  obtain ⟨_, F', q1, q2, q3, q4, q5, q6⟩ := hen
  have hp : ∀ b, x.nd b → b ≠ w.heap.size + 1 := fun b hb e => by have := h.lt (.inr (.inr hb)); omega
  have hq : upA x.F (w.heap.size + 1) ⟨k, z, 1, none, none⟩ (w.heap.size + 1) = ⟨k, z, 1, none, none⟩ := by unfold upA; rw [if_pos rfl]
  have hF1 : (F' (w.heap.size + 1)).k = k := by rw [(q3 _).1]; show (upA x.F (w.heap.size + 1) ⟨k, z, 1, none, none⟩ (w.heap.size + 1)).k = k; rw [hq]
  have hF2 : (F' (w.heap.size + 1)).z = z := by rw [(q3 _).2]; show (upA x.F (w.heap.size + 1) ⟨k, z, 1, none, none⟩ (w.heap.size + 1)).z = z; rw [hq]
  have hF0 : ∀ b, x.nd b → upA x.F (w.heap.size + 1) ⟨k, z, 1, none, none⟩ b = x.F b := fun b hb => by unfold upA; rw [if_neg (hp b hb)]
  have hF : ∀ b, x.nd b → (F' b).k = (x.F b).k ∧ (F' b).z = (x.F b).z := fun b hb => by
    rw [(q3 b).1, (q3 b).2]
    show (upA x.F (w.heap.size + 1) ⟨k, z, 1, none, none⟩ b).k = _ ∧ (upA x.F (w.heap.size + 1) ⟨k, z, 1, none, none⟩ b).z = _
    rw [hF0 b hb]; exact ⟨rfl, rfl⟩
  have eT : en F' x.T = x.tE := en_congr fun b hb => hF b (.inr (.inr (.inl hb)))
  have eK : en F' x.K = x.kE := en_congr fun b hb => hF b (.inr (.inr (.inr hb)))
  have hbel := addW_bel w k z 1
  have hnm := h.nm
  have hT : en F' x.T = x.tE := by exact eT
  have hK : en F' ((w.heap.size + 1) :: x.K) = (k, z) :: x.kE := by show ((F' (w.heap.size + 1)).k, (F' (w.heap.size + 1)).z) :: en F' x.K = _; rw [hF1, hF2, eK]
  have hsz : w3.heap.size = w.heap.size + 2 := by rw [q6]; simp
  have hne : ∀ b, (x.nd b ∨ b = w.heap.size + 1) → some b ≠ some x.mb := fun b hb e => by
    injection e with e
    rcases hb with hb | hb
    · exact hnm.1 (by rw [← e]; exact hb)
    · have := h.mp.lt; omega
  have hC : Chg (x.own g) w w4 := ((Chg.of_below hbel).trans' q5 fun b hb hs => by
    rcases hs with hs | hs | hs
    · exact .inl hs
    · exact .inr (.inr hs)
    · omega).grown hgr fun b hb _ => by injection hb with hb; exact .inr (.inl hb.symm)
  refine ⟨⟨x.e0, x.e1, x.mb, x.T, ((w.heap.size + 1) :: x.K), F', fun y => if y = k then some (w.heap.size + 1) else x.f y⟩, ⟨?_, fun y hy => ?_, q2, hm, fun q d => ?_, ?_, by omega⟩, hT, hK, fun y hy => ?_, hC⟩
  · show Bk w4 g _ (cel g al ke mo x.e0 x.e1 x.mb (sumE (en F' x.T)) (sumE (en F' ((w.heap.size + 1) :: x.K))))
    refine Bk.heap (w := w3) ?_ (hgr.block g (by have := h.bk.lt; omega) (fun e => hnm.2 (by injection e with e)))
    rw [hT, hK]
    have hb2 := q4
    have e5 : en (upA x.F (w.heap.size + 1) ⟨k, z, 1, none, none⟩) x.T = x.tE := en_congr fun b hb => by rw [hF0 b (.inr (.inr (.inl hb)))]; exact ⟨rfl, rfl⟩
    have e6 : en (upA x.F (w.heap.size + 1) ⟨k, z, 1, none, none⟩) x.K = x.kE := en_congr fun b hb => by rw [hF0 b (.inr (.inr (.inr hb)))]; exact ⟨rfl, rfl⟩
    have e9 : sumE ((k, z) :: x.kE) = sumE x.kE + z := by rw [sumE]; exact Int.add_comm _ _
    rw [e9]
    have hb3 : Bk w3 g 82 (cel g al ke mo x.e0 x.e1 x.mb (sumE (en (upA x.F (w.heap.size + 1) ⟨k, z, 1, none, none⟩) x.T)) (sumE (en (upA x.F (w.heap.size + 1) ⟨k, z, 1, none, none⟩) x.K) + (upA x.F (w.heap.size + 1) ⟨k, z, 1, none, none⟩ (w.heap.size + 1)).z)) := hb2
    rw [e5, e6, hq] at hb3
    exact hb3
  · have hy2 : x.nd y ∨ y = w.heap.size + 1 := by
      rcases hy with hy | hy | hy | hy
      · exact .inl (.inl hy)
      · exact .inl (.inr (.inl hy))
      · exact .inl (.inr (.inr (.inl hy)))
      · rcases List.mem_cons.1 hy with hy | hy
        · exact .inr hy
        · exact .inl (.inr (.inr (.inr hy)))
    exact (q1 y hy2).heap (hgr.block y (by
      rcases hy2 with hy2 | hy2
      · have := h.lt (.inr (.inr hy2)); omega
      · omega) (hne y hy2))
  · show (if q = k then some (w.heap.size + 1) else x.f q) = some d ↔ (d ∈ x.T ∨ d ∈ ((w.heap.size + 1) :: x.K)) ∧ (F' d).k = q
    have hmem : ∀ d, (d ∈ x.T ∨ d ∈ ((w.heap.size + 1) :: x.K)) → d = w.heap.size + 1 ∨ (d ∈ x.T ∨ d ∈ x.K) := fun d h1 => h1.elim (fun e => .inr (.inl e)) fun e => (List.mem_cons.1 e).imp_right .inr
    by_cases hqk : q = k
    · rw [hqk, if_pos rfl]
      constructor
      · intro e; injection e with e; subst e; exact ⟨.inr (List.mem_cons_self ..), hF1⟩
      · rintro ⟨h1, h2⟩
        rcases hmem d h1 with e | e
        · rw [e]
        · exact absurd ((hF d (.inr (.inr e))).1.symm.trans h2) ((h.none_ hf).1 d e)
    · rw [if_neg hqk, h.lk q d]
      constructor
      · rintro ⟨h1, h2⟩; exact ⟨h1.imp_right (List.mem_cons_of_mem _), by rw [(hF d (.inr (.inr h1))).1, h2]⟩
      · rintro ⟨h1, h2⟩
        rcases hmem d h1 with e | e
        · rw [e, hF1] at h2; exact absurd h2.symm hqk
        · exact ⟨e, by rw [← (hF d (.inr (.inr e))).1, h2]⟩
  · show sumE (en F' x.T) + sumE (en F' ((w.heap.size + 1) :: x.K)) ≤ 1073741824
    rw [hT, hK, sumE]; simp only; omega
  · rcases hy with hy | hy | hy
    · exact .inl (.inl hy)
    · exact .inl (.inr (.inl hy))
    · have hy2 : x.nd y ∨ y = w.heap.size + 1 := by
        rcases hy with hy | hy | hy | hy
        · exact .inl (.inl hy)
        · exact .inl (.inr (.inl hy))
        · exact .inl (.inr (.inr (.inl hy)))
        · rcases List.mem_cons.1 hy with hy | hy
          · exact .inr hy
          · exact .inl (.inr (.inr (.inr hy)))
      rcases hy2 with hy2 | hy2
      · exact .inl (.inr (.inr hy2))
      · exact .inr (by omega)
set_option maxHeartbeats 2000000 in
theorem add_K (w : World) (g n : Nat) (al ke mo : Int) (x : Sx) (h : St w g n al ke mo x) (k : ByteArray) (hk : k.size ≤ 281474976710656) (hf : x.f k = none) (z : Int) (hz : 1 ≤ z) (hl : sumE x.tE + sumE x.kE + z ≤ 1073741824) (hn : n < 1099511627776) :
    Calls Try.prog 44 #[ptr g, .agg #[.string k, .int .i64 z], .int .i64 1] w (RetP (StepN g n (n + 1) al ke mo x (x.tE) ((k, z) :: x.kE) w)) := by
  have hmd := add_md h hf (z := z) 1 hz hl
  have HEN := Lib.hid (ent_K _ g al ke mo _ _ hmd (by show (upA x.F (w.heap.size + 1) ⟨k, z, 1, none, none⟩ (w.heap.size + 1)).s = 1; unfold upA; rw [if_pos rfl]))
  have HEND := Lib.hid (fun (w3 w4 : World) (e : Ending) hen hm hgr => add_stK (w3 := w3) (w4 := w4) h hf hz hl hn (e := e) hen hm hgr)
  have hmb := h.nm
  have hml := h.mp.lt
  have HM := Lib.hid (fun (w3 : World) (hC : Chg (fun b => b = g ∨ x.nd b ∨ b = w.heap.size + 1) (addW w k z 1) w3) => (h.mp.below (addW_bel w k z 1)).keep (hC.block x.mb (by simp; omega) (fun e => e.elim (fun e => hmb.2 e.symm) fun e => e.elim hmb.1 fun e => by omega)))
  have hgl := h.bk.lt
  have hkey := keyB k hk
  have HNW := Lib.hid hn
  have HGE := Lib.hid (fun (w3 : World) (hC : Chg (fun b => b = g ∨ x.nd b ∨ b = w.heap.size + 1) (addW w k z 1) w3) => (hC.block w.heap.size (by simp; omega) (fun e => e.elim (fun e => by omega) fun e => e.elim (fun e => by have := h.lt (.inr (.inr e)); omega) fun e => by omega)).trans (Below.heap_alloc _ _ _ (by simp)))
  obtain ⟨c0, _, _, _, c4, c5, c6, c7, c8⟩ := h.cells
  clear h hk hf hz hl hmd hmb hml hgl hn
  go_enter Try.func44, Try.ntmps44
  go_wp2_with fail
  refine HEN.out.mono ?_
  intro e w3 hq
  have HQ := Lib.hid hq
  obtain ⟨rfl, F', q1, q2, q3, q4, q5, q6⟩ := hq
  have k8 : w3.cell? ⟨g, 8, none⟩ = some (.map (some x.mb)) := q4.cell 8
  have kB : Bk w3 w.heap.size 86 #[.string k, .int .i64 z] := (HGE.out w3 q5).trans (heap_alloc_new w _)
  have k0 : w3.cell? ⟨w.heap.size, 0, none⟩ = some (.string k) := kB.cell 0
  obtain ⟨D, hown, hD⟩ := HM.out w3 q5
  obtain ⟨w4, hrun, ho4, hg4⟩ := (hown.drew).update strK Try.underlying80 (by have := HNW.out; unfold maxLen; omega) hkey (val := ptr (w.heap.size + 1)) (d := pD (some (w.heap.size + 1))) (ps := []) (ptrE_mk (some (w.heap.size + 1)))
  have hm4 : MapP w4 x.mb (n + 1) fun y => if y = k then some (w.heap.size + 1) else x.f y := MapP.put hown hD ho4
  have HS := Lib.hid (HEND.out w3 w4 _ HQ.out hm4 ⟨hg4.os, hg4.tape, hg4.output, hg4.size, hg4.block⟩)
  clear q1 q2 q3 q4 q5 q6 kB hD hown ho4 hg4 hm4
  go_wp2
  go_region
  all_goals
    go_wp2
    refine bodyPost_ret (v := .tuple #[]) (by simp [results, Try.results44, go_sem]) rfl ⟨rfl, ?_⟩
    exact HS.out
end Go.Proofs.Ytfilmbeoggmglaa.SL
