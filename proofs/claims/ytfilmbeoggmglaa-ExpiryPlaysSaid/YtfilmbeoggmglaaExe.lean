/- Where a test begins to hold in package expiry's order: first, of an order of one block. Conditions: how many. -/
import Derived.Test.YtfilmbeoggmglaaExd
namespace Go.Proofs.Ytfilmbeoggmglaa.EX
open Go.ChangeShapes Go.WideShapes Go.ChangeAt Go.RowKit
open Go.Proofs.Ytfilmbeoggmglaa.SL Go.Proofs.Ytfilmbeoggmglaa.RW
set_option maxRecDepth 100000
set_option linter.unusedVariables false
set_option linter.unusedSimpArgs false

/-- the test of a function value: of each entry of L it tells q, and makes memory at most -/
structure Tes (fg : Nat) (fcb : Array Value) (q : Et → Bool) (L : List Et) (w : World) : Prop where
  enter : ∀ args W, (callFunc fg args).run Try.prog W = .ok (.enter fg args) W
  tells : ∀ W, Below w.heap.size w W → ∀ e ∈ L, Calls Try.prog fg (#[eV e] ++ fcb) W (TesP (q e) W)
set_option maxHeartbeats 4000000 in
theorem frs_any (W : World) (bf bo bb ob g n cap fg i : Nat) (fcb : Array Value) (e : Et) (B : Bool) (h1 : Bk W bf 114 #[.func (.func fg) #[] fcb]) (h2 : Bk W bo 71 #[.slice (some ⟨ob, 0, none⟩) 1 1]) (h3 : Bk W bb 3 #[.int .i64 0])
    (h4 : W.cell? ⟨ob, 0, none⟩ = some (.slice (some ⟨g, 0, none⟩) n cap)) (hi : i < n) (h5 : W.cell? ⟨g, i * 3, none⟩ = some (.string e.1)) (h6 : W.cell? ⟨g, i * 3 + 1, none⟩ = some (.int .i64 e.2.1)) (h7 : W.cell? ⟨g, i * 3 + 2, none⟩ = some (.int .i64 e.2.2))
    (henter : ∀ args W, (callFunc fg args).run Try.prog W = .ok (.enter fg args) W) (hq : ∀ W', Below W.heap.size W W' → Calls Try.prog fg (#[eV e] ++ fcb) W' (TesP B W')) :
    Calls Try.prog 82 #[.int .i64 (i : Int), ptr bf, ptr bo, ptr bb] W (TesP B W) := by
  have HQ := Lib.hid hq
  have c1 := h1.cell 0
  have c2 := h2.cell 0
  have c3 := h3.cell 0
  have HLT : Hid (bf < W.heap.size ∧ bo < W.heap.size ∧ bb < W.heap.size ∧ ob < W.heap.size ∧ g < W.heap.size) := Lib.hid ⟨h1.lt, h2.lt, h3.lt, World.block_lt_of_cell? _ _ h4, World.block_lt_of_cell? _ _ h5⟩
  have l0 : (0 : Int) ≤ (i : Int) := by omega
  have l1 : (i : Int) < (n : Int) := by omega
  clear hq h1 h2 h3 hi
  go_enter Try.func82, Try.ntmps82
  go_wp2_with fail
  refine wp_region_held_drew (S := (fun w' => Below W.heap.size W w')) (by kernel_rfl) ?_ (fun hS => ?_)
  · exact (Below.refl _ _).drew
  refine tkY 0 ?_ rfl hS ?_ ?_
  rotate_left
  · intro wz hz
    have z1 := (hz.cell (p := ⟨bf, 0, none⟩) HLT.out.1).trans c1
    have z2 := (hz.cell (p := ⟨bo, 0, none⟩) HLT.out.2.1).trans c2
    have z3 := (hz.cell (p := ⟨bb, 0, none⟩) HLT.out.2.2.1).trans c3
    have z4 := (hz.cell (p := ⟨ob, 0, none⟩) HLT.out.2.2.2.1).trans h4
    have z5 := (hz.cell (p := ⟨g, i * 3, none⟩) HLT.out.2.2.2.2).trans h5
    have z6 := (hz.cell (p := ⟨g, i * 3 + 1, none⟩) HLT.out.2.2.2.2).trans h6
    have z7 := (hz.cell (p := ⟨g, i * 3 + 2, none⟩) HLT.out.2.2.2.2).trans h7
    go_simp
    all_goals first | with_reducible rfl | omega
  try simp only [Act.put, pu]
  refine tkY 1 ?_ rfl hS ?_ ?_
  rotate_left
  · intro wz hz
    have z1 := (hz.cell (p := ⟨bf, 0, none⟩) HLT.out.1).trans c1
    have z2 := (hz.cell (p := ⟨bo, 0, none⟩) HLT.out.2.1).trans c2
    have z3 := (hz.cell (p := ⟨bb, 0, none⟩) HLT.out.2.2.1).trans c3
    have z4 := (hz.cell (p := ⟨ob, 0, none⟩) HLT.out.2.2.2.1).trans h4
    have z5 := (hz.cell (p := ⟨g, i * 3, none⟩) HLT.out.2.2.2.2).trans h5
    have z6 := (hz.cell (p := ⟨g, i * 3 + 1, none⟩) HLT.out.2.2.2.2).trans h6
    have z7 := (hz.cell (p := ⟨g, i * 3 + 2, none⟩) HLT.out.2.2.2.2).trans h7
    go_simp
    all_goals first | with_reducible rfl | omega
  try simp only [Act.put, pu]
  refine tkY 2 ?_ rfl hS ?_ ?_
  rotate_left
  · intro wz hz
    have z1 := (hz.cell (p := ⟨bf, 0, none⟩) HLT.out.1).trans c1
    have z2 := (hz.cell (p := ⟨bo, 0, none⟩) HLT.out.2.1).trans c2
    have z3 := (hz.cell (p := ⟨bb, 0, none⟩) HLT.out.2.2.1).trans c3
    have z4 := (hz.cell (p := ⟨ob, 0, none⟩) HLT.out.2.2.2.1).trans h4
    have z5 := (hz.cell (p := ⟨g, i * 3, none⟩) HLT.out.2.2.2.2).trans h5
    have z6 := (hz.cell (p := ⟨g, i * 3 + 1, none⟩) HLT.out.2.2.2.2).trans h6
    have z7 := (hz.cell (p := ⟨g, i * 3 + 2, none⟩) HLT.out.2.2.2.2).trans h7
    go_simp
    all_goals first | with_reducible rfl | omega
  try simp only [Act.put, pu]
  refine tkY 3 ?_ rfl hS ?_ ?_
  rotate_left
  · intro wz hz
    have z1 := (hz.cell (p := ⟨bf, 0, none⟩) HLT.out.1).trans c1
    have z2 := (hz.cell (p := ⟨bo, 0, none⟩) HLT.out.2.1).trans c2
    have z3 := (hz.cell (p := ⟨bb, 0, none⟩) HLT.out.2.2.1).trans c3
    have z4 := (hz.cell (p := ⟨ob, 0, none⟩) HLT.out.2.2.2.1).trans h4
    have z5 := (hz.cell (p := ⟨g, i * 3, none⟩) HLT.out.2.2.2.2).trans h5
    have z6 := (hz.cell (p := ⟨g, i * 3 + 1, none⟩) HLT.out.2.2.2.2).trans h6
    have z7 := (hz.cell (p := ⟨g, i * 3 + 2, none⟩) HLT.out.2.2.2.2).trans h7
    go_simp
    all_goals first | with_reducible rfl | omega
  try simp only [Act.put, pu]
  refine tkY 4 ?_ rfl hS ?_ ?_
  rotate_left
  · intro wz hz
    have z1 := (hz.cell (p := ⟨bf, 0, none⟩) HLT.out.1).trans c1
    have z2 := (hz.cell (p := ⟨bo, 0, none⟩) HLT.out.2.1).trans c2
    have z3 := (hz.cell (p := ⟨bb, 0, none⟩) HLT.out.2.2.1).trans c3
    have z4 := (hz.cell (p := ⟨ob, 0, none⟩) HLT.out.2.2.2.1).trans h4
    have z5 := (hz.cell (p := ⟨g, i * 3, none⟩) HLT.out.2.2.2.2).trans h5
    have z6 := (hz.cell (p := ⟨g, i * 3 + 1, none⟩) HLT.out.2.2.2.2).trans h6
    have z7 := (hz.cell (p := ⟨g, i * 3 + 2, none⟩) HLT.out.2.2.2.2).trans h7
    go_simp
    all_goals first | with_reducible rfl | omega
  try simp only [Act.put, pu]
  refine tkY 5 ?_ rfl hS ?_ ?_
  rotate_left
  · intro wz hz
    have z1 := (hz.cell (p := ⟨bf, 0, none⟩) HLT.out.1).trans c1
    have z2 := (hz.cell (p := ⟨bo, 0, none⟩) HLT.out.2.1).trans c2
    have z3 := (hz.cell (p := ⟨bb, 0, none⟩) HLT.out.2.2.1).trans c3
    have z4 := (hz.cell (p := ⟨ob, 0, none⟩) HLT.out.2.2.2.1).trans h4
    have z5 := (hz.cell (p := ⟨g, i * 3, none⟩) HLT.out.2.2.2.2).trans h5
    have z6 := (hz.cell (p := ⟨g, i * 3 + 1, none⟩) HLT.out.2.2.2.2).trans h6
    have z7 := (hz.cell (p := ⟨g, i * 3 + 2, none⟩) HLT.out.2.2.2.2).trans h7
    go_simp
    all_goals first | with_reducible rfl | omega
  try simp only [Act.put, pu]
  refine tkY 6 ?_ rfl hS ?_ ?_
  rotate_left
  · intro wz hz
    have z1 := (hz.cell (p := ⟨bf, 0, none⟩) HLT.out.1).trans c1
    have z2 := (hz.cell (p := ⟨bo, 0, none⟩) HLT.out.2.1).trans c2
    have z3 := (hz.cell (p := ⟨bb, 0, none⟩) HLT.out.2.2.1).trans c3
    have z4 := (hz.cell (p := ⟨ob, 0, none⟩) HLT.out.2.2.2.1).trans h4
    have z5 := (hz.cell (p := ⟨g, i * 3, none⟩) HLT.out.2.2.2.2).trans h5
    have z6 := (hz.cell (p := ⟨g, i * 3 + 1, none⟩) HLT.out.2.2.2.2).trans h6
    have z7 := (hz.cell (p := ⟨g, i * 3 + 2, none⟩) HLT.out.2.2.2.2).trans h7
    go_simp
    all_goals first | with_reducible rfl | omega
  try simp only [Act.put, pu]
  refine tkY 7 ?_ rfl hS ?_ ?_
  rotate_left
  · intro wz hz
    have z1 := (hz.cell (p := ⟨bf, 0, none⟩) HLT.out.1).trans c1
    have z2 := (hz.cell (p := ⟨bo, 0, none⟩) HLT.out.2.1).trans c2
    have z3 := (hz.cell (p := ⟨bb, 0, none⟩) HLT.out.2.2.1).trans c3
    have z4 := (hz.cell (p := ⟨ob, 0, none⟩) HLT.out.2.2.2.1).trans h4
    have z5 := (hz.cell (p := ⟨g, i * 3, none⟩) HLT.out.2.2.2.2).trans h5
    have z6 := (hz.cell (p := ⟨g, i * 3 + 1, none⟩) HLT.out.2.2.2.2).trans h6
    have z7 := (hz.cell (p := ⟨g, i * 3 + 2, none⟩) HLT.out.2.2.2.2).trans h7
    go_simp
    all_goals first | with_reducible rfl | omega
  try simp only [Act.put, pu]
  refine wpAnyH_ready (rs := [8]) (by kernel_rfl) (by simp) (AllReadyH.cons rfl (fun K' hK' => ?_) AllReadyH.nil)
  go_simp
  refine (HQ.out _ hS).mono ?_
  rintro e2 w2 ⟨rfl, hb2⟩
  have hb3 := hS.trans (hb2.mono hS.size)
  have HB3 := Lib.hid hb3
  clear hb2
  refine hK'.out _ _ ?_ (fun hSn => ?_)
  · exact hb3
  clear hK' K' hS
  have hS := hSn
  clear hSn
  try simp only [Act.put, pu]
  refine tkY 9 ?_ rfl hS ?_ ?_
  rotate_left
  · intro wz hz
    have z1 := (hz.cell (p := ⟨bf, 0, none⟩) HLT.out.1).trans c1
    have z2 := (hz.cell (p := ⟨bo, 0, none⟩) HLT.out.2.1).trans c2
    have z3 := (hz.cell (p := ⟨bb, 0, none⟩) HLT.out.2.2.1).trans c3
    have z4 := (hz.cell (p := ⟨ob, 0, none⟩) HLT.out.2.2.2.1).trans h4
    have z5 := (hz.cell (p := ⟨g, i * 3, none⟩) HLT.out.2.2.2.2).trans h5
    have z6 := (hz.cell (p := ⟨g, i * 3 + 1, none⟩) HLT.out.2.2.2.2).trans h6
    have z7 := (hz.cell (p := ⟨g, i * 3 + 2, none⟩) HLT.out.2.2.2.2).trans h7
    go_simp
    all_goals first | with_reducible rfl | omega
  try simp only [Act.put, pu]
  refine wpAnyH_done (by kernel_rfl) ?_ _
  clear hS
  go_wp2
  go_ret
  exact ⟨rfl, HB3.out⟩
def FirP (q : Et → Bool) (L : List Et) (w : World) (e : Ending) (w' : World) : Prop :=
  ∃ c : Nat, e = .returned (.tuple #[.int .i64 0, .int .i64 (c : Int)]) ∧ c ≤ L.length ∧ L.take c = L.filter (fun x => !q x) ∧ L.drop c = L.filter q ∧ Below w.heap.size w w'
set_option maxHeartbeats 4000000 in
theorem first_any (w : World) (B ob fg : Nat) (fcb : Array Value) (v : Value) (L : List Et) (q : Et → Bool) (h : Bk w ob 108 #[v]) (hv : EQ B w v L) (ht : Tes fg fcb q L w) (hm : L.Pairwise fun a b => q a = true → q b = true) (hl : L.length ≤ 1000000) :
    Calls Try.prog 69 #[.slice (some ⟨ob, 0, none⟩) 1 1, .func (.func fg) #[] fcb] w (FirP q L w) := by
  have HT := Lib.hid ht
  have HV := Lib.hid hv
  have HH := Lib.hid h
  have HL := Lib.hid hl
  obtain ⟨va, vc, rfl⟩ := hv.form
  obtain ⟨W1, hW1⟩ : ∃ W, (w.alloc (.cells #[.slice (some ⟨ob, 0, none⟩) 1 1] 71)).alloc (.cells #[.func (.func fg) #[] fcb] 114) = W := ⟨_, rfl⟩
  have hb1 : Below w.heap.size w W1 := by rw [← hW1]; exact ((Below.refl _ _).alloc (Nat.le_refl _) _).alloc (by simp) _
  have k1 : Bk W1 w.heap.size 71 #[.slice (some ⟨ob, 0, none⟩) 1 1] := by rw [← hW1]; exact (Bk.new w _ _).alloc _
  have k2 : Bk W1 (w.heap.size + 1) 114 #[.func (.func fg) #[] fcb] := by rw [← hW1]; exact Bk.new1 _ _ _ _
  have HB1 := Lib.hid hb1
  have K1 := Lib.hid k1
  have K2 := Lib.hid k2
  have q1 := k1.cell 0
  have henter2 : ∀ args W, (callFunc 82 args).run Try.prog W = .ok (.enter 82 args) W := fun args W => by show Sem.run Try.prog (callFunc 82 args) W = _; go_simp
  have henter1 : ∀ args W, (callFunc 81 args).run Try.prog W = .ok (.enter 81 args) W := fun args W => by show Sem.run Try.prog (callFunc 81 args) W = _; go_simp
  have HE1 := Lib.hid henter1
  have HE2 := Lib.hid henter2
  have HMM := Lib.hid hm
  clear h hv ht hl hm hb1 k1 k2 henter1 henter2
  go_enter Try.func69, Try.ntmps69
  go_wp2_with fail
  refine (search_any 81 _ 0 (fun _ => true) W1 HE1.out (fun W hb i hi => absurd hi (Nat.not_lt_zero _)) (fun _ _ _ _ _ => rfl) (by omega)).mono ?_
  rintro e w2 ⟨c0, rfl, ⟨hc0, _, _⟩, hb2⟩
  have : c0 = 0 := by omega
  subst this
  have HB2 := Lib.hid (HB1.out.trans (hb2.mono HB1.out.size))
  have K1 := Lib.hid (K1.out.below hb2)
  have K2 := Lib.hid (K2.out.below hb2)
  clear q1 hb2 hc0 hW1
  obtain ⟨W3, hW3⟩ : ∃ W, w2.alloc (.cells #[.int .i64 0] 3) = W := ⟨_, rfl⟩
  have hb3 : Below w2.heap.size w2 W3 := by rw [← hW3]; exact (Below.refl _ _).alloc (Nat.le_refl _) _
  have k3 : Bk W3 w2.heap.size 3 #[.int .i64 0] := by rw [← hW3]; exact Bk.new _ _ _
  have HB3 := Lib.hid (HB2.out.trans (hb3.mono HB2.out.size))
  have K1 := Lib.hid (K1.out.below hb3)
  have K2 := Lib.hid (K2.out.below hb3)
  have K3 := Lib.hid k3
  have KO := Lib.hid (HH.out.below HB3.out)
  have HV3 := Lib.hid (HV.out.below HB3.out)
  have q1 := K1.out.cell 0
  have q2 := k3.cell 0
  have q3 := KO.out.cell 0
  clear hb3 k3
  subst hW3
  go_wp2_with fail
  obtain ⟨W3, hW3⟩ : ∃ W, w2.alloc (.cells #[.int .i64 0] 3) = W := ⟨_, rfl⟩
  obtain ⟨b2, hb2e⟩ : ∃ b, w2.heap.size = b := ⟨_, rfl⟩
  rw [hW3] at HB3 K1 K2 K3 KO HV3 q2 ⊢
  rw [hb2e] at K3 q2 ⊢
  clear hW3 hb2e q1 q3
  refine (search_any 82 _ L.length (fun i => match L[i]? with | some e => q e | none => true) W3 HE2.out (fun W hb i hi => ?_) (fun a b hab hb hpa => ?_) HL.out).mono ?_
  · obtain ⟨e, he⟩ : ∃ e, L[i]? = some e := ⟨_, List.getElem?_eq_getElem hi⟩
    rcases HV3.out.inv with ⟨_, hl0⟩ | ⟨g, cap, hve, _⟩
    · rw [hl0] at hi; simp at hi
    · have hv4 := HV3.out.below hb
      rw [hve] at hv4
      obtain ⟨c1, c2, c3⟩ := hv4.cells i e he
      have k0 := (KO.out.below hb).cell 0
      rw [hve] at k0
      show Calls _ _ _ _ (TesP (match L[i]? with | some e => q e | none => true) W)
      rw [he]
      exact frs_any W _ _ b2 ob g L.length cap fg i fcb e (q e) (K2.out.below hb) (K1.out.below hb) (K3.out.below hb) k0 hi c1 c2 c3 HT.out.enter (fun W' hb' => HT.out.tells W' (HB3.out.trans ((hb.trans (hb'.mono hb.size)).mono HB3.out.size)) e (List.mem_of_getElem? he))
  · have ha : a < L.length := Nat.lt_of_le_of_lt hab hb
    simp only [List.getElem?_eq_getElem ha, List.getElem?_eq_getElem hb] at hpa ⊢
    rcases Nat.lt_or_ge a b with h | h
    · exact (List.pairwise_iff_getElem.1 HMM.out) a b ha hb h hpa
    · have : a = b := by omega
      subst this; exact hpa
  rintro e w4 ⟨c, rfl, ⟨hc, h1, h2⟩, hb4⟩
  have hcut := cut_filter q L c hc (fun i x hi hx => by have := h1 i hi; simp only [hx] at this; exact this) (fun i x hi hx => by have := h2 i hi (List.getElem?_eq_some_iff.1 hx).1; simp only [hx] at this; exact this)
  have HCUT := Lib.hid hcut
  have HC := Lib.hid hc
  have q2 := (hb4.cell (p := ⟨b2, 0, none⟩) K3.out.lt).trans q2
  have HB4 := Lib.hid (HB3.out.trans (hb4.mono HB3.out.size))
  clear hcut hc h1 h2 hb4
  go_wp2
  go_ret2
  exact ⟨c, rfl, HC.out, HCUT.out.1, HCUT.out.2, HB4.out⟩
end Go.Proofs.Ytfilmbeoggmglaa.EX
