/- Package cache: texts, forget. Conditions: how many, how long keys are, how many puts there were.
   Package cache: what is not there; Tick, Flush, Keys, Bytes; made, New. Conditions: how many, how long keys are, how many puts there were. -/
import Derived.Test.YtjngangojgjceaaGreatG17
set_option linter.unusedSimpArgs false
set_option linter.unusedVariables false
namespace Go.Proofs.YtjngangojgjceaaGreat.CA
open Go.ChangeShapes Go.WideShapes Go.ChangeAt Go.RowKit Go.Maps Go.ChangeMaps
open Go.Proofs.YtjngangojgjceaaGreat.SL Go.Proofs.YtjngangojgjceaaGreat.EX Go.Proofs.YtjngangojgjceaaGreat.RW
set_option maxRecDepth 100000
set_option linter.unusedVariables false
set_option linter.unusedSimpArgs false

/-- a list of keys that was told -/
def Kk (B : Nat) (v : Value) (d : List Ky) : Kp := .keep (fun w => KO 32 B w v d) (fun b => v.ownBlock = some b)
section
variable {w0 w w' : World} {C : Cb} {N : Nat} {σ : Sg} {O : List Kp}
theorem LC.addK (h : LC w0 w C N σ O) (hb : Below w.heap.size w w') {v : Value} {d : List Ky} (hv : KO 32 w.heap.size w' v d) : LC w0 w' C N σ (Kk w0.heap.size v d :: O) :=
  h.addO hb (hv.mono h.bel.size) (fun b hb2 => ⟨(World.ownsRow.lt hv b hb2).1, (World.ownsRow.lt hv b hb2).2⟩) fun w1 w2 h1 hk => h1.keepB hk
theorem LC.keysK (h : LC w0 w C N σ O) {v : Value} {d : List Ky} (hm : Kk w0.heap.size v d ∈ O) : KO 32 w0.heap.size w v d := h.kp hm
set_option maxHeartbeats 4000000 in
theorem texts_any (h : LC w0 w C N σ O) (D : List ByteArray) (hD : keysE σ.K ++ keysE σ.T = D) : Calls Tryz.prog 54 #[ptr C.g] w (CatP D w) := by
  have hf := h.facts
  obtain ⟨dK, hdK⟩ : ∃ d, keysE σ.K = d := ⟨_, rfl⟩
  obtain ⟨dT, hdT⟩ : ∃ d, keysE σ.T = d := ⟨_, rfl⟩
  have hln := hf.2.2.2.2.2.2.1
  have lK : dK.length ≤ 1073741824 := by rw [← hdK]; unfold keysE; rw [List.length_map]; omega
  have lT : dT.length ≤ 1073741824 := by rw [← hdT]; unfold keysE; rw [List.length_map]; omega
  rw [hdK, hdT] at hD
  have HD := Lib.hid hD
  have HDK := Lib.hid hdK
  have HDT := Lib.hid hdT
  have HLK := Lib.hid lK
  have HLT := Lib.hid lT
  obtain ⟨c0, c1, c2, c3, c4⟩ := h.cells
  have H := Lib.hid h
  clear h hf hln lK lT hD hdK hdT c0 c1 c2 c4
  unfold CatP
  go_enter Tryz.func54, Tryz.ntmps54
  go_wp2_with fail
  refine wp_region_held_drew (S := (fun w' => LC w0 w' C N σ O)) (by kernel_rfl) ?_ (fun hS => ?_)
  · exact H.out.below (Below.refl _ _).drew
  refine tkY 0 ?_ rfl hS ?_ ?_
  rotate_left
  · intro wz hz
    obtain ⟨z0, z1, z2, z3, z4⟩ := hz.cells
    go_simp
    all_goals first | with_reducible rfl | omega
  try simp only [Act.put, pu]
  refine tkY 1 ?_ rfl hS ?_ ?_
  rotate_left
  · intro wz hz
    obtain ⟨z0, z1, z2, z3, z4⟩ := hz.cells
    go_simp
    all_goals first | with_reducible rfl | omega
  try simp only [Act.put, pu]
  refine tkY 2 ?_ rfl hS ?_ ?_
  rotate_left
  · intro wz hz
    obtain ⟨z0, z1, z2, z3, z4⟩ := hz.cells
    go_simp
    all_goals first | with_reducible rfl | omega
  try simp only [Act.put, pu]
  refine tkY 3 ?_ rfl hS ?_ ?_
  rotate_left
  · intro wz hz
    obtain ⟨z0, z1, z2, z3, z4⟩ := hz.cells
    go_simp
    all_goals first | with_reducible rfl | omega
  try simp only [Act.put, pu]
  refine tkY 5 ?_ rfl hS ?_ ?_
  rotate_left
  · intro wz hz
    obtain ⟨z0, z1, z2, z3, z4⟩ := hz.cells
    go_simp
    all_goals first | with_reducible rfl | omega
  try simp only [Act.put, pu]
  refine tkY 6 ?_ rfl hS ?_ ?_
  rotate_left
  · intro wz hz
    obtain ⟨z0, z1, z2, z3, z4⟩ := hz.cells
    go_simp
    all_goals first | with_reducible rfl | omega
  try simp only [Act.put, pu]
  refine tkY 7 ?_ rfl hS ?_ ?_
  rotate_left
  · intro wz hz
    obtain ⟨z0, z1, z2, z3, z4⟩ := hz.cells
    go_simp
    all_goals first | with_reducible rfl | omega
  try simp only [Act.put, pu]
  refine tkY 8 ?_ rfl hS ?_ ?_
  rotate_left
  · intro wz hz
    obtain ⟨z0, z1, z2, z3, z4⟩ := hz.cells
    go_simp
    all_goals first | with_reducible rfl | omega
  try simp only [Act.put, pu]
  refine wpAnyH_ready (rs := [4]) (by kernel_rfl) (by simp) (AllReadyH.cons rfl (fun K' hK' => ?_) AllReadyH.nil)
  go_simp
  have hbd : Below w.heap.size w w.drew := (Below.refl _ _).drew
  refine (lc_skeysK (H.out.below hbd) dK HDK.out).mono ?_
  rintro e w4 ⟨ka, kc, rfl, o4, b4⟩
  have HO4 := Lib.hid (OT.mono o4 hbd.size)
  have HB4 := Lib.hid (hbd.trans (b4.mono hbd.size))
  clear o4 b4 hbd
  refine hK'.out _ _ ?_ (fun hSn => ?_)
  · exact H.out.below HB4.out
  clear hK' K' hS
  have hS := hSn
  clear hSn
  try simp only [Act.put, pu]
  refine wpAnyH_ready (rs := [9]) (by kernel_rfl) (by simp) (AllReadyH.cons rfl (fun K' hK' => ?_) AllReadyH.nil)
  go_simp
  refine (lc_skeysT (H.out.below HB4.out) dT HDT.out).mono ?_
  rintro e w5 ⟨ta, tc, rfl, o5, b5⟩
  have HO5 := Lib.hid (OT.mono o5 HB4.out.size)
  have HO4 := Lib.hid (SL.OT.below HO4.out b5)
  have HB5 := Lib.hid (HB4.out.trans (b5.mono HB4.out.size))
  clear o5 b5
  refine hK'.out _ _ ?_ (fun hSn => ?_)
  · exact H.out.below HB5.out
  clear hK' K' hS
  have hS := hSn
  clear hSn
  try simp only [Act.put, pu]
  refine wpAnyH_ready (rs := [10]) (by kernel_rfl) (by simp) (AllReadyH.cons rfl (fun K' hK' => ?_) AllReadyH.nil)
  go_simp
  obtain ⟨W6, hW6⟩ : ∃ W, w5.alloc (.cells #[.slice ka dK.length kc, .slice ta dT.length tc] 80) = W := ⟨_, rfl⟩
  obtain ⟨nb, hnb⟩ : ∃ b, w5.heap.size = b := ⟨_, rfl⟩
  have hb6 : Below w5.heap.size w5 W6 := by rw [← hW6]; exact (Below.refl _ _).alloc (Nat.le_refl _) _
  have kn : Bk W6 nb 80 #[.slice ka dK.length kc, .slice ta dT.length tc] := by rw [← hW6, ← hnb]; exact Bk.new _ _ _
  have HKN := Lib.hid kn
  have HO4 := Lib.hid (SL.OT.below HO4.out hb6)
  have HO5 := Lib.hid (SL.OT.below HO5.out hb6)
  have HB6 := Lib.hid (HB5.out.trans (hb6.mono HB5.out.size))
  try rw [hW6]
  try rw [hnb]
  clear hb6 kn hW6 hnb
  refine hK'.out _ _ ?_ (fun hSn => ?_)
  · exact H.out.below HB6.out
  clear hK' K' hS
  have hS := hSn
  clear hSn
  try simp only [Act.put, pu]
  refine wpAnyH_ready (rs := [11]) (by kernel_rfl) (by simp) (AllReadyH.cons rfl (fun K' hK' => ?_) AllReadyH.nil)
  go_simp
  refine (concat_any nb ka ta kc tc dK dT W6 HKN.out HO4.out.ts HO5.out.ts HLK.out HLT.out D HD.out).mono ?_
  rintro e w7 ⟨a7, c7, rfl, o7, b7⟩
  have HO7 := Lib.hid (OT.mono o7 HB6.out.size)
  have HB7 := Lib.hid (HB6.out.trans (b7.mono HB6.out.size))
  clear o7 b7
  refine hK'.out _ _ ?_ (fun hSn => ?_)
  · exact H.out.below HB7.out
  clear hK' K' hS
  have hS := hSn
  clear hSn
  try simp only [Act.put, pu]
  refine tkY 12 ?_ rfl hS ?_ ?_
  rotate_left
  · intro wz hz
    go_simp
    all_goals first | with_reducible rfl | omega
  try simp only [Act.put, pu]
  refine wpAnyH_done (by kernel_rfl) ?_ _
  clear hS
  go_wp2
  go_ret
  exact ⟨_, _, rfl, HO7.out, HB7.out⟩
theorem dropsS_snoc (l : List ByteArray) (t : ByteArray) (s : Sg) : dropsS (l ++ [t]) s = dropS t (dropsS l s) := by unfold dropsS; rw [List.foldl_append]; rfl
theorem drops_V {l : List ByteArray} {i : Nat} {t : ByteArray} {s : Sg} (hn : l.Nodup) (hi : l[i]? = some t) (ho : okP t = true) (hv : (s.V t).isSome = true) : ∃ e, fV (dropsS (l.take i) s).V (parK t) = some e := by
  have h1 := par_ok ho
  have hni : t ∉ l.take i := by
    intro hm
    obtain ⟨j, hj⟩ := List.getElem?_of_mem hm
    rw [List.getElem?_take] at hj
    split at hj
    · rename_i hlt
      obtain ⟨a1, a2⟩ := List.getElem?_eq_some_iff.1 hj
      obtain ⟨b1, b2⟩ := List.getElem?_eq_some_iff.1 hi
      exact List.pairwise_iff_getElem.1 hn j i a1 b1 hlt (a2.trans b2.symm)
    · cases hj
  obtain ⟨v, hv2⟩ := Option.isSome_iff_exists.1 hv
  refine ⟨(t, v), ?_⟩
  unfold fV
  rw [if_pos h1.1, h1.2, dropsS_V]
  simp only
  rw [if_neg hni, hv2]; rfl
/-- texts whose keys are there -/
structure There (l : List ByteArray) (s : Sg) : Prop where
  nd : l.Nodup
  ok : ∀ t ∈ l, okP t = true ∧ t.size ≤ 4000
  vs : ∀ t ∈ l, (s.V t).isSome = true
theorem fit_par {t : ByteArray} (h : okP t = true) (hs : t.size ≤ 4000) : FitK (parK t) := by
  have h1 := par_ok h
  have h2 := text_size h1.1
  rw [h1.2] at h2
  have h3 := (right_iff.1 h1.1).2.2.2
  refine ⟨by omega, by omega, by omega, ?_, ?_⟩
  · rcases h3 with h3 | h3 <;> rw [h3] <;> omega
  · rcases h3 with h3 | h3 <;> rw [h3] <;> omega
def ForP (w0 : World) (C : Cb) (N : Nat) (σ : Sg) (O : List Kp) (d : List Ky) (e : Ending) (w' : World) : Prop := ∃ a c, e = .returned (.slice a d.length c) ∧ LC w0 w' C N σ (Kk w0.heap.size (.slice a d.length c) d :: O)
set_option maxHeartbeats 8000000 in
theorem forget_any (h : LC w0 w C N σ O) (hN : N ≤ 480) (v : Value) (l : List ByteArray) (hv : TS w v l) (ht : There l σ) (hl : l.length ≤ 1099511627776) :
    Calls Tryz.prog 34 #[ptr C.g, v] w (ForP w0 C N (dropsS l σ) O (l.map parK)) := by
  obtain ⟨va, vc, rfl⟩ := hv.form
  have HP := Lib.hid (parsed_any (.slice va l.length vc) l w hv hl (fun t htt => by have := (ht.ok t htt).2; omega))
  have H := Lib.hid h
  have HT := Lib.hid ht
  have HL := Lib.hid hl
  have HN := Lib.hid hN
  clear h hv ht hl hN
  unfold ForP
  unfold KeysC at HP
  obtain ⟨D, hD⟩ : ∃ D, l.map parK = D := ⟨_, rfl⟩
  have hDL : D.length = l.length := by rw [← hD, List.length_map]
  rw [hD] at HP ⊢
  have HD := Lib.hid hD
  have HDL := Lib.hid hDL
  clear hD hDL
  go_enter Tryz.func34, Tryz.ntmps34
  go_wp2_with fail
  refine HP.out.mono ?_
  rintro e w2 ⟨ka, kc, rfl, ok, bk⟩
  have H := Lib.hid (H.out.addK bk ok)
  clear ok bk HP
  go_wp2
  go_loopg [12] D.length (fun g u12 wx => ∃ i : Nat, u12 = .int .i64 (i : Int) ∧ i + g = D.length ∧ LC w0 wx C N (dropsS (l.take i) σ) (Kk w0.heap.size (.slice ka D.length kc) D :: O))
  case atStart => exact ⟨0, rfl, by omega, H.out⟩
  case round =>
    obtain ⟨i, rfl, hi, hh⟩ := hrel
    have HH := Lib.hid hh
    cases gk with
    | zero =>
      have hil : i = l.length := by have := HDL.out; omega
      have l1 : ¬ ((i : Int) < (D.length : Int)) := by omega
      have hd : dropsS (l.take i) σ = dropsS l σ := by rw [hil, List.take_length]
      rw [hd] at HH
      clear hi hil hh hd
      go_wp2
      go_ret
      exact ⟨_, _, rfl, HH.out⟩
    | succ g =>
      have hlt : i < l.length := by have := HDL.out; omega
      have hx0 := (hh.keysK (List.mem_cons_self ..)).kr
      obtain ⟨b, off, cap, he, hc, hx⟩ := hx0.inv (by omega)
      injection he with e1 _ e3
      subst e1 e3
      obtain ⟨t, hy⟩ : ∃ y, l[i] = y := ⟨_, rfl⟩
      have hyi : l[i]? = some t := by rw [List.getElem?_eq_getElem hlt, hy]
      have htm := List.mem_of_getElem? hyi
      have hDi : D[i]? = some (parK t) := by rw [← HD.out, List.getElem?_map, hyi]; rfl
      obtain ⟨x0, x1, x2, x3⟩ := hx i (parK t) hDi
      have hok := HT.out.ok t htm
      have hfit := fit_par hok.1 hok.2
      obtain ⟨e9, he9⟩ := drops_V HT.out.nd hyi hok.1 (HT.out.vs t htm)
      have hdc : ∀ {W : World}, Below wr.heap.size wr W → Calls Tryz.prog 14 #[ptr C.g, kyV (parK t)] W (RetC w0 C N (dropsS (l.take (i + 1)) σ) (Kk w0.heap.size (.slice (some ⟨b, off, none⟩) D.length kc) D :: O) (.bool true)) := fun {W} hb => by
        have := lc_drop_yes (hh.below hb) (parK t) hfit HN.out e9 he9
        rw [(par_ok hok.1).2, ← dropsS_snoc] at this
        rw [List.take_add_one, hyi]
        exact this
      have HDC := Lib.hid (fun W (hb : Below wr.heap.size wr W) => hdc hb)
      have l0 : (0 : Int) ≤ (i : Int) := by omega
      have l1 : (i : Int) < (D.length : Int) := by omega
      obtain ⟨i1, hi1⟩ : ∃ i1, i + 1 = i1 := ⟨_, rfl⟩
      have wk : IntKind.i64.wrap ((i : Int) + 1) = (i1 : Int) := by rw [show (i : Int) + 1 = (i1 : Int) by omega]; exact IntWalk.i64_in _ (by have := HL.out; omega)
      have HI1 : Hid (i1 + g = D.length) := Lib.hid (by omega)
      rw [hi1] at HDC
      obtain ⟨K, hK⟩ : ∃ K, parK t = K := ⟨_, rfl⟩
      rw [hK] at x0 x1 x2 x3 HDC
      obtain ⟨db, ro, fm, no⟩ := K
      simp only at x0 x1 x2 x3
      clear hi hx hc hy hyi hi1 hh hlt hx0 htm hDi hok hfit he9 hdc hK
      obtain ⟨W3, hW3⟩ : ∃ W, wr.alloc (.cells #[.string db, .string ro, .int .i64 fm, .string no] 32) = W := ⟨_, rfl⟩
      obtain ⟨eb, heb⟩ : ∃ b, wr.heap.size = b := ⟨_, rfl⟩
      have hb3 : Below wr.heap.size wr W3 := by rw [← hW3]; exact (Below.refl _ _).alloc (Nat.le_refl _) _
      have ke : Bk W3 eb 32 (kC (db, ro, fm, no)) := by rw [← hW3, ← heb]; exact Bk.new _ _ _
      have e0 : W3.cell? ⟨eb, 0, none⟩ = some (.string db) := ke.cell 0
      have e1 : W3.cell? ⟨eb, 1, none⟩ = some (.string ro) := ke.cell 1
      have e2 : W3.cell? ⟨eb, 2, none⟩ = some (.int .i64 fm) := ke.cell 2
      have e3 : W3.cell? ⟨eb, 3, none⟩ = some (.string no) := ke.cell 3
      have HDC := Lib.hid (HDC.out W3 hb3)
      clear hb3 ke
      go_wp2_with fail
      refine HDC.out.mono ?_
      rintro e w4 ⟨rfl, h4⟩
      have H4 := Lib.hid h4
      clear h4 HDC
      go_wp2
      go_roundg g
      case measure => exact Nat.lt_succ_self _
      case rel => exact ⟨i1, rfl, HI1.out, H4.out⟩
end
end Go.Proofs.YtjngangojgjceaaGreat.CA
namespace Go.Proofs.YtjngangojgjceaaGreat.CA
open Go.ChangeShapes Go.WideShapes Go.ChangeAt Go.RowKit Go.Maps Go.ChangeMaps
open Go.Proofs.YtjngangojgjceaaGreat.SL Go.Proofs.YtjngangojgjceaaGreat.EX Go.Proofs.YtjngangojgjceaaGreat.RW
set_option maxRecDepth 100000
set_option linter.unusedVariables false
set_option linter.unusedSimpArgs false

set_option maxHeartbeats 2000000 in
theorem put_nil (k : Ky) (v : ByteArray) (now : Int) (w : World) :
    Calls Tryz.prog 8 #[.pointer none, kyV k, .string v, .int .i64 now] w fun e w' => e = .returned (.tuple #[.slice none 0 0, .int .i64 12]) ∧ Below w.heap.size w w' := by
  obtain ⟨W0, hW0⟩ : ∃ W, w.alloc (.cells (kC k) 32) = W := ⟨_, rfl⟩
  have hb0 : Below w.heap.size w W0 := by rw [← hW0]; exact (Below.refl _ _).alloc (Nat.le_refl _) _
  have HB := Lib.hid hb0
  clear hb0
  obtain ⟨db, ro, fm, no⟩ := k
  go_enter Tryz.func8, Tryz.ntmps8
  go_wp2_with fail
  refine (CA.given_nil _).mono ?_
  rintro e w' ⟨rfl, rfl⟩
  go_wp2
  go_ret2
  exact ⟨rfl, HB.out⟩
set_option maxHeartbeats 2000000 in
theorem put_zero (k : Ky) (v : ByteArray) (now : Int) (w : World) (g : Nat) (h : w.cell? ⟨g, 0, none⟩ = some (.pointer none)) :
    Calls Tryz.prog 8 #[ptr g, kyV k, .string v, .int .i64 now] w fun e w' => e = .returned (.tuple #[.slice none 0 0, .int .i64 12]) ∧ Below w.heap.size w w' := by
  obtain ⟨W0, hW0⟩ : ∃ W, w.alloc (.cells (kC k) 32) = W := ⟨_, rfl⟩
  have hb0 : Below w.heap.size w W0 := by rw [← hW0]; exact (Below.refl _ _).alloc (Nat.le_refl _) _
  have HB := Lib.hid hb0
  have hg : W0.cell? ⟨g, 0, none⟩ = some (.pointer none) := (hb0.cell (p := ⟨g, 0, none⟩) (World.block_lt_of_cell? w _ h)).trans h
  clear h
  clear hb0
  obtain ⟨db, ro, fm, no⟩ := k
  go_enter Tryz.func8, Tryz.ntmps8
  go_wp2_with fail
  refine (CA.given_zero _ g hg).mono ?_
  rintro e w' ⟨rfl, rfl⟩
  go_wp2
  go_ret2
  exact ⟨rfl, HB.out⟩
set_option maxHeartbeats 2000000 in
theorem tick_nil (now : Int) (w : World) :
    Calls Tryz.prog 16 #[.pointer none, .int .i64 now] w fun e w' => e = .returned (.slice none 0 0) ∧ Below w.heap.size w w' := by
  go_enter Tryz.func16, Tryz.ntmps16
  go_wp2_with fail
  refine (CA.given_nil _).mono ?_
  rintro e w' ⟨rfl, rfl⟩
  go_wp2
  go_ret
  exact ⟨rfl, Below.refl _ _⟩
set_option maxHeartbeats 2000000 in
theorem tick_zero (now : Int) (w : World) (g : Nat) (h : w.cell? ⟨g, 0, none⟩ = some (.pointer none)) :
    Calls Tryz.prog 16 #[ptr g, .int .i64 now] w fun e w' => e = .returned (.slice none 0 0) ∧ Below w.heap.size w w' := by
  go_enter Tryz.func16, Tryz.ntmps16
  go_wp2_with fail
  refine (CA.given_zero _ g h).mono ?_
  rintro e w' ⟨rfl, rfl⟩
  go_wp2
  go_ret
  exact ⟨rfl, Below.refl _ _⟩
set_option maxHeartbeats 2000000 in
theorem flush_nil (w : World) :
    Calls Tryz.prog 18 #[.pointer none] w fun e w' => e = .returned (.int .i64 0) ∧ Below w.heap.size w w' := by
  go_enter Tryz.func18, Tryz.ntmps18
  go_wp2_with fail
  refine (CA.given_nil _).mono ?_
  rintro e w' ⟨rfl, rfl⟩
  go_wp2
  go_ret
  exact ⟨rfl, Below.refl _ _⟩
set_option maxHeartbeats 2000000 in
theorem flush_zero (w : World) (g : Nat) (h : w.cell? ⟨g, 0, none⟩ = some (.pointer none)) :
    Calls Tryz.prog 18 #[ptr g] w fun e w' => e = .returned (.int .i64 0) ∧ Below w.heap.size w w' := by
  go_enter Tryz.func18, Tryz.ntmps18
  go_wp2_with fail
  refine (CA.given_zero _ g h).mono ?_
  rintro e w' ⟨rfl, rfl⟩
  go_wp2
  go_ret
  exact ⟨rfl, Below.refl _ _⟩
set_option maxHeartbeats 2000000 in
theorem keys_nil (w : World) :
    Calls Tryz.prog 21 #[.pointer none] w fun e w' => e = .returned (.slice none 0 0) ∧ Below w.heap.size w w' := by
  go_enter Tryz.func21, Tryz.ntmps21
  go_wp2_with fail
  refine (CA.given_nil _).mono ?_
  rintro e w' ⟨rfl, rfl⟩
  go_wp2
  go_ret
  exact ⟨rfl, Below.refl _ _⟩
set_option maxHeartbeats 2000000 in
theorem keys_zero (w : World) (g : Nat) (h : w.cell? ⟨g, 0, none⟩ = some (.pointer none)) :
    Calls Tryz.prog 21 #[ptr g] w fun e w' => e = .returned (.slice none 0 0) ∧ Below w.heap.size w w' := by
  go_enter Tryz.func21, Tryz.ntmps21
  go_wp2_with fail
  refine (CA.given_zero _ g h).mono ?_
  rintro e w' ⟨rfl, rfl⟩
  go_wp2
  go_ret
  exact ⟨rfl, Below.refl _ _⟩
set_option maxHeartbeats 2000000 in
theorem bytes_nil (w : World) :
    Calls Tryz.prog 23 #[.pointer none] w fun e w' => e = .returned (.int .i64 0) ∧ Below w.heap.size w w' := by
  go_enter Tryz.func23, Tryz.ntmps23
  go_wp2_with fail
  refine (CA.given_nil _).mono ?_
  rintro e w' ⟨rfl, rfl⟩
  go_wp2
  go_ret
  exact ⟨rfl, Below.refl _ _⟩
set_option maxHeartbeats 2000000 in
theorem bytes_zero (w : World) (g : Nat) (h : w.cell? ⟨g, 0, none⟩ = some (.pointer none)) :
    Calls Tryz.prog 23 #[ptr g] w fun e w' => e = .returned (.int .i64 0) ∧ Below w.heap.size w w' := by
  go_enter Tryz.func23, Tryz.ntmps23
  go_wp2_with fail
  refine (CA.given_zero _ g h).mono ?_
  rintro e w' ⟨rfl, rfl⟩
  go_wp2
  go_ret
  exact ⟨rfl, Below.refl _ _⟩
set_option maxHeartbeats 2000000 in
theorem copy_nil (w : World) :
    Calls Tryz.prog 20 #[.pointer none] w fun e w' => e = .returned (.pointer none) ∧ Below w.heap.size w w' := by
  go_enter Tryz.func20, Tryz.ntmps20
  go_wp2_with fail
  refine (CA.given_nil _).mono ?_
  rintro e w' ⟨rfl, rfl⟩
  go_wp2
  go_ret
  exact ⟨rfl, Below.refl _ _⟩
set_option maxHeartbeats 2000000 in
theorem copy_zero (w : World) (g : Nat) (h : w.cell? ⟨g, 0, none⟩ = some (.pointer none)) :
    Calls Tryz.prog 20 #[ptr g] w fun e w' => e = .returned (.pointer none) ∧ Below w.heap.size w w' := by
  go_enter Tryz.func20, Tryz.ntmps20
  go_wp2_with fail
  refine (CA.given_zero _ g h).mono ?_
  rintro e w' ⟨rfl, rfl⟩
  go_wp2
  go_ret
  exact ⟨rfl, Below.refl _ _⟩
def NoV (w : World) (e : Ending) (w' : World) : Prop := e = .returned (.tuple #[.string ⟨#[]⟩, .bool false]) ∧ Below w.heap.size w w'
set_option maxHeartbeats 2000000 in
theorem get_no {w : World} {r : Value} (k : Ky) (now : Int) (hf : ∀ W, Below w.heap.size w W → Calls Tryz.prog 45 #[r, kyV k] W (FinC none W)) :
    Calls Tryz.prog 12 #[r, kyV k, .int .i64 now] w (NoV w) := by
  obtain ⟨kb, hkb⟩ : ∃ b, w.heap.size = b := ⟨_, rfl⟩
  obtain ⟨W0, hW0⟩ : ∃ W, w.alloc (.cells (kC k) 32) = W := ⟨_, rfl⟩
  have hb0 : Below w.heap.size w W0 := by rw [← hW0]; exact (Below.refl _ _).alloc (Nat.le_refl _) _
  have kk : Bk W0 kb 32 (kC k) := by rw [← hW0, ← hkb]; exact Bk.new _ _ _
  have HF := Lib.hid (hf W0 hb0)
  have HB := Lib.hid hb0
  obtain ⟨db, ro, fm, no⟩ := k
  have a0 : W0.cell? ⟨kb, 0, none⟩ = some (.string db) := kk.cell 0
  have a1 : W0.cell? ⟨kb, 1, none⟩ = some (.string ro) := kk.cell 1
  have a2 : W0.cell? ⟨kb, 2, none⟩ = some (.int .i64 fm) := kk.cell 2
  have a3 : W0.cell? ⟨kb, 3, none⟩ = some (.string no) := kk.cell 3
  unfold NoV
  clear hf hb0 kk
  go_enter Tryz.func12, Tryz.ntmps12
  go_wp2_with fail
  refine HF.out.mono ?_
  rintro e w2 ⟨rfl, hb2⟩
  have HB := Lib.hid (HB.out.trans (hb2.mono HB.out.size))
  clear hb2 HF hW0 hkb a0 a1 a2 a3
  go_wp2
  go_ret2
  exact ⟨rfl, HB.out.alloc HB.out.size _⟩
theorem get_nil (k : Ky) (now : Int) (w : World) : Calls Tryz.prog 12 #[.pointer none, kyV k, .int .i64 now] w (NoV w) := get_no k now fun W _ => CA.find_nil k W
theorem get_zero (k : Ky) (now : Int) (w : World) (g : Nat) (h : w.cell? ⟨g, 0, none⟩ = some (.pointer none)) : Calls Tryz.prog 12 #[ptr g, kyV k, .int .i64 now] w (NoV w) :=
  get_no k now fun W hb => CA.find_zero k W g ((hb.cell (p := ⟨g, 0, none⟩) (World.block_lt_of_cell? w _ h)).trans h)
section
variable {w0 w w' : World} {C : Cb} {N : Nat} {σ : Sg} {O : List Kp}
def kLI (l : List It) : Prop := ∀ y ∈ l, y.1.size ≤ 281474976710656
set_option maxHeartbeats 4000000 in
theorem lc_tick (h : LC w0 w C N σ O) (hN : N ≤ 480) (now : Int) (hk : kLI σ.I) (l : List ByteArray) (hl : keysI (leI now σ.I) = l) (ht : There l ⟨σ.T, σ.K, gtI now σ.I, σ.V⟩) (σ' : Sg) (hσ : dropsS l ⟨σ.T, σ.K, gtI now σ.I, σ.V⟩ = σ') :
    Calls Tryz.prog 16 #[ptr C.g, .int .i64 now] w (ForP w0 C N σ' O (l.map parK)) := by
  subst hσ
  have hf := h.facts
  have hll : l.length ≤ 1099511627776 := by
    have : (leI now σ.I).length ≤ σ.I.length := List.length_filter_le _ _
    have := hf.2.2.2.2.2.1
    rw [← hl]; unfold keysI; rw [List.length_map]; omega
  obtain ⟨c0, c1, c2, c3, c4⟩ := h.cells
  have HD := Lib.hid (lc_qdue h now hk (by omega) _ rfl l hl)
  have HT := Lib.hid ht
  have HLL := Lib.hid hll
  have HN := Lib.hid hN
  clear h hf hN hk hl ht hll c1 c2 c3
  go_enter Tryz.func16, Tryz.ntmps16
  go_wp2_with fail
  refine (CA.given_yes _ _ c0).mono ?_
  rintro e w' ⟨rfl, rfl⟩
  go_wp2_with fail
  refine HD.out.mono ?_
  rintro e w2 ⟨v2, c2, rfl, h2⟩
  have H2 := Lib.hid h2
  have HV := Lib.hid (h2.told (List.mem_cons_self ..)).ts
  clear h2 HD c0 c4
  go_wp2_with fail
  refine (forget_any (H2.out.forget fun p hp => List.mem_cons_of_mem _ hp) HN.out _ l HV.out HT.out HLL.out).mono ?_
  rintro e w3 ⟨a, c, rfl, h3⟩
  have H3 := Lib.hid h3
  clear h3
  go_wp2
  go_ret
  exact ⟨a, c, by rw [List.length_map]; rfl, H3.out⟩
set_option maxHeartbeats 4000000 in
theorem lc_flush (h : LC w0 w C N σ O) (hN : N ≤ 480) (D : List ByteArray) (hD : keysE σ.K ++ keysE σ.T = D) (ht : There D σ) :
    Calls Tryz.prog 18 #[ptr C.g] w (RetC w0 C N (dropsS D σ) O (.int .i64 (D.length : Int))) := by
  have hf := h.facts
  have hll : D.length ≤ 1099511627776 := by
    have := hf.2.2.2.2.2.2.1
    rw [← hD]; unfold keysE; rw [List.length_append, List.length_map, List.length_map]; omega
  obtain ⟨c0, c1, c2, c3, c4⟩ := h.cells
  have H := Lib.hid h
  have HD := Lib.hid (texts_any h D hD)
  have HT := Lib.hid ht
  have HLL := Lib.hid hll
  have HN := Lib.hid hN
  clear h hf hN hD ht hll c1 c2 c3 c4
  unfold RetC
  go_enter Tryz.func18, Tryz.ntmps18
  go_wp2_with fail
  refine (CA.given_yes _ _ c0).mono ?_
  rintro e w' ⟨rfl, rfl⟩
  go_wp2_with fail
  refine HD.out.mono ?_
  rintro e w2 ⟨v2, c2, rfl, o2, b2⟩
  have H2 := Lib.hid (H.out.below b2)
  have HV := Lib.hid o2.ts
  clear o2 b2 HD c0
  go_wp2_with fail
  refine (forget_any H2.out HN.out _ D HV.out HT.out HLL.out).mono ?_
  rintro e w3 ⟨a, c, rfl, h3⟩
  have H3 := Lib.hid h3
  have hlm : (D.map parK).length = D.length := List.length_map _
  rw [hlm]
  clear h3
  go_wp2
  go_ret
  exact ⟨rfl, H3.out.forget fun p hp => List.mem_cons_of_mem _ hp⟩
set_option maxHeartbeats 4000000 in
theorem lc_keys (h : LC w0 w C N σ O) (D : List ByteArray) (hD : keysE σ.K ++ keysE σ.T = D) (hs : ∀ t ∈ D, t.size ≤ 4000) :
    Calls Tryz.prog 21 #[ptr C.g] w (KeysC (D.map parK) w) := by
  have hf := h.facts
  have hll : D.length ≤ 1099511627776 := by
    have := hf.2.2.2.2.2.2.1
    rw [← hD]; unfold keysE; rw [List.length_append, List.length_map, List.length_map]; omega
  obtain ⟨c0, c1, c2, c3, c4⟩ := h.cells
  have HD := Lib.hid (texts_any h D hD)
  have HLL := Lib.hid hll
  have HS : Hid (∀ t ∈ D, t.size ≤ 1099511627776) := Lib.hid fun t ht => by have := hs t ht; omega
  clear h hf hD hll hs c1 c2 c3 c4
  unfold KeysC
  go_enter Tryz.func21, Tryz.ntmps21
  go_wp2_with fail
  refine (CA.given_yes _ _ c0).mono ?_
  rintro e w' ⟨rfl, rfl⟩
  go_wp2_with fail
  refine HD.out.mono ?_
  rintro e w2 ⟨v2, c2, rfl, o2, b2⟩
  have HV := Lib.hid o2.ts
  have HB := Lib.hid b2
  clear o2 b2 HD c0
  go_wp2_with fail
  refine (parsed_any _ D w2 HV.out HLL.out HS.out).mono ?_
  rintro e w3 ⟨a, c, rfl, o3, b3⟩
  have HO3 := Lib.hid (o3.mono HB.out.size)
  have HB3 := Lib.hid (HB.out.trans (b3.mono HB.out.size))
  clear o3 b3
  go_wp2
  go_ret
  exact ⟨a, c, by rw [List.length_map]; rfl, HO3.out, HB3.out⟩
set_option maxHeartbeats 4000000 in
theorem lc_bytes (h : LC w0 w C N σ O) (z : Int) (hz : sumE σ.T + sumE σ.K = z) :
    Calls Tryz.prog 23 #[ptr C.g] w (fun e w' => e = .returned (.int .i64 z) ∧ Below w.heap.size w w') := by
  have hf := h.facts
  obtain ⟨c0, c1, c2, c3, c4⟩ := h.cells
  obtain ⟨a, ha⟩ : ∃ a, sumE σ.T = a := ⟨_, rfl⟩
  obtain ⟨b, hb⟩ : ∃ a, sumE σ.K = a := ⟨_, rfl⟩
  have h0 : 0 ≤ a ∧ 0 ≤ b := by
    rw [← ha, ← hb]
    exact ⟨sum_nonneg hf.2.1, sum_nonneg hf.2.2.1⟩
  have hle : a + b ≤ 1073741824 := by rw [← ha, ← hb]; exact hf.2.2.2.2.2.2.2
  have wz : IntKind.i64.wrap (b + a) = z := by rw [← hz, ha, hb, show b + a = a + b by omega]; exact IntWalk.i64_in _ (by omega)
  have H := Lib.hid h
  have HA := Lib.hid ha
  have HB := Lib.hid hb
  clear h hf ha hb hz h0 hle c1 c2 c4
  go_enter Tryz.func23, Tryz.ntmps23
  go_wp2_with fail
  refine (CA.given_yes _ _ c0).mono ?_
  rintro e w' ⟨rfl, rfl⟩
  go_wp2_with fail
  refine wp_region_held_drew (S := (fun w' => LC w0 w' C N σ O)) (by kernel_rfl) ?_ (fun hS => ?_)
  · exact H.out.below (Below.refl _ _).drew
  refine tkY 0 ?_ rfl hS ?_ ?_
  rotate_left
  · intro wz hz
    obtain ⟨z0, z1, z2, z3, z4⟩ := hz.cells
    go_simp
    all_goals first | with_reducible rfl | omega
  try simp only [Act.put, pu]
  refine tkY 1 ?_ rfl hS ?_ ?_
  rotate_left
  · intro wz hz
    obtain ⟨z0, z1, z2, z3, z4⟩ := hz.cells
    go_simp
    all_goals first | with_reducible rfl | omega
  try simp only [Act.put, pu]
  refine tkY 2 ?_ rfl hS ?_ ?_
  rotate_left
  · intro wz hz
    obtain ⟨z0, z1, z2, z3, z4⟩ := hz.cells
    go_simp
    all_goals first | with_reducible rfl | omega
  try simp only [Act.put, pu]
  refine tkY 3 ?_ rfl hS ?_ ?_
  rotate_left
  · intro wz hz
    obtain ⟨z0, z1, z2, z3, z4⟩ := hz.cells
    go_simp
    all_goals first | with_reducible rfl | omega
  try simp only [Act.put, pu]
  refine tkY 5 ?_ rfl hS ?_ ?_
  rotate_left
  · intro wz hz
    obtain ⟨z0, z1, z2, z3, z4⟩ := hz.cells
    go_simp
    all_goals first | with_reducible rfl | omega
  try simp only [Act.put, pu]
  refine tkY 6 ?_ rfl hS ?_ ?_
  rotate_left
  · intro wz hz
    obtain ⟨z0, z1, z2, z3, z4⟩ := hz.cells
    go_simp
    all_goals first | with_reducible rfl | omega
  try simp only [Act.put, pu]
  refine tkY 7 ?_ rfl hS ?_ ?_
  rotate_left
  · intro wz hz
    obtain ⟨z0, z1, z2, z3, z4⟩ := hz.cells
    go_simp
    all_goals first | with_reducible rfl | omega
  try simp only [Act.put, pu]
  refine tkY 8 ?_ rfl hS ?_ ?_
  rotate_left
  · intro wz hz
    obtain ⟨z0, z1, z2, z3, z4⟩ := hz.cells
    go_simp
    all_goals first | with_reducible rfl | omega
  try simp only [Act.put, pu]
  refine wpAnyH_ready (rs := [4]) (by kernel_rfl) (by simp) (AllReadyH.cons rfl (fun K' hK' => ?_) AllReadyH.nil)
  go_simp
  have hbd : Below w.heap.size w w.drew := (Below.refl _ _).drew
  refine (lc_sbytesK (H.out.below hbd) b HB.out).mono ?_
  rintro e w4 ⟨rfl, m4, hm4⟩
  have HB4 : Hid (Below w.heap.size w w4) := Lib.hid (by rw [hm4]; exact hbd.trans ((SL.below_drewN _ _ _).mono hbd.size))
  clear hm4 hbd
  refine hK'.out _ _ ?_ (fun hSn => ?_)
  · exact H.out.below HB4.out
  clear hK' K' hS
  have hS := hSn
  clear hSn
  try simp only [Act.put, pu]
  refine wpAnyH_ready (rs := [9]) (by kernel_rfl) (by simp) (AllReadyH.cons rfl (fun K' hK' => ?_) AllReadyH.nil)
  go_simp
  refine (lc_sbytesT (H.out.below HB4.out) a HA.out).mono ?_
  rintro e w5 ⟨rfl, m5, hm5⟩
  have HB5 : Hid (Below w.heap.size w w5) := Lib.hid (by rw [hm5]; exact HB4.out.trans ((SL.below_drewN _ _ _).mono HB4.out.size))
  clear hm5
  refine hK'.out _ _ ?_ (fun hSn => ?_)
  · exact H.out.below HB5.out
  clear hK' K' hS
  have hS := hSn
  clear hSn
  try simp only [Act.put, pu]
  refine tkY 10 ?_ rfl hS ?_ ?_
  rotate_left
  · intro wz hz
    go_simp
    all_goals first | with_reducible rfl | omega
  try simp only [Act.put, pu]
  refine tkY 11 ?_ rfl hS ?_ ?_
  rotate_left
  · intro wz hz
    go_simp
    all_goals first | with_reducible rfl | omega
  try simp only [Act.put, pu]
  refine wpAnyH_done (by kernel_rfl) ?_ _
  clear hS
  go_wp2
  go_ret
  exact ⟨rfl, HB5.out⟩
end
def MadC (ttl : Int) (m s q : Nat) (w : World) (e : Ending) (w' : World) : Prop :=
  ∃ g, e = .returned (ptr g) ∧ Bk w' g 61 #[ptr g, .int .i64 ttl, .map (some m), ptr s, ptr q] ∧ w.heap.size ≤ g ∧ Below w.heap.size w w'
set_option maxHeartbeats 2000000 in
theorem made_any (ttl : Int) (m s q : Nat) (w : World) :
    Calls Tryz.prog 27 #[.int .i64 ttl, .map (some m), ptr s, ptr q] w (MadC ttl m s q w) := by
  go_enter Tryz.func27, Tryz.ntmps27
  go_wp2
  go_ret
  refine ⟨w.heap.size, rfl, ?_, Nat.le_refl _, ?_⟩
  · first | exact (Bk.new w _ _).set_ 0 _ | exact Bk.new w _ _
  · first | exact ((Below.refl _ _).alloc (Nat.le_refl _) _).setCell (p := ⟨w.heap.size, 0, none⟩) (Nat.le_refl _) _ | exact (Below.refl _ _).alloc (Nat.le_refl _) _
def okC (al ke mo ttl : Int) : Prop := okB al ke mo ∧ 1 ≤ ttl ∧ ttl ≤ 549755813888
def emS : Sg := ⟨[], [], [], fun _ => none⟩
def NewC (w0 : World) (al ke mo ttl : Int) (w : World) (e : Ending) (w' : World) : Prop :=
  ∃ C : Cb, e = .returned (.tuple #[ptr C.g, .int .i64 0]) ∧ C.al = al ∧ C.ke = ke ∧ C.mo = mo ∧ C.ttl = ttl ∧ LC w0 w' C 0 emS [] ∧ Below w.heap.size w w' ∧ w.heap.size ≤ C.g
set_option maxHeartbeats 4000000 in
theorem new_yes (w0 w : World) (h0 : Below w0.heap.size w0 w) (al ke mo ttl : Int) (hb : okC al ke mo ttl) : Calls Tryz.prog 5 #[.int .i64 al, .int .i64 ke, .int .i64 mo, .int .i64 ttl] w (NewC w0 al ke mo ttl w) := by
  have hmm := @run_makeMap Tryz.prog
  obtain ⟨hb1, hb2, hb3⟩ := hb
  have l1 : ¬ (ttl < 1) := by omega
  have l2 : ¬ ((549755813888 : Int) < ttl) := by omega
  have HC := Lib.hid (SL.new_yes al ke mo w hb1)
  have H0 := Lib.hid h0
  clear hb1 hb2 hb3 h0
  go_enter Tryz.func5, Tryz.ntmps5
  go_wp2_with fail
  refine HC.out.mono ?_
  rintro e w1 ⟨s, x, rfl, s1, s2, s3, s4, s5⟩
  have HS1 := Lib.hid s1
  have HS2 : Hid (x.tE = [] ∧ x.kE = [] ∧ (∀ b, x.own s b → w.heap.size ≤ b)) := Lib.hid ⟨s2, s3, s4⟩
  have HB := Lib.hid s5
  clear s1 s2 s3 s4 s5
  go_wp2_with fail
  obtain ⟨W2, hW2⟩ : ∃ W, w1.alloc (.map #[] 0) = W := ⟨_, rfl⟩
  obtain ⟨mb, hmb⟩ : ∃ b, w1.heap.size = b := ⟨_, rfl⟩
  have m2 : MapC W2 mb 0 (fun _ => none) := by rw [← hW2, ← hmb]; exact MapC.made w1
  have b2 : Below w1.heap.size w1 W2 := by rw [← hW2]; exact (Below.refl _ _).alloc (Nat.le_refl _) _
  try rw [hW2]
  try rw [hmb]
  have HM := Lib.hid m2
  have HB2 := Lib.hid (HB.out.trans (b2.mono HB.out.size))
  have HMB : Hid (w.heap.size ≤ mb) := Lib.hid (by rw [← hmb]; exact HB.out.size)
  have HS := Lib.hid (HS1.out.below b2)
  have HSL : Hid (∀ b, x.own s b → b < W2.heap.size) := Lib.hid (fun b hx => Nat.lt_of_lt_of_le (HS1.out.lt hx) b2.size)
  have HML : Hid (mb < W2.heap.size) := Lib.hid m2.lt
  have HXM : Hid (¬ x.own s mb) := Lib.hid (fun hx => by have := HS1.out.lt hx; omega)
  clear m2 b2 hW2 hmb HS1
  refine (EX.new_any W2 w0.heap.size (Nat.le_trans H0.out.size HB2.out.size)).mono ?_
  rintro e w3 ⟨q, y, rfl, q1, q2, q3, q4⟩
  have HQ := Lib.hid q1
  have HQ2 : Hid (y.L = [] ∧ (∀ b, y.own q b → W2.heap.size ≤ b)) := Lib.hid ⟨q2, q3⟩
  have HS := Lib.hid (HS.out.below q4)
  have HM := Lib.hid (HM.out.below q4)
  have HB3 := Lib.hid (HB2.out.trans (q4.mono HB2.out.size))
  have HXY : Hid (∀ b, x.own s b → ¬ y.own q b) := Lib.hid (fun b hx hy => by have := q3 b hy; have := HSL.out b hx; omega)
  have HMY : Hid (¬ y.own q mb) := Lib.hid (fun hy => by have := q3 mb hy; have := HML.out; omega)
  clear q1 q2 q3 q4
  go_wp2_with fail
  refine (CA.made_any ttl mb s q w3).mono ?_
  rintro e w4 ⟨g, rfl, g1, g2, g3⟩
  have HG := Lib.hid g1
  have HG2 := Lib.hid g2
  have HG3 := Lib.hid g3
  clear g1 g2 g3
  go_wp2
  go_ret2
  refine ⟨⟨g, s, q, mb, al, ke, mo, ttl⟩, rfl, rfl, rfl, rfl, rfl, ⟨⟨0, 0, 0, x, y⟩, ?_, ?_, fun p hp => by cases hp⟩, HB3.out.trans (HG3.out.mono HB3.out.size), Nat.le_trans HB3.out.size HG2.out⟩
  · have hs := HS.out.below HG3.out
    have hq := HQ.out.below HG3.out
    have hm := HM.out.below HG3.out
    have hg := HG2.out
    have h0 := H0.out.size
    exact {
      bk := HG.out
      st := hs
      qt := hq
      mp := hm.congr fun k => by
        show none = fV (fun _ => none) k
        unfold fV
        split <;> rfl
      eT := HS2.out.1
      eK := HS2.out.2.1
      eI := by show y.L.map it = []; rw [HQ2.out.1]; rfl
      n1 := Nat.zero_le _
      n2 := Nat.le_refl _
      n3 := Nat.le_refl _
      bg := ⟨Nat.le_trans h0 (Nat.le_trans HB3.out.size hg), Nat.le_trans h0 HMB.out⟩
      bx := fun b hb => Nat.le_trans h0 (HS2.out.2.2 b hb)
      gm := fun e => by have e : g = mb := e; have := HM.out.lt; omega
      gx := fun hx => by have := HS.out.lt hx; have : g < w3.heap.size := this; omega
      gy := fun hy => by have := HQ.out.lt hy; have : g < w3.heap.size := this; omega
      mx := HXM.out
      my := HMY.out
      xy := HXY.out }
  · exact H0.out.trans ((HB3.out.trans (HG3.out.mono HB3.out.size)).mono H0.out.size)
theorem new_no (w : World) (al ke mo ttl : Int) (hb : ¬ okC al ke mo ttl) : Calls Tryz.prog 5 #[.int .i64 al, .int .i64 ke, .int .i64 mo, .int .i64 ttl] w (fun e w' => e = .returned (.tuple #[.pointer none, .int .i64 1]) ∧ Below w.heap.size w w') := by
  by_cases h1 : okB al ke mo
  · have HC := Lib.hid (SL.new_yes al ke mo w h1)
    have h2 : ttl < 1 ∨ 549755813888 < ttl := by
      by_cases a : ttl < 1
      · exact .inl a
      · right
        by_cases b : ttl ≤ 549755813888
        · exact absurd ⟨h1, by omega, b⟩ hb
        · omega
    clear hb h1
    rcases h2 with l1 | l2
    · go_enter Tryz.func5, Tryz.ntmps5
      go_wp2_with fail
      refine HC.out.mono ?_
      rintro e w1 ⟨s, x, rfl, s1, s2, s3, s4, s5⟩
      have HB := Lib.hid s5
      clear s1 s2 s3 s4 s5 HC
      go_wp2
      go_ret2
      exact ⟨rfl, HB.out⟩
    · have l1 : ¬ (ttl < 1) := by omega
      go_enter Tryz.func5, Tryz.ntmps5
      go_wp2_with fail
      refine HC.out.mono ?_
      rintro e w1 ⟨s, x, rfl, s1, s2, s3, s4, s5⟩
      have HB := Lib.hid s5
      clear s1 s2 s3 s4 s5 HC
      go_wp2
      go_ret2
      exact ⟨rfl, HB.out⟩
  · go_enter Tryz.func5, Tryz.ntmps5
    go_wp2_with fail
    refine (SL.new_no al ke mo w h1).mono ?_
    rintro e w' ⟨rfl, rfl⟩
    go_wp2
    go_ret2
    exact ⟨rfl, Below.refl _ _⟩
end Go.Proofs.YtjngangojgjceaaGreat.CA
