/- What package slru's Keys and Copy tell. Condition: none but what a store is. -/
import Derived.Test.YtfilmbeoggmglaaSlw
namespace Go.Proofs.Ytfilmbeoggmglaa.SL
open Go.ChangeShapes Go.WideShapes Go.ChangeAt Go.RowKit Go.Maps Go.ChangeMaps
set_option maxRecDepth 100000
set_option linter.unusedVariables false
set_option linter.unusedSimpArgs false

def keysE (l : List En) : List ByteArray := l.map (·.1)
theorem od_next {F : Nat → Nd} {e c d : Nat} {L1 L2 B : List Nat} (h : Lnk F (e :: (L1 ++ c :: L2 ++ [e]))) (hr : L2 ++ [e] = d :: B) : (F c).od = some d := by
  have e1 : e :: (L1 ++ c :: L2 ++ [e]) = (e :: L1) ++ c :: (d :: B) := by rw [← hr]; simp
  rw [e1, Lnk.split] at h
  exact h.2.1
theorem nw_next {F : Nat → Nd} {e c d : Nat} {L1 L2 A : List Nat} (h : Lnk F (e :: (L1 ++ c :: L2 ++ [e]))) (hr : e :: L1 = A ++ [d]) : (F c).nw = some d := by
  have e1 : e :: (L1 ++ c :: L2 ++ [e]) = A ++ d :: (c :: (L2 ++ [e])) := by
    rw [List.append_assoc, ← List.cons_append, hr]; simp
  rw [e1, Lnk.split] at h
  exact h.2.2.1
def KeysP (d : List ByteArray) (w : World) (e : Ending) (w' : World) : Prop := ∃ v, e = .returned v ∧ OT w.heap.size w' v d ∧ Below w.heap.size w w'
theorem keys_nil (w : World) (b : Bool) :
    Calls Try.prog 21 #[.pointer none, .bool b] w fun e w' => e = .returned (.slice none 0 0) ∧ w = w' := by
  go_enter Try.func21, Try.ntmps21
  go_wp2_with (go_at_call 42; refine (given_nil _).mono ?_; rintro e w' ⟨rfl, rfl⟩)
  go_ret
  exact ⟨rfl, rfl⟩
theorem keys_zero (w : World) (g : Nat) (b : Bool) (h : w.cell? ⟨g, 0, none⟩ = some (.pointer none)) :
    Calls Try.prog 21 #[ptr g, .bool b] w fun e w' => e = .returned (.slice none 0 0) ∧ w = w' := by
  go_enter Try.func21, Try.ntmps21
  go_wp2_with (go_at_call 42; refine (given_zero _ g h).mono ?_; rintro e w' ⟨rfl, rfl⟩)
  go_ret
  exact ⟨rfl, rfl⟩
theorem copy_nil (w : World) :
    Calls Try.prog 18 #[.pointer none] w fun e w' => e = .returned (.pointer none) ∧ w = w' := by
  go_enter Try.func18, Try.ntmps18
  go_wp2_with (go_at_call 42; refine (given_nil _).mono ?_; rintro e w' ⟨rfl, rfl⟩)
  go_ret
  exact ⟨rfl, rfl⟩
theorem copy_zero (w : World) (g : Nat) (h : w.cell? ⟨g, 0, none⟩ = some (.pointer none)) :
    Calls Try.prog 18 #[ptr g] w fun e w' => e = .returned (.pointer none) ∧ w = w' := by
  go_enter Try.func18, Try.ntmps18
  go_wp2_with (go_at_call 42; refine (given_zero _ g h).mono ?_; rintro e w' ⟨rfl, rfl⟩)
  go_ret
  exact ⟨rfl, rfl⟩
set_option maxHeartbeats 2000000 in
theorem keys_T (w : World) (g n : Nat) (al ke mo : Int) (x : Sx) (h : St w g n al ke mo x) :
    Calls Try.prog 21 #[ptr g, .bool false] w (KeysP (keysE x.tE) w) := by
  obtain ⟨c0, _, _, _, c4, _, c6, _, _⟩ := h.cells
  obtain ⟨a, A, _, _, r1, r2, _, _⟩ := ring_ends h.gg.l0
  obtain ⟨_, _, _, _, d4⟩ := h.node (b := x.e0) (.inl rfl)
  rw [r2] at d4
  have HH := Lib.hid h
  have HNW := Lib.hid (fun N => newest_any (w.drewN N) g 4 x.e0 a c4 d4)
  have HR1 := Lib.hid r1
  have HLN := Lib.hid h.len
  have HK : keysE x.tE = x.T.map fun b => (x.F b).k := by show ((en x.F x.T).map (·.1)) = _; unfold en; rw [List.map_map]; rfl
  rw [HK]
  have HLE : Hid (x.T.length ≤ 1073741824) := Lib.hid (by have := h.len; have e1 : x.tE.length = x.T.length := List.length_map ..; omega)
  have nz := en_ne0
  clear h r1 r2 HK c4 c6 d4
  go_enter Try.func21, Try.ntmps21
  go_wp2_with (go_at_call 42; refine (given_yes _ g c0).mono ?_; rintro e w' ⟨rfl, rfl⟩)
  go_quiet ((first
    | (go_at_call 54; exact Calls.quiet_of_same ((where_any false _).mono fun _ _ h => ⟨h.1, h.2.symm⟩))
    | (go_at_call 55; exact Calls.quiet_of_same ((HNW.out _).mono fun _ _ h => ⟨h.1, h.2.symm⟩))))
  go_wp2
  go_loopg [5, 6] x.T.length (fun gk u5 u6 wx => ∃ L1 L2 c, x.T = L1 ++ L2 ∧ L2.length = gk ∧ u6 = ptr c ∧ (∃ B, L2 ++ [x.e0] = c :: B) ∧ OT w.heap.size wx u5 (L1.map fun b => (x.F b).k) ∧ Below w.heap.size w wx)
  case atStart => exact ⟨[], x.T, a, rfl, rfl, rfl, ⟨A, HR1.out⟩, OT.nil _ _, (Below.refl _ _).trans (below_drewN _ _ _)⟩
  case round =>
    obtain ⟨L1, L2, c, hL, hlen, rfl, ⟨B, hB⟩, hot, hbel⟩ := hrel
    have hst := HH.out.below hbel
    have HOT := Lib.hid hot
    have HBE := Lib.hid hbel
    cases gk with
    | zero =>
      have hL2 : L2 = [] := List.eq_nil_of_length_eq_zero hlen
      subst hL2
      have hc : c = x.e0 := by simp at hB; exact hB.1.symm
      subst hc
      obtain ⟨d0, d1, _⟩ := hst.node (b := x.e0) (.inl rfl)
      rw [hst.gg.z0.1] at d0
      rw [hst.gg.z0.2] at d1
      have hfin : KeysP (x.T.map fun b => (x.F b).k) w (.returned u5) wr := ⟨u5, rfl, by rw [hL, List.append_nil]; exact hot, hbel⟩
      have HFIN := Lib.hid hfin
      clear hst hot hbel hL hlen hB hfin
      go_wp2
      go_ret
      exact HFIN.out
    | succ gko =>
      obtain ⟨d, L3, rfl⟩ : ∃ d L3, L2 = d :: L3 := by
        cases L2 with
        | nil => simp at hlen
        | cons d L3 => exact ⟨d, L3, rfl⟩
      have hdc : d = c := by simp at hB; exact hB.1
      subst hdc
      have hx : d ∈ x.T := by rw [hL]; simp
      obtain ⟨c', B', hB'⟩ := snoc_cons x.e0 L3
      have hod : (x.F d).od = some c' := by
        have hl := hst.gg.l0
        rw [hL] at hl
        exact od_next (L1 := L1) (L2 := L3) (by simpa using hl) hB'
      obtain ⟨d0, d1, _, _, d4⟩ := hst.node (b := d) (.inr (.inr (.inl hx)))
      rw [hod] at d4
      have hpos := hst.gg.pos d (.inl hx)
      obtain ⟨kc, hkc⟩ : ∃ k, (x.F d).k = k := ⟨_, rfl⟩
      obtain ⟨zc, hzc⟩ : ∃ z, (x.F d).z = z := ⟨_, rfl⟩
      rw [hkc] at d0
      rw [hzc] at d1 hpos
      have qe := fun W => en_ne kc zc hpos W
      have hlt := hst.lt (.inr (.inr (.inr (.inr (.inl hx)))) : x.own g d)
      have HL := Lib.hid hL
      have HLEN := Lib.hid (show L1.length ≤ 1073741824 by have h1 := HLE.out; have h2 := congrArg List.length hL; rw [List.length_append] at h2; omega)
      have HB2 := Lib.hid hB'
      have HKC := Lib.hid hkc
      have HL3 := Lib.hid (show L3.length = gko by simpa using hlen)
      have HWS := Lib.hid (show w.heap.size ≤ wr.heap.size from hbel.size)
      have HGR := Lib.hid (fun (w9 : World) (gr9 : (wr.alloc (.cells #[.string kc] 9)).grownBy w9 u5.ownBlock) (b : Nat) (hb : b < wr.heap.size) (hn : ∀ k, u5.ownBlock = some k → b ≠ k) => (show w9.heap[b]? = wr.heap[b]? from (gr9.block b (by simp; omega) (fun e => hn b e.symm rfl)).trans (Below.heap_alloc _ _ _ hb)))
      have HD9 := Lib.hid (fun (w9 : World) (gr9 : (wr.alloc (.cells #[.string kc] 9)).grownBy w9 u5.ownBlock) => (show w9.cell? ⟨d, 4, none⟩ = some (ptr c') from ((World.cell?_of_block (w := wr) (a := ⟨d, 4, none⟩) (HGR.out w9 gr9 d hlt (fun k hk e => by
        have h1 := (World.ownsRow.lt HOT.out k hk).1
        have h2 := HH.out.lt (.inr (.inr (.inr (.inr (.inl hx)))) : x.own g d)
        omega)))).trans d4))
      clear hst hot hbel hL hlen hB hB' hod hpos hkc hzc hx hlt d4
      go_wp2_with (at_builtin; refine wpList_app_text w.heap.size u5 (L1.map fun b => (x.F b).k) kc wr.heap.size rfl _ _ rfl rfl (HOT.out.below ((Below.refl _ _).alloc (Nat.le_refl _) _)) rfl (Bk.new wr _ _) (by have := HLEN.out; rw [List.length_map]; omega) (by have := HWS.out; simp; omega) ?_; intro g9 cap9 w9 o9 gr9; have d49 := HD9.out w9 gr9)
      have hbl9 : Below w.heap.size w w9 := (HBE.out.alloc HWS.out _).grown gr9 (by have := HWS.out; simp; omega) (fun k hk => (World.ownsRow.lt HOT.out k hk).1)
      have HO9 := Lib.hid o9
      have HB9 := Lib.hid hbl9
      clear o9 gr9 hbl9
      go_wp2
      go_roundg gko
      case measure => exact Nat.lt_succ_self _
      case rel =>
        refine ⟨L1 ++ [d], L3, c', by rw [HL.out]; simp, HL3.out, rfl, ⟨B', HB2.out⟩, ?_, HB9.out⟩
        rw [List.map_append, List.map_cons, List.map_nil, HKC.out]
        have := HO9.out
        simpa using this
set_option maxHeartbeats 2000000 in
theorem keys_K (w : World) (g n : Nat) (al ke mo : Int) (x : Sx) (h : St w g n al ke mo x) :
    Calls Try.prog 21 #[ptr g, .bool true] w (KeysP (keysE x.kE) w) := by
  obtain ⟨c0, _, _, _, c4, _, c6, _, _⟩ := h.cells
  obtain ⟨a, A, _, _, r1, r2, _, _⟩ := ring_ends h.gg.swap.l0
  obtain ⟨_, _, _, _, d4⟩ := h.node (b := x.e1) (.inr (.inl rfl))
  rw [r2] at d4
  have HH := Lib.hid h
  have HNW := Lib.hid (fun N => newest_any (w.drewN N) g 6 x.e1 a c6 d4)
  have HR1 := Lib.hid r1
  have HLN := Lib.hid h.len
  have HK : keysE x.kE = x.K.map fun b => (x.F b).k := by show ((en x.F x.K).map (·.1)) = _; unfold en; rw [List.map_map]; rfl
  rw [HK]
  have HLE : Hid (x.K.length ≤ 1073741824) := Lib.hid (by have := h.len; have e1 : x.kE.length = x.K.length := List.length_map ..; omega)
  have nz := en_ne0
  clear h r1 r2 HK c4 c6 d4
  go_enter Try.func21, Try.ntmps21
  go_wp2_with (go_at_call 42; refine (given_yes _ g c0).mono ?_; rintro e w' ⟨rfl, rfl⟩)
  go_quiet ((first
    | (go_at_call 54; exact Calls.quiet_of_same ((where_any true _).mono fun _ _ h => ⟨h.1, h.2.symm⟩))
    | (go_at_call 55; exact Calls.quiet_of_same ((HNW.out _).mono fun _ _ h => ⟨h.1, h.2.symm⟩))))
  go_wp2
  go_loopg [5, 6] x.K.length (fun gk u5 u6 wx => ∃ L1 L2 c, x.K = L1 ++ L2 ∧ L2.length = gk ∧ u6 = ptr c ∧ (∃ B, L2 ++ [x.e1] = c :: B) ∧ OT w.heap.size wx u5 (L1.map fun b => (x.F b).k) ∧ Below w.heap.size w wx)
  case atStart => exact ⟨[], x.K, a, rfl, rfl, rfl, ⟨A, HR1.out⟩, OT.nil _ _, (Below.refl _ _).trans (below_drewN _ _ _)⟩
  case round =>
    obtain ⟨L1, L2, c, hL, hlen, rfl, ⟨B, hB⟩, hot, hbel⟩ := hrel
    have hst := HH.out.below hbel
    have HOT := Lib.hid hot
    have HBE := Lib.hid hbel
    cases gk with
    | zero =>
      have hL2 : L2 = [] := List.eq_nil_of_length_eq_zero hlen
      subst hL2
      have hc : c = x.e1 := by simp at hB; exact hB.1.symm
      subst hc
      obtain ⟨d0, d1, _⟩ := hst.node (b := x.e1) (.inr (.inl rfl))
      rw [hst.gg.z1.1] at d0
      rw [hst.gg.z1.2] at d1
      have hfin : KeysP (x.K.map fun b => (x.F b).k) w (.returned u5) wr := ⟨u5, rfl, by rw [hL, List.append_nil]; exact hot, hbel⟩
      have HFIN := Lib.hid hfin
      clear hst hot hbel hL hlen hB hfin
      go_wp2
      go_ret
      exact HFIN.out
    | succ gko =>
      obtain ⟨d, L3, rfl⟩ : ∃ d L3, L2 = d :: L3 := by
        cases L2 with
        | nil => simp at hlen
        | cons d L3 => exact ⟨d, L3, rfl⟩
      have hdc : d = c := by simp at hB; exact hB.1
      subst hdc
      have hx : d ∈ x.K := by rw [hL]; simp
      obtain ⟨c', B', hB'⟩ := snoc_cons x.e1 L3
      have hod : (x.F d).od = some c' := by
        have hl := hst.gg.swap.l0
        rw [hL] at hl
        exact od_next (L1 := L1) (L2 := L3) (by simpa using hl) hB'
      obtain ⟨d0, d1, _, _, d4⟩ := hst.node (b := d) (.inr (.inr (.inr hx)))
      rw [hod] at d4
      have hpos := hst.gg.pos d (.inr hx)
      obtain ⟨kc, hkc⟩ : ∃ k, (x.F d).k = k := ⟨_, rfl⟩
      obtain ⟨zc, hzc⟩ : ∃ z, (x.F d).z = z := ⟨_, rfl⟩
      rw [hkc] at d0
      rw [hzc] at d1 hpos
      have qe := fun W => en_ne kc zc hpos W
      have hlt := hst.lt (.inr (.inr (.inr (.inr (.inr hx)))) : x.own g d)
      have HL := Lib.hid hL
      have HLEN := Lib.hid (show L1.length ≤ 1073741824 by have h1 := HLE.out; have h2 := congrArg List.length hL; rw [List.length_append] at h2; omega)
      have HB2 := Lib.hid hB'
      have HKC := Lib.hid hkc
      have HL3 := Lib.hid (show L3.length = gko by simpa using hlen)
      have HWS := Lib.hid (show w.heap.size ≤ wr.heap.size from hbel.size)
      have HGR := Lib.hid (fun (w9 : World) (gr9 : (wr.alloc (.cells #[.string kc] 9)).grownBy w9 u5.ownBlock) (b : Nat) (hb : b < wr.heap.size) (hn : ∀ k, u5.ownBlock = some k → b ≠ k) => (show w9.heap[b]? = wr.heap[b]? from (gr9.block b (by simp; omega) (fun e => hn b e.symm rfl)).trans (Below.heap_alloc _ _ _ hb)))
      have HD9 := Lib.hid (fun (w9 : World) (gr9 : (wr.alloc (.cells #[.string kc] 9)).grownBy w9 u5.ownBlock) => (show w9.cell? ⟨d, 4, none⟩ = some (ptr c') from ((World.cell?_of_block (w := wr) (a := ⟨d, 4, none⟩) (HGR.out w9 gr9 d hlt (fun k hk e => by
        have h1 := (World.ownsRow.lt HOT.out k hk).1
        have h2 := HH.out.lt (.inr (.inr (.inr (.inr (.inr hx)))) : x.own g d)
        omega)))).trans d4))
      clear hst hot hbel hL hlen hB hB' hod hpos hkc hzc hx hlt d4
      go_wp2_with (at_builtin; refine wpList_app_text w.heap.size u5 (L1.map fun b => (x.F b).k) kc wr.heap.size rfl _ _ rfl rfl (HOT.out.below ((Below.refl _ _).alloc (Nat.le_refl _) _)) rfl (Bk.new wr _ _) (by have := HLEN.out; rw [List.length_map]; omega) (by have := HWS.out; simp; omega) ?_; intro g9 cap9 w9 o9 gr9; have d49 := HD9.out w9 gr9)
      have hbl9 : Below w.heap.size w w9 := (HBE.out.alloc HWS.out _).grown gr9 (by have := HWS.out; simp; omega) (fun k hk => (World.ownsRow.lt HOT.out k hk).1)
      have HO9 := Lib.hid o9
      have HB9 := Lib.hid hbl9
      clear o9 gr9 hbl9
      go_wp2
      go_roundg gko
      case measure => exact Nat.lt_succ_self _
      case rel =>
        refine ⟨L1 ++ [d], L3, c', by rw [HL.out]; simp, HL3.out, rfl, ⟨B', HB2.out⟩, ?_, HB9.out⟩
        rw [List.map_append, List.map_cons, List.map_nil, HKC.out]
        have := HO9.out
        simpa using this
end Go.Proofs.Ytfilmbeoggmglaa.SL
