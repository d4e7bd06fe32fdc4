/- The document's book: Find, Close, Leave, Forget, Has. Conditions: how many. -/
import Derived.Test.YtkifmhdceobfhaaDoorPdg
namespace Go.Proofs.YtkifmhdceobfhaaDoor.PP
open Go.ChangeShapes Go.WideShapes Go.ChangeAt Go.RowKit Go.Maps Go.ChangeMaps
open Go.Proofs.YtkifmhdceobfhaaDoor.SL Go.Proofs.YtkifmhdceobfhaaDoor.RW
set_option maxRecDepth 100000
set_option linter.unusedVariables false
set_option linter.unusedSimpArgs false

theorem fnd_cons (e : En) (L : List En) (c : Int) (n : Tx) : fnd (e :: L) c n = if e.1 = c ∧ e.2.1 = n then some e.2.2 else fnd L c n := by
  unfold fnd
  rw [List.find?_cons]
  by_cases h : e.1 = c ∧ e.2.1 = n
  · rw [if_pos h, hitE_iff.2 h]; rfl
  · rw [if_neg h, Bool.eq_false_iff.2 fun e2 => h (hitE_iff.1 e2)]
theorem wo_take (c : Int) (n : Tx) {L : List En} {i : Nat} {e : En} (h : L[i]? = some e) : woE c n (L.take (i + 1)) = if e.1 = c ∧ e.2.1 = n then woE c n (L.take i) else woE c n (L.take i) ++ [e] := by
  unfold woE
  rw [List.take_add_one, h, List.filter_append]
  by_cases hh : e.1 = c ∧ e.2.1 = n
  · rw [if_pos hh]; simp [hitE_iff.2 hh]
  · rw [if_neg hh]; simp [Bool.eq_false_iff.2 fun e2 => hh (hitE_iff.1 e2)]
theorem no_take (c : Int) {L : List En} {i : Nat} {e : En} (h : L[i]? = some e) : noE c (L.take (i + 1)) = if e.1 = c then noE c (L.take i) else noE c (L.take i) ++ [e] := by
  unfold noE
  rw [List.take_add_one, h, List.filter_append]
  by_cases hh : e.1 = c
  · rw [if_pos hh]; simp [hh]
  · rw [if_neg hh]; simp [hh]
theorem noD_take (c : Int) {L : List Cn} {i : Nat} {e : Cn} (h : L[i]? = some e) : noD c (L.take (i + 1)) = if e.1 = c then noD c (L.take i) else noD c (L.take i) ++ [e] := by
  unfold noD
  rw [List.take_add_one, h, List.filter_append]
  by_cases hh : e.1 = c
  · rw [if_pos hh]; simp [hh]
  · rw [if_neg hh]; simp [hh]
theorem nms_take (c : Int) {L : List Cn} {i : Nat} {e : Cn} (h : L[i]? = some e) : nms (L.take (i + 1)) c = if e.1 = c then nms (L.take i) c ++ [e.2] else nms (L.take i) c := by
  unfold nms
  rw [List.take_add_one, h, List.filter_append, List.map_append]
  by_cases hh : e.1 = c
  · rw [if_pos hh]; simp [hh]
  · rw [if_neg hh]; simp [hh]
section
variable {B : Nat} {w w' : World} {r N : Nat} {S : St} {v1 v2 v3 : Value}
set_option maxHeartbeats 8000000 in
theorem rfind_any (h : RV B w r N S v1 v2 v3) (hN : N ≤ 1000000) (c : Int) (n : Tx) :
    Calls Tryd.prog 21 #[ptr r, nV c, .string n] w fun e w' => e = .returned (.tuple #[.string ((fnd S.L c n).getD ByteArray.empty), .bool (fnd S.L c n).isSome]) ∧ w = w' := by
  obtain ⟨x0, _, _⟩ := h.cells
  have HM := Lib.hid h.h1
  have HL : Hid (S.L.length ≤ 1000000) := Lib.hid (Nat.le_trans h.few.1 hN)
  obtain ⟨a1, q1, rfl⟩ := h.h1.form
  generalize S.L = L at *
  obtain ⟨P, hP⟩ : ∃ P, fnd L c n = P := ⟨_, rfl⟩
  rw [hP]
  have HP : Hid (P = fnd (L.drop 0) c n) := Lib.hid hP.symm
  clear h hN hP
  go_enter Tryd.func21, Tryd.ntmps21
  go_wp2
  go_loopg [8] L.length (fun gk u8 wx => ∃ i : Nat, u8 = .int .i64 (i : Int) ∧ i + gk = L.length ∧ Hid (P = fnd (L.drop i) c n) ∧ wx = w)
  case atStart => exact ⟨0, rfl, by omega, HP, rfl⟩
  case round =>
    obtain ⟨i, rfl, hi, HPI, rfl⟩ := hrel
    cases gk with
    | zero =>
      have l1 : ¬ ((i : Int) < (L.length : Int)) := by omega
      have hn : P = none := by rw [HPI.out, List.drop_of_length_le (by omega)]; rfl
      subst hn
      clear hi HP HPI
      go_wp2
      go_ret2
      exact ⟨rfl, rfl⟩
    | succ gk =>
      have hlt : i < L.length := by omega
      obtain ⟨y, hy⟩ : ∃ y, L[i]? = some y := ⟨_, List.getElem?_eq_getElem hlt⟩
      obtain ⟨g, cap, he, hg, hat⟩ := HM.out.at_ hy
      injection he with e1 _ e3
      subst e1 e3
      have y0 := hat 0 _ rfl
      have y1 := hat 1 _ rfl
      have y2 := hat 2 _ rfl
      rw [Nat.add_zero] at y0
      have l0 : (0 : Int) ≤ (i : Int) := by omega
      have l1 : (i : Int) < (L.length : Int) := by omega
      obtain ⟨i1, hi1⟩ : ∃ k, i + 1 = k := ⟨_, rfl⟩
      have wk : IntKind.i64.wrap ((i : Int) + 1) = (i1 : Int) := by rw [show (i : Int) + 1 = (i1 : Int) by omega]; exact IntWalk.i64_in _ (by have := HL.out; omega)
      have HI1 : Hid (i1 + gk = L.length) := Lib.hid (by omega)
      have hdr : fnd (L.drop i) c n = if y.1 = c ∧ y.2.1 = n then some y.2.2 else fnd (L.drop i1) c n := by
        obtain ⟨h1, h2⟩ := List.getElem?_eq_some_iff.1 hy
        rw [List.drop_eq_getElem_cons h1, h2, fnd_cons, hi1]
      obtain ⟨yc, yn, ys⟩ := y
      simp only at hdr
      have HPI := HPI.out
      rw [hdr] at HPI
      clear hi hlt hy hat hi1 hdr HP
      by_cases hc : yc = c
      · by_cases hn : yn = n
        · rw [if_pos ⟨hc, hn⟩] at HPI
          subst hc hn HPI
          have es : (yn.toList == yn.toList) = true := by simp
          go_wp2
          go_ret2
          exact ⟨rfl, rfl⟩
        · rw [if_neg fun e => hn e.2] at HPI
          subst hc
          have es : (yn.toList == n.toList) = false := by rw [tl_dec]; exact decide_eq_false hn
          have HPJ := Lib.hid HPI
          clear HPI hn
          go_wp2
          go_roundg gk
          case measure => exact Nat.lt_succ_self _
          case rel => exact ⟨i1, rfl, HI1.out, HPJ, rfl⟩
      · rw [if_neg fun e => hc e.1] at HPI
        have HPJ := Lib.hid HPI
        clear HPI
        go_wp2
        go_roundg gk
        case measure => exact Nat.lt_succ_self _
        case rel => exact ⟨i1, rfl, HI1.out, HPJ, rfl⟩
set_option maxHeartbeats 8000000 in
theorem rclose_any (h : RV B w r N S v1 v2 v3) (hN : N ≤ 1000000) (c : Int) (n : Tx) :
    Calls Tryd.prog 12 #[ptr r, nV c, .string n] w (RetR B r N (clsS c n S) (.bool (fnd S.L c n).isSome) w) := by
  have xr := h.cells.1
  have HV := Lib.hid h
  have HM := Lib.hid h.h1
  have HL : Hid (S.L.length ≤ 1000000) := Lib.hid (Nat.le_trans h.few.1 hN)
  have HSET : Hid (∀ (L' : List En) (w1 : World) (v : Value), L' = woE c n S.L → Below w.heap.size w w1 → OM w.heap.size w1 v L' → RBk B (w1.setCell ⟨r, 0, none⟩ v) r N (clsS c n S) ∧ Fk B w (w1.setCell ⟨r, 0, none⟩ v)) := Lib.hid fun L' w1 v he hb ho => by
    subst he
    have hs := (HV.out.below hb).setL (Nat.le_refl N) (ho.mono HV.out.le) (ul_filter HV.out.inv.ul _) (Nat.le_trans (List.length_filter_le _ _) HV.out.few.1)
    exact ⟨⟨_, _, _, hs.1⟩, (Fk.below hb HV.out.le).trans hs.2⟩
  have HCELL : Hid (∀ w1, Below w.heap.size w w1 → w1.cell? ⟨r, 0, none⟩ = some v1 ∧ w1.frozen? ⟨r, 0, none⟩ = false) := Lib.hid fun w1 hb => ⟨(h.below hb).cells.1, (h.below hb).bk.frozen 0⟩
  unfold RetR
  obtain ⟨a1, q1, rfl⟩ := h.h1.form
  have HR := Lib.hid (wo_lt c n S.L)
  generalize (fnd S.L c n).isSome = bo at *
  generalize clsS c n S = S2 at *
  obtain ⟨L, hL⟩ : ∃ L, S.L = L := ⟨_, rfl⟩
  rw [hL] at HM HL HCELL HSET xr HR
  clear h hN hL HV
  go_enter Tryd.func12, Tryd.ntmps12
  go_wp2
  go_loopg [7, 8] L.length (fun gk u7 u8 wx => ∃ i : Nat, u8 = .int .i64 (i : Int) ∧ i + gk = L.length ∧ Hid (OM w.heap.size wx u7 (woE c n (L.take i))) ∧ Hid (Below w.heap.size w wx))
  case atStart => exact ⟨0, rfl, by omega, Lib.hid (OM.nil _ _), Lib.hid (Below.refl _ _)⟩
  case round =>
    obtain ⟨i, rfl, hi, HO, HB⟩ := hrel
    have xw := (HCELL.out wr HB.out).1
    cases gk with
    | zero =>
      have l1 : ¬ ((i : Int) < (L.length : Int)) := by omega
      have hfl : woE c n (L.take i) = woE c n L := by rw [show i = L.length by omega, List.take_length]
      rw [hfl] at HO
      have xf := (HCELL.out wr HB.out).2
      obtain ⟨hs1, hs2⟩ := HSET.out _ wr _ rfl HB.out HO.out
      have HS1 := Lib.hid hs1
      have HS2 := Lib.hid hs2
      obtain ⟨ua, uc, rfl⟩ := HO.out.form
      skip
      clear hi hfl hs1 hs2
      go_wp2
      go_ret
      exact ⟨by show Ending.returned (.bool (decide ((woE c n L).length < L.length))) = _; rw [HR.out], HS1.out, HS2.out⟩
    | succ gk =>
      have hlt : i < L.length := by omega
      obtain ⟨y, hy⟩ : ∃ y, L[i]? = some y := ⟨_, List.getElem?_eq_getElem hlt⟩
      obtain ⟨g, cap, he, hg, hat⟩ := (HM.out.below HB.out).at_ hy
      injection he with e1 _ e3
      subst e1 e3
      have y0 := hat 0 _ rfl
      have y1 := hat 1 _ rfl
      have y2 := hat 2 _ rfl
      rw [Nat.add_zero] at y0
      have l0 : (0 : Int) ≤ (i : Int) := by omega
      have l1 : (i : Int) < (L.length : Int) := by omega
      obtain ⟨i1, hi1⟩ : ∃ k, i + 1 = k := ⟨_, rfl⟩
      have wk : IntKind.i64.wrap ((i : Int) + 1) = (i1 : Int) := by rw [show (i : Int) + 1 = (i1 : Int) by omega]; exact IntWalk.i64_in _ (by have := HL.out; omega)
      have HI1 : Hid (i1 + gk = L.length) := Lib.hid (by omega)
      have htk := wo_take c n hy
      rw [hi1] at htk
      have HLEN : Hid ((woE c n (L.take i)).length ≤ 1000000) := Lib.hid (Nat.le_trans (List.length_filter_le _ _) (by rw [List.length_take]; have := HL.out; omega))
      obtain ⟨yc, yn, ys⟩ := y
      simp only at htk
      clear hi hlt hy hat hi1
      by_cases hc : yc = c
      · by_cases hn : yn = n
        · have es : (yn.toList == n.toList) = true := by rw [tl_dec]; exact decide_eq_true hn
          have htk := htk
          rw [if_pos ⟨hc, hn⟩] at htk
          have HO : Hid (OM w.heap.size wr u7 (woE c n (L.take i1))) := Lib.hid (by rw [htk]; exact HO.out)
          clear htk
          go_wp2
          go_roundg gk
          case measure => exact Nat.lt_succ_self _
          case rel => exact ⟨i1, rfl, HI1.out, HO, HB⟩
        · have es : (yn.toList == n.toList) = false := by rw [tl_dec]; exact decide_eq_false hn
          have ec : (yc != c) = false := by rw [bne_eq_false_iff_eq]; exact hc
          clear hc
          rw [if_neg (fun e => hn e.2)] at htk
          have HTK := Lib.hid htk
          obtain ⟨D, hD⟩ : ∃ D, woE c n (L.take i) = D := ⟨_, rfl⟩
          rw [hD] at HTK HO HLEN
          obtain ⟨W4, hW4⟩ : ∃ W, wr.alloc (.cells #[nV yc, .string yn, .string ys] 62) = W := ⟨_, rfl⟩
          obtain ⟨nb, hnb⟩ : ∃ b, wr.heap.size = b := ⟨_, rfl⟩
          have hb4 : Below wr.heap.size wr W4 := by rw [← hW4]; exact (Below.refl _ _).alloc (Nat.le_refl _) _
          have HK4 : Hid (Bk W4 nb 62 #[nV yc, .string yn, .string ys]) := Lib.hid (by rw [← hW4, ← hnb]; exact Bk.new _ _ _)
          have HO4 := Lib.hid (HO.out.below hb4)
          have HB4 := Lib.hid (HB.out.trans (hb4.mono HB.out.size))
          clear htk hD hb4
          go_wp2_with (at_builtin; refine wpList_app_OM w.heap.size u7 D (yc, yn, ys) nb rfl _ _ rfl rfl HO4.out rfl HK4.out (by have := HLEN.out; omega) HB4.out.size ?_; intro g5 cap5 w5 o5 gr5)
          have HO5 : Hid (OM w.heap.size w5 (.slice g5 (D.length + 1) cap5) (woE c n (L.take i1))) := Lib.hid (by rw [HTK.out]; have h5 := o5; rw [List.length_append] at h5; exact h5)
          have HB5 : Hid (Below w.heap.size w w5) := Lib.hid (HB4.out.grown gr5 HB4.out.size fun k hk => (World.ownsRow.lt HO4.out k hk).1)
          try clear hW4 hnb
          clear o5 gr5
          go_wp2
          go_roundg gk
          case measure => exact Nat.lt_succ_self _
          case rel => exact ⟨i1, rfl, HI1.out, HO5, HB5⟩
      · rw [if_neg (fun e => hc e.1)] at htk
        have HTK := Lib.hid htk
        obtain ⟨D, hD⟩ : ∃ D, woE c n (L.take i) = D := ⟨_, rfl⟩
        rw [hD] at HTK HO HLEN
        obtain ⟨W4, hW4⟩ : ∃ W, wr.alloc (.cells #[nV yc, .string yn, .string ys] 62) = W := ⟨_, rfl⟩
        obtain ⟨nb, hnb⟩ : ∃ b, wr.heap.size = b := ⟨_, rfl⟩
        have hb4 : Below wr.heap.size wr W4 := by rw [← hW4]; exact (Below.refl _ _).alloc (Nat.le_refl _) _
        have HK4 : Hid (Bk W4 nb 62 #[nV yc, .string yn, .string ys]) := Lib.hid (by rw [← hW4, ← hnb]; exact Bk.new _ _ _)
        have HO4 := Lib.hid (HO.out.below hb4)
        have HB4 := Lib.hid (HB.out.trans (hb4.mono HB.out.size))
        clear htk hD hb4
        go_wp2_with (at_builtin; refine wpList_app_OM w.heap.size u7 D (yc, yn, ys) nb rfl _ _ rfl rfl HO4.out rfl HK4.out (by have := HLEN.out; omega) HB4.out.size ?_; intro g5 cap5 w5 o5 gr5)
        have HO5 : Hid (OM w.heap.size w5 (.slice g5 (D.length + 1) cap5) (woE c n (L.take i1))) := Lib.hid (by rw [HTK.out]; have h5 := o5; rw [List.length_append] at h5; exact h5)
        have HB5 : Hid (Below w.heap.size w w5) := Lib.hid (HB4.out.grown gr5 HB4.out.size fun k hk => (World.ownsRow.lt HO4.out k hk).1)
        try clear hW4 hnb
        clear o5 gr5
        go_wp2
        go_roundg gk
        case measure => exact Nat.lt_succ_self _
        case rel => exact ⟨i1, rfl, HI1.out, HO5, HB5⟩
set_option maxHeartbeats 8000000 in
theorem rleave_any (h : RV B w r N S v1 v2 v3) (hN : N ≤ 1000000) (c : Int) :
    Calls Tryd.prog 14 #[ptr r, nV c] w (RetR B r N (leaS c S) (nV ((ofE c S.L).length : Int)) w) := by
  have xr := h.cells.1
  have HV := Lib.hid h
  have HM := Lib.hid h.h1
  have HL : Hid (S.L.length ≤ 1000000) := Lib.hid (Nat.le_trans h.few.1 hN)
  have HSET : Hid (∀ (L' : List En) (w1 : World) (v : Value), L' = noE c S.L → Below w.heap.size w w1 → OM w.heap.size w1 v L' → RBk B (w1.setCell ⟨r, 0, none⟩ v) r N (leaS c S) ∧ Fk B w (w1.setCell ⟨r, 0, none⟩ v)) := Lib.hid fun L' w1 v he hb ho => by
    subst he
    have hs := (HV.out.below hb).setL (Nat.le_refl N) (ho.mono HV.out.le) (ul_filter HV.out.inv.ul _) (Nat.le_trans (List.length_filter_le _ _) HV.out.few.1)
    exact ⟨⟨_, _, _, hs.1⟩, (Fk.below hb HV.out.le).trans hs.2⟩
  have HCELL : Hid (∀ w1, Below w.heap.size w w1 → w1.cell? ⟨r, 0, none⟩ = some v1 ∧ w1.frozen? ⟨r, 0, none⟩ = false) := Lib.hid fun w1 hb => ⟨(h.below hb).cells.1, (h.below hb).bk.frozen 0⟩
  unfold RetR
  obtain ⟨a1, q1, rfl⟩ := h.h1.form
  have HR := Lib.hid (no_len c S.L)
  generalize (ofE c S.L).length = m at *
  generalize leaS c S = S2 at *
  obtain ⟨L, hL⟩ : ∃ L, S.L = L := ⟨_, rfl⟩
  rw [hL] at HM HL HCELL HSET xr HR
  clear h hN hL HV
  go_enter Tryd.func14, Tryd.ntmps14
  go_wp2
  go_loopg [5, 6] L.length (fun gk u5 u6 wx => ∃ i : Nat, u6 = .int .i64 (i : Int) ∧ i + gk = L.length ∧ Hid (OM w.heap.size wx u5 (noE c (L.take i))) ∧ Hid (Below w.heap.size w wx))
  case atStart => exact ⟨0, rfl, by omega, Lib.hid (OM.nil _ _), Lib.hid (Below.refl _ _)⟩
  case round =>
    obtain ⟨i, rfl, hi, HO, HB⟩ := hrel
    have xw := (HCELL.out wr HB.out).1
    cases gk with
    | zero =>
      have l1 : ¬ ((i : Int) < (L.length : Int)) := by omega
      have hfl : noE c (L.take i) = noE c L := by rw [show i = L.length by omega, List.take_length]
      rw [hfl] at HO
      have xf := (HCELL.out wr HB.out).2
      obtain ⟨hs1, hs2⟩ := HSET.out _ wr _ rfl HB.out HO.out
      have HS1 := Lib.hid hs1
      have HS2 := Lib.hid hs2
      obtain ⟨ua, uc, rfl⟩ := HO.out.form
      have hd2 : IntKind.i64.wrap ((L.length : Int) - ((noE c L).length : Int)) = (m : Int) := by
        have h1 := HR.out
        have h2 := HL.out
        rw [show (L.length : Int) - ((noE c L).length : Int) = (m : Int) by omega]
        exact IntWalk.i64_in _ (by omega)
      clear hi hfl hs1 hs2
      go_wp2
      go_ret
      exact ⟨rfl, HS1.out, HS2.out⟩
    | succ gk =>
      have hlt : i < L.length := by omega
      obtain ⟨y, hy⟩ : ∃ y, L[i]? = some y := ⟨_, List.getElem?_eq_getElem hlt⟩
      obtain ⟨g, cap, he, hg, hat⟩ := (HM.out.below HB.out).at_ hy
      injection he with e1 _ e3
      subst e1 e3
      have y0 := hat 0 _ rfl
      have y1 := hat 1 _ rfl
      have y2 := hat 2 _ rfl
      rw [Nat.add_zero] at y0
      have l0 : (0 : Int) ≤ (i : Int) := by omega
      have l1 : (i : Int) < (L.length : Int) := by omega
      obtain ⟨i1, hi1⟩ : ∃ k, i + 1 = k := ⟨_, rfl⟩
      have wk : IntKind.i64.wrap ((i : Int) + 1) = (i1 : Int) := by rw [show (i : Int) + 1 = (i1 : Int) by omega]; exact IntWalk.i64_in _ (by have := HL.out; omega)
      have HI1 : Hid (i1 + gk = L.length) := Lib.hid (by omega)
      have htk := no_take c hy
      rw [hi1] at htk
      have HLEN : Hid ((noE c (L.take i)).length ≤ 1000000) := Lib.hid (Nat.le_trans (List.length_filter_le _ _) (by rw [List.length_take]; have := HL.out; omega))
      obtain ⟨yc, yn, ys⟩ := y
      simp only at htk
      clear hi hlt hy hat hi1
      by_cases hc : yc = c
      · rw [if_pos hc] at htk
        have HO : Hid (OM w.heap.size wr u5 (noE c (L.take i1))) := Lib.hid (by rw [htk]; exact HO.out)
        clear htk
        go_wp2
        go_roundg gk
        case measure => exact Nat.lt_succ_self _
        case rel => exact ⟨i1, rfl, HI1.out, HO, HB⟩
      · rw [if_neg hc] at htk
        have HTK := Lib.hid htk
        obtain ⟨D, hD⟩ : ∃ D, noE c (L.take i) = D := ⟨_, rfl⟩
        rw [hD] at HTK HO HLEN
        obtain ⟨W4, hW4⟩ : ∃ W, wr.alloc (.cells #[nV yc, .string yn, .string ys] 62) = W := ⟨_, rfl⟩
        obtain ⟨nb, hnb⟩ : ∃ b, wr.heap.size = b := ⟨_, rfl⟩
        have hb4 : Below wr.heap.size wr W4 := by rw [← hW4]; exact (Below.refl _ _).alloc (Nat.le_refl _) _
        have HK4 : Hid (Bk W4 nb 62 #[nV yc, .string yn, .string ys]) := Lib.hid (by rw [← hW4, ← hnb]; exact Bk.new _ _ _)
        have HO4 := Lib.hid (HO.out.below hb4)
        have HB4 := Lib.hid (HB.out.trans (hb4.mono HB.out.size))
        clear htk hD hb4
        go_wp2_with (at_builtin; refine wpList_app_OM w.heap.size u5 D (yc, yn, ys) nb rfl _ _ rfl rfl HO4.out rfl HK4.out (by have := HLEN.out; omega) HB4.out.size ?_; intro g5 cap5 w5 o5 gr5)
        have HO5 : Hid (OM w.heap.size w5 (.slice g5 (D.length + 1) cap5) (noE c (L.take i1))) := Lib.hid (by rw [HTK.out]; have h5 := o5; rw [List.length_append] at h5; exact h5)
        have HB5 : Hid (Below w.heap.size w w5) := Lib.hid (HB4.out.grown gr5 HB4.out.size fun k hk => (World.ownsRow.lt HO4.out k hk).1)
        try clear hW4 hnb
        clear o5 gr5
        go_wp2
        go_roundg gk
        case measure => exact Nat.lt_succ_self _
        case rel => exact ⟨i1, rfl, HI1.out, HO5, HB5⟩
set_option maxHeartbeats 8000000 in
theorem rforget_any (h : RV B w r N S v1 v2 v3) (hN : N ≤ 1000000) (c : Int) :
    Calls Tryd.prog 18 #[ptr r, nV c] w (RetR B r N (forS c S) (nV ((nms S.D c).length : Int)) w) := by
  have xr := h.cells.2.2
  have HV := Lib.hid h
  have HM := Lib.hid h.h3
  have HL : Hid (S.D.length ≤ 1000000) := Lib.hid (Nat.le_trans h.few.2.1 hN)
  have HSET : Hid (∀ (L' : List Cn) (w1 : World) (v : Value), L' = noD c S.D → Below w.heap.size w w1 → OC w.heap.size w1 v L' → RBk B (w1.setCell ⟨r, 2, none⟩ v) r N (forS c S) ∧ Fk B w (w1.setCell ⟨r, 2, none⟩ v)) := Lib.hid fun L' w1 v he hb ho => by
    subst he
    have hs := (HV.out.below hb).setD (Nat.le_refl N) (ho.mono HV.out.le) (List.Pairwise.filter _ HV.out.inv.ud) (fun e he => HV.out.inv.nr e (List.mem_filter.1 he).1) (Nat.le_trans (List.length_filter_le _ _) HV.out.few.2.1)
    exact ⟨⟨_, _, _, hs.1⟩, (Fk.below hb HV.out.le).trans hs.2⟩
  have HCELL : Hid (∀ w1, Below w.heap.size w w1 → w1.cell? ⟨r, 2, none⟩ = some v3 ∧ w1.frozen? ⟨r, 2, none⟩ = false) := Lib.hid fun w1 hb => ⟨(h.below hb).cells.2.2, (h.below hb).bk.frozen 2⟩
  unfold RetR
  obtain ⟨a1, q1, rfl⟩ := h.h3.form
  have HR := Lib.hid (noD_len c S.D)
  generalize (nms S.D c).length = m at *
  generalize forS c S = S2 at *
  obtain ⟨L, hL⟩ : ∃ L, S.D = L := ⟨_, rfl⟩
  rw [hL] at HM HL HCELL HSET xr HR
  clear h hN hL HV
  go_enter Tryd.func18, Tryd.ntmps18
  go_wp2
  go_loopg [5, 6] L.length (fun gk u5 u6 wx => ∃ i : Nat, u6 = .int .i64 (i : Int) ∧ i + gk = L.length ∧ Hid (OC w.heap.size wx u5 (noD c (L.take i))) ∧ Hid (Below w.heap.size w wx))
  case atStart => exact ⟨0, rfl, by omega, Lib.hid (OC.nil _ _), Lib.hid (Below.refl _ _)⟩
  case round =>
    obtain ⟨i, rfl, hi, HO, HB⟩ := hrel
    have xw := (HCELL.out wr HB.out).1
    cases gk with
    | zero =>
      have l1 : ¬ ((i : Int) < (L.length : Int)) := by omega
      have hfl : noD c (L.take i) = noD c L := by rw [show i = L.length by omega, List.take_length]
      rw [hfl] at HO
      have xf := (HCELL.out wr HB.out).2
      obtain ⟨hs1, hs2⟩ := HSET.out _ wr _ rfl HB.out HO.out
      have HS1 := Lib.hid hs1
      have HS2 := Lib.hid hs2
      obtain ⟨ua, uc, rfl⟩ := HO.out.form
      have hd2 : IntKind.i64.wrap ((L.length : Int) - ((noD c L).length : Int)) = (m : Int) := by
        have h1 := HR.out
        have h2 := HL.out
        rw [show (L.length : Int) - ((noD c L).length : Int) = (m : Int) by omega]
        exact IntWalk.i64_in _ (by omega)
      clear hi hfl hs1 hs2
      go_wp2
      go_ret
      exact ⟨rfl, HS1.out, HS2.out⟩
    | succ gk =>
      have hlt : i < L.length := by omega
      obtain ⟨y, hy⟩ : ∃ y, L[i]? = some y := ⟨_, List.getElem?_eq_getElem hlt⟩
      obtain ⟨g, cap, he, hg, hat⟩ := (HM.out.below HB.out).at_ hy
      injection he with e1 _ e3
      subst e1 e3
      have y0 := hat 0 _ rfl
      have y1 := hat 1 _ rfl
      rw [Nat.add_zero] at y0
      have l0 : (0 : Int) ≤ (i : Int) := by omega
      have l1 : (i : Int) < (L.length : Int) := by omega
      obtain ⟨i1, hi1⟩ : ∃ k, i + 1 = k := ⟨_, rfl⟩
      have wk : IntKind.i64.wrap ((i : Int) + 1) = (i1 : Int) := by rw [show (i : Int) + 1 = (i1 : Int) by omega]; exact IntWalk.i64_in _ (by have := HL.out; omega)
      have HI1 : Hid (i1 + gk = L.length) := Lib.hid (by omega)
      have htk := noD_take c hy
      rw [hi1] at htk
      have HLEN : Hid ((noD c (L.take i)).length ≤ 1000000) := Lib.hid (Nat.le_trans (List.length_filter_le _ _) (by rw [List.length_take]; have := HL.out; omega))
      obtain ⟨yc, yk⟩ := y
      simp only at htk
      clear hi hlt hy hat hi1
      by_cases hc : yc = c
      · rw [if_pos hc] at htk
        have HO : Hid (OC w.heap.size wr u5 (noD c (L.take i1))) := Lib.hid (by rw [htk]; exact HO.out)
        clear htk
        go_wp2
        go_roundg gk
        case measure => exact Nat.lt_succ_self _
        case rel => exact ⟨i1, rfl, HI1.out, HO, HB⟩
      · rw [if_neg hc] at htk
        have HTK := Lib.hid htk
        obtain ⟨D, hD⟩ : ∃ D, noD c (L.take i) = D := ⟨_, rfl⟩
        rw [hD] at HTK HO HLEN
        obtain ⟨W4, hW4⟩ : ∃ W, wr.alloc (.cells #[nV yc, .string (nm yk)] 69) = W := ⟨_, rfl⟩
        obtain ⟨nb, hnb⟩ : ∃ b, wr.heap.size = b := ⟨_, rfl⟩
        have hb4 : Below wr.heap.size wr W4 := by rw [← hW4]; exact (Below.refl _ _).alloc (Nat.le_refl _) _
        have HK4 : Hid (Bk W4 nb 69 #[nV yc, .string (nm yk)]) := Lib.hid (by rw [← hW4, ← hnb]; exact Bk.new _ _ _)
        have HO4 := Lib.hid (HO.out.below hb4)
        have HB4 := Lib.hid (HB.out.trans (hb4.mono HB.out.size))
        clear htk hD hb4
        go_wp2_with (at_builtin; refine wpList_app_OC w.heap.size u5 D (yc, yk) nb rfl _ _ rfl rfl HO4.out rfl HK4.out (by have := HLEN.out; omega) HB4.out.size ?_; intro g5 cap5 w5 o5 gr5)
        have HO5 : Hid (OC w.heap.size w5 (.slice g5 (D.length + 1) cap5) (noD c (L.take i1))) := Lib.hid (by rw [HTK.out]; have h5 := o5; rw [List.length_append] at h5; exact h5)
        have HB5 : Hid (Below w.heap.size w w5) := Lib.hid (HB4.out.grown gr5 HB4.out.size fun k hk => (World.ownsRow.lt HO4.out k hk).1)
        try clear hW4 hnb
        clear o5 gr5
        go_wp2
        go_roundg gk
        case measure => exact Nat.lt_succ_self _
        case rel => exact ⟨i1, rfl, HI1.out, HO5, HB5⟩
end
end Go.Proofs.YtkifmhdceobfhaaDoor.PP
