/- Package line, its code: New, Place, All, Join. Conditions: as each. -/
import Derived.Test.YtochjbmighijgaaLnd
namespace Go.Proofs.Ytochjbmighijgaa.LN
open Go.ChangeShapes Go.WideShapes Go.ChangeAt Go.RowKit
open Go.Proofs.Ytochjbmighijgaa.SL Go.Proofs.Ytochjbmighijgaa.RW
set_option maxRecDepth 100000
set_option linter.unusedVariables false
set_option linter.unusedSimpArgs false

theorem lc_new (B : Nat) {w' : World} {g : Nat} (n : Nat) (hb : Bk w' g 94 #[ptr g, nV (n : Int), .slice none 0 0]) (hB : B ≤ g) (hn : n ≤ 10000) : LC B w' g n (.slice none 0 0) [] :=
  ⟨hb, WS.nil _ _ _, Nat.zero_le _, hn, hB⟩
theorem new_yes (w : World) (n : Nat) (h1 : 1 ≤ n) (h2 : n ≤ 10000) :
    Calls Try.prog 44 #[nV (n : Int)] w fun e w' => ∃ a, e = .returned (.tuple #[ptr a, nV 0]) ∧ LC w.heap.size w' a n (.slice none 0 0) [] ∧ Below w.heap.size w w' := by
  have l1 : ¬ ((n : Int) < 1) := by omega
  have l2 : ¬ ((10000 : Int) < (n : Int)) := by omega
  have HN := Lib.hid h2
  clear h1 h2
  go_enter Try.func44, Try.ntmps44
  go_wp2_with fail
  refine (made_any w _ _ ⟨_, _, _, rfl⟩).mono ?_
  rintro e w' ⟨rfl, hk, hb⟩
  have HK := Lib.hid hk
  have HB := Lib.hid hb
  clear hk hb
  go_wp2
  go_ret2
  exact ⟨_, rfl, lc_new _ n HK.out (Nat.le_refl _) HN.out, HB.out⟩
theorem new_no (w : World) (n : Int) (h : n < 1 ∨ 10000 < n) :
    Calls Try.prog 44 #[nV n] w fun e w' => e = .returned (.tuple #[.pointer none, nV 1]) ∧ w = w' := by
  rcases h with h | h
  · go_enter Try.func44, Try.ntmps44
    go_wp2
    go_ret2
    exact ⟨rfl, rfl⟩
  · have l1 : ¬ (n < 1) := by omega
    go_enter Try.func44, Try.ntmps44
    go_wp2
    go_ret2
    exact ⟨rfl, rfl⟩
section
variable {B : Nat} {w w' : World} {a most : Nat} {v : Value} {l : List Wt}
theorem LC.cells (h : LC B w a most v l) : w.cell? ⟨a, 0, none⟩ = some (ptr a) ∧ w.cell? ⟨a, 1, none⟩ = some (nV (most : Int)) ∧ w.cell? ⟨a, 2, none⟩ = some v := ⟨h.bk.cell 0, h.bk.cell 1, h.bk.cell 2⟩
theorem enterP : ∀ args W, (callFunc 61 args).run Try.prog W = .ok (.enter 61 args) W := fun args W => by
  show Sem.run Try.prog (callFunc 61 args) W = _; go_simp
theorem enterL : ∀ args W, (callFunc 52 args).run Try.prog W = .ok (.enter 52 args) W := fun args W => by
  show Sem.run Try.prog (callFunc 52 args) W = _; go_simp
theorem enterT : ∀ args W, (callFunc 55 args).run Try.prog W = .ok (.enter 55 args) W := fun args W => by
  show Sem.run Try.prog (callFunc 55 args) W = _; go_simp
theorem testP {b : Nat} {x : Int} (h : Bk w b 3 #[nV x]) : Test 61 #[ptr b] (isId x) w := ⟨enterP, fun W hW y => placec_any (h.heap (hW.block b h.lt)) y⟩
theorem testL {b : Nat} {x : Int} (h : Bk w b 3 #[nV x]) : Test 52 #[ptr b] (isId x) w := ⟨enterL, fun W hW y => leavec_any (h.heap (hW.block b h.lt)) y⟩
theorem testT {b : Nat} {x : Int} (h : Bk w b 3 #[nV x]) : Test 55 #[ptr b] (isLate x) w := ⟨enterT, fun W hW y => latec_any (h.heap (hW.block b h.lt)) y⟩
theorem idx_eq (l : List Wt) (id : Int) : oI (l.findIdx? (isId id)) = placeS l id := rfl
set_option maxHeartbeats 2000000 in
theorem place_any (h : LC B w a most v l) (id : Int) : Calls Try.prog 47 #[ptr a, nV id] w (RdP (nV (placeS l id)) w) := by
  obtain ⟨W, hW⟩ : ∃ W, w.alloc (.cells #[nV id] 3) = W := ⟨_, rfl⟩
  obtain ⟨b, hbb⟩ : ∃ b, w.heap.size = b := ⟨_, rfl⟩
  have hb : Below w.heap.size w W := by rw [← hW]; exact (Below.refl _ _).alloc (Nat.le_refl _) _
  have kb : Bk W b 3 #[nV id] := by rw [← hW, ← hbb]; exact Bk.new _ _ _
  have hl := h.below hb
  obtain ⟨c0, c1, c2⟩ := hl.cells
  have HL := Lib.hid hl
  have HT := Lib.hid (testP kb)
  have HB := Lib.hid hb
  have HG := Lib.hid (given_yes W a c0)
  obtain ⟨R, hR⟩ : ∃ R, placeS l id = R := ⟨_, rfl⟩
  have HR := Lib.hid hR
  rw [hR]
  clear h hl hb kb hR
  go_enter Try.func47, Try.ntmps47
  go_wp2_with fail
  try rw [hW]
  refine HG.out.mono ?_
  rintro e w1 ⟨rfl, rfl⟩
  go_wp2_with fail
  try rw [hbb]
  refine (index_any HL.out.ws HT.out (by have := HL.out.le; have := HL.out.ma; omega)).mono ?_
  rintro e w2 ⟨rfl, hb2⟩
  have HB2 := Lib.hid (HB.out.trans (hb2.mono HB.out.size))
  rw [idx_eq, HR.out]
  clear hb2 hW hbb
  go_wp2
  go_ret
  exact ⟨rfl, HB2.out⟩
theorem place_no (h : Nb w v) (id : Int) : Calls Try.prog 47 #[v, nV id] w (RdP (nV (-1)) w) := by
  obtain ⟨W, hW⟩ : ∃ W, w.alloc (.cells #[nV id] 3) = W := ⟨_, rfl⟩
  have hb : Below w.heap.size w W := by rw [← hW]; exact (Below.refl _ _).alloc (Nat.le_refl _) _
  have HG := Lib.hid (given_no (h.below hb))
  have HB := Lib.hid hb
  clear h hb
  go_enter Try.func47, Try.ntmps47
  go_wp2_with fail
  try rw [hW]
  refine HG.out.mono ?_
  rintro e w1 ⟨rfl, rfl⟩
  go_wp2
  go_ret
  exact ⟨rfl, HB.out⟩
set_option maxHeartbeats 2000000 in
theorem all_any (h : LC B w a most v l) : Calls Try.prog 38 #[ptr a] w fun e w' => ∃ r, e = .returned r ∧ OI w.heap.size w' r (l.map (·.1)) ∧ Below w.heap.size w w' := by
  obtain ⟨c0, c1, c2⟩ := h.cells
  have HV := Lib.hid h.ws
  have HL : Hid (l.length ≤ 10000) := Lib.hid (Nat.le_trans h.le h.ma)
  have HG := Lib.hid (given_yes w a c0)
  obtain ⟨va, vc, rfl⟩ := h.ws.form
  obtain ⟨n, hn⟩ : ∃ n, l.length = n := ⟨_, rfl⟩
  rw [hn] at HV HL c2
  have HN := Lib.hid hn
  clear h hn
  go_enter Try.func38, Try.ntmps38
  go_wp2_with fail
  refine HG.out.mono ?_
  rintro e w1 ⟨rfl, rfl⟩
  go_wp2
  go_loopg [3, 14] n (fun gk u3 u14 wx => ∃ j : Nat, u14 = .int .i64 (j : Int) ∧ j + gk = n ∧ OI w.heap.size wx u3 ((l.map (·.1)).take j) ∧ Below w.heap.size w wx)
  case atStart => exact ⟨0, rfl, by omega, OI.nil _ _, Below.refl _ _⟩
  case round =>
    obtain ⟨j, rfl, hj, hot, hb⟩ := hrel
    have HOT := Lib.hid hot
    have HB := Lib.hid hb
    cases gk with
    | zero =>
      have l1 : ¬ ((j : Int) < (n : Int)) := by omega
      have HF : Hid (OI w.heap.size wr u3 (l.map (·.1))) := Lib.hid (by
        rw [List.take_of_length_le (by rw [List.length_map]; have := HN.out; omega)] at hot; exact hot)
      obtain ⟨ua, uc, hu⟩ := hot.form
      obtain ⟨ln, hln⟩ : ∃ ln, ((l.map (·.1)).take j).length = ln := ⟨_, rfl⟩
      rw [hln] at hu
      clear hln
      subst hu
      clear hj hot hb
      go_wp2
      go_ret
      exact ⟨_, rfl, HF.out, HB.out⟩
    | succ g1 =>
      have hjl : j < l.length := by have := HN.out; omega
      obtain ⟨gb, off, cap, he, hc, hx⟩ := (HV.out.below hb).inv (by omega)
      rw [HN.out] at he
      injection he with e1 _ e3
      subst e1 e3
      obtain ⟨y, hy⟩ : ∃ y, l[j] = y := ⟨_, rfl⟩
      have hyj : l[j]? = some y := by rw [List.getElem?_eq_getElem hjl, hy]
      obtain ⟨x0, x1⟩ := hx j y hyj
      have l0 : (0 : Int) ≤ (j : Int) := by omega
      have l1 : (j : Int) < (n : Int) := by omega
      obtain ⟨j1, hj1⟩ : ∃ j1, j + 1 = j1 := ⟨_, rfl⟩
      have wk : IntKind.i64.wrap ((j : Int) + 1) = (j1 : Int) := by rw [show (j : Int) + 1 = (j1 : Int) by omega]; exact IntWalk.i64_in _ (by have := HL.out; omega)
      have HJ : Hid (j1 + g1 = n) := Lib.hid (by omega)
      have HKT : Hid ((l.map (·.1)).take j1 = (l.map (·.1)).take j ++ [y.1]) := Lib.hid (by rw [← hj1, List.take_add_one, List.getElem?_map, hyj]; rfl)
      have HTL : Hid (((l.map (·.1)).take j).length ≤ 1000000) := Lib.hid (by rw [List.length_take, List.length_map]; have := HL.out; have := HN.out; omega)
      obtain ⟨yi, yt⟩ := y
      simp only at x0 x1 HKT
      obtain ⟨D, hD⟩ : ∃ D, (l.map (·.1)).take j = D := ⟨_, rfl⟩
      rw [hD] at HOT HKT HTL
      obtain ⟨W2, hW2⟩ : ∃ W, wr.alloc (.cells #[nV yi, nV yt] 96) = W := ⟨_, rfl⟩
      have hb2 : Below wr.heap.size wr W2 := by rw [← hW2]; exact (Below.refl _ _).alloc (Nat.le_refl _) _
      have z0 : W2.cell? ⟨wr.heap.size, 0, none⟩ = some (nV yi) := by rw [← hW2]; exact (Bk.new wr 96 #[nV yi, nV yt]).cell 0
      have HO2 := Lib.hid (HOT.out.below hb2)
      have HB2 := Lib.hid (HB.out.trans (hb2.mono HB.out.size))
      clear hx hc hy hyj hjl hj hj1 hot hb hb2 hD HOT HB
      go_wp2_with (at_builtin; refine wpList_app_int w.heap.size u3 D yi W2.heap.size rfl _ _ rfl rfl (HO2.out.below ((Below.refl _ _).alloc (Nat.le_refl _) _)) rfl (Bk.new _ _ _) (by have := HTL.out; omega) (by have := HB2.out.size; simp; omega) ?_; intro g9 cap9 w9 o9 gr9)
      have hb9 : Below w.heap.size w w9 := (HB2.out.alloc HB2.out.size _).grown gr9 (by simp; exact Nat.le_trans HB2.out.size (Nat.le_succ _)) (fun k hk => (World.ownsRow.lt HO2.out k hk).1)
      have ho9 : OI w.heap.size w9 (.slice (some ⟨g9, 0, none⟩) (D.length + 1) cap9) ((l.map (·.1)).take j1) := by
        rw [HKT.out]; exact o9
      have HO9 := Lib.hid ho9
      have HB9 := Lib.hid hb9
      clear o9 gr9 hb9 ho9
      go_roundg g1
      case measure => exact Nat.lt_succ_self _
      case rel => exact ⟨j1, rfl, HJ.out, HO9.out, HB9.out⟩
theorem all_no (h : Nb w v) : Calls Try.prog 38 #[v] w fun e w' => e = .returned (.slice none 0 0) ∧ w = w' := by
  have HG := Lib.hid (given_no h)
  clear h
  go_enter Try.func38, Try.ntmps38
  go_wp2_with fail
  refine HG.out.mono ?_
  rintro e w1 ⟨rfl, rfl⟩
  go_wp2
  go_ret
  exact ⟨rfl, rfl⟩
end
end Go.Proofs.Ytochjbmighijgaa.LN
