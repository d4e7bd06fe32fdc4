/- The document's line: New, Place, All, Join, Leave, First, Late. Conditions: as each. -/
import Derived.Test.YtckodebcigmkgaaLnp
namespace Go.Proofs.Ytckodebcigmkgaa.LN
open Go.ChangeShapes Go.WideShapes Go.ChangeAt Go.RowKit
open Go.Proofs.Ytckodebcigmkgaa.SL Go.Proofs.Ytckodebcigmkgaa.RW
set_option maxRecDepth 100000
set_option linter.unusedVariables false
set_option linter.unusedSimpArgs false

theorem ptS : PT 54 60 := ⟨Try.underlying54, info2 _ (by kernel_rfl)⟩
/-- at block r the document's line -/
structure RC (B : Nat) (w : World) (r most : Nat) (v : Value) (l : List Wt) : Prop where
  bk : Bk w r 56 #[v, nV (most : Int)]
  ws : WS 60 B w v l
  le : l.length ≤ most
  ma : most ≤ 10000
  rb : B ≤ r
section
variable {B : Nat} {w w' : World} {r most : Nat} {v : Value} {l : List Wt}
theorem RC.keep (h : RC B w r most v l) (e : w'.heap[r]? = w.heap[r]?) (hk : ∀ g, v.ownBlock = some g → w'.heap[g]? = w.heap[g]?) : RC B w' r most v l := ⟨h.bk.heap e, h.ws.keep hk, h.le, h.ma, h.rb⟩
theorem RC.below (h : RC B w r most v l) (hb : Below w.heap.size w w') : RC B w' r most v l := h.keep (hb.block r h.bk.lt) fun g hg => hb.block g (h.ws.lt g hg).2
theorem RC.cells (h : RC B w r most v l) : w.cell? ⟨r, 0, none⟩ = some v ∧ w.cell? ⟨r, 1, none⟩ = some (nV (most : Int)) := ⟨h.bk.cell 0, h.bk.cell 1⟩
theorem RC.ne (h : RC B w r most v l) (g : Nat) (hg : v.ownBlock = some g) : g ≠ r := by
  obtain ⟨cur, hc⟩ := h.ws.ty g hg
  rintro rfl
  have hb := h.bk
  unfold Bk at hb
  rw [hc] at hb
  injection hb with hb
  injection hb with _ hb
  exact absurd hb (by decide)
theorem RC.turn {u : Value} {l' : List Wt} (h : RC B w r most v l) (hu : WS 60 B w u l') (hl : l'.length ≤ most) : RC B (w.setCell ⟨r, 0, none⟩ u) r most u l' := by
  refine ⟨h.bk.set_ 0 u, hu.keep fun g hg => Below.heap_setCell w ⟨r, 0, none⟩ u g fun e => ?_, hl, h.ma, h.rb⟩
  obtain ⟨cur, hc⟩ := hu.ty g hg
  have hk := h.bk
  unfold Bk at hk
  rw [show g = r from e, hk] at hc
  injection hc with hc
  injection hc with _ hc
  exact absurd hc (by decide)
theorem rnew_yes (w : World) (n : Nat) (h1 : 1 ≤ n) (h2 : n ≤ 10000) :
    Calls Try.prog 9 #[nV (n : Int)] w fun e w' => ∃ r, e = .returned (.tuple #[ptr r, nV 0]) ∧ RC w.heap.size w' r n (.slice none 0 0) [] ∧ Below w.heap.size w w' := by
  have l1 : ¬ ((n : Int) < 1) := by omega
  have l2 : ¬ ((10000 : Int) < (n : Int)) := by omega
  have HN := Lib.hid h2
  obtain ⟨W, hW⟩ : ∃ W, w.alloc (.cells #[.slice none 0 0, nV (n : Int)] 56) = W := ⟨_, rfl⟩
  obtain ⟨g, hg⟩ : ∃ g, w.heap.size = g := ⟨_, rfl⟩
  have HR : Hid (RC w.heap.size W g n (.slice none 0 0) []) := Lib.hid ⟨by rw [← hW, ← hg]; exact Bk.new _ _ _, WS.nil _ _ _, Nat.zero_le _, h2, by rw [hg]; exact Nat.le_refl _⟩
  have HB : Hid (Below w.heap.size w W) := Lib.hid (by rw [← hW]; exact (Below.refl _ _).alloc (Nat.le_refl _) _)
  clear h1 h2
  go_enter Try.func9, Try.ntmps9
  go_wp2
  go_ret2
  try rw [hW]
  try rw [hg]
  exact ⟨g, rfl, by first | exact HR.out | (rw [← hg]; rw [← hg] at HR; exact HR.out), by first | exact HB.out | (rw [← hg]; exact HB.out)⟩
def RNewNo (w : World) (e : Ending) (w' : World) : Prop := ∃ g, e = .returned (.tuple #[ptr g, nV 1]) ∧ Below w.heap.size w w'
theorem rnew_no (w : World) (n : Int) (h : n < 1 ∨ 10000 < n) :
    Calls Try.prog 9 #[nV n] w (RNewNo w) := by
  have HB := Lib.hid (show ∀ o, Below w.heap.size w (w.alloc o) from fun o => (Below.refl _ _).alloc (Nat.le_refl _) _)
  rcases h with h | h
  · go_enter Try.func9, Try.ntmps9
    go_wp2
    go_ret2
    exact ⟨_, rfl, HB.out _⟩
  · have l1 : ¬ (n < 1) := by omega
    go_enter Try.func9, Try.ntmps9
    go_wp2
    go_ret2
    exact ⟨_, rfl, HB.out _⟩
set_option maxHeartbeats 4000000 in
theorem rplace_any (h : RC B w r most v l) (id : Int) : Calls Try.prog 21 #[ptr r, nV id] w (RdP (nV (placeS l id)) w) := by
  obtain ⟨va, vc, rfl⟩ := h.ws.form
  obtain ⟨n, hn⟩ : ∃ n, l.length = n := ⟨_, rfl⟩
  obtain ⟨c0, c1⟩ := h.cells
  have HL := Lib.hid h
  rw [hn] at HL c0
  have HN := Lib.hid hn
  have HX : Hid (n ≤ 10000) := Lib.hid (by have := h.le; have := h.ma; omega)
  clear h hn
  go_enter Try.func21, Try.ntmps21
  go_wp2
  go_loopg [5] n (fun gk u5 wx => ∃ j : Nat, u5 = .int .i64 (j : Int) ∧ j + gk = n ∧ (∀ t p, t < j → l[t]? = some p → p.1 ≠ id) ∧ w = wx)
  case atStart => exact ⟨0, rfl, by omega, fun t p ht => absurd ht (Nat.not_lt_zero _), rfl⟩
  case round =>
    obtain ⟨j, rfl, hj, hq, rfl⟩ := hrel
    have HQ := Lib.hid hq
    clear hq
    cases gk with
    | zero =>
      have l1 : ¬ ((j : Int) < (n : Int)) := by omega
      have HF : Hid (placeS l id = -1) := Lib.hid (place_none fun p hp => by
        obtain ⟨t, ht, rfl⟩ := List.getElem_of_mem hp
        exact HQ.out t _ (by have := HN.out; omega) (List.getElem?_eq_getElem ht))
      clear hj
      go_wp2
      go_ret
      exact ⟨by rw [HF.out]; rfl, Below.refl _ _⟩
    | succ g1 =>
      have hjl : j < l.length := by have := HN.out; omega
      obtain ⟨gb, off, cap, he, hc, hx⟩ := HL.out.ws.inv (by omega)
      rw [HN.out] at he
      injection he with e1 _ e3
      subst e1 e3
      obtain ⟨y, hy⟩ : ∃ y, l[j] = y := ⟨_, rfl⟩
      have hyj : l[j]? = some y := by rw [List.getElem?_eq_getElem hjl, hy]
      obtain ⟨x0, x1⟩ := hx j y hyj
      have l0 : (0 : Int) ≤ (j : Int) := by omega
      have l1 : (j : Int) < (n : Int) := by omega
      obtain ⟨j1, hj1⟩ : ∃ j1, j + 1 = j1 := ⟨_, rfl⟩
      have wk : IntKind.i64.wrap ((j : Int) + 1) = (j1 : Int) := by rw [show (j : Int) + 1 = (j1 : Int) by omega]; exact IntWalk.i64_in _ (by have := HX.out; omega)
      have HJ : Hid (j1 + g1 = n) := Lib.hid (by omega)
      have HJ1 := Lib.hid hj1
      have HY := Lib.hid hyj
      obtain ⟨yi, yt⟩ := y
      simp only at x0 x1
      by_cases hyd : yi = id
      · have HF : Hid (placeS l id = (j : Int)) := Lib.hid (place_at hyj hyd HQ.out)
        subst hyd
        clear hx hc hy hyj hjl hj hj1
        go_wp2
        go_ret
        exact ⟨by rw [HF.out]; rfl, Below.refl _ _⟩
      · have HNE := Lib.hid hyd
        have l3 : (yi == id) = false := beq_eq_false_iff_ne.2 hyd
        clear hx hc hy hyj hjl hj hj1
        go_wp2
        go_roundg g1
        case measure => exact Nat.lt_succ_self _
        case rel => exact ⟨j1, rfl, HJ.out, fun t p ht hp => by
          by_cases htj : t = j
          · subst htj
            rw [HY.out] at hp
            injection hp with hp
            rw [← hp]; exact HNE.out
          · exact HQ.out t p (by have := HJ1.out; omega) hp, rfl⟩
set_option maxHeartbeats 4000000 in
theorem rall_any (h : RC B w r most v l) : Calls Try.prog 23 #[ptr r] w fun e w' => ∃ d, e = .returned d ∧ OI w.heap.size w' d (l.map (·.1)) ∧ Below w.heap.size w w' := by
  obtain ⟨va, vc, rfl⟩ := h.ws.form
  obtain ⟨n, hn⟩ : ∃ n, l.length = n := ⟨_, rfl⟩
  have HL := Lib.hid h
  rw [hn] at HL
  have HN := Lib.hid hn
  have HX : Hid (n ≤ 10000) := Lib.hid (by have := h.le; have := h.ma; omega)
  clear h hn
  go_enter Try.func23, Try.ntmps23
  go_wp2
  go_loopg [3, 4] n (fun gk u3 u4 wx => ∃ j : Nat, u4 = .int .i64 (j : Int) ∧ j + gk = n ∧ OI w.heap.size wx u3 ((l.map (·.1)).take j) ∧ Below w.heap.size w wx)
  case atStart => exact ⟨0, rfl, by omega, OI.nil _ _, Below.refl _ _⟩
  case round =>
    obtain ⟨j, rfl, hj, hot, hb⟩ := hrel
    have HOT := Lib.hid hot
    have HB := Lib.hid hb
    obtain ⟨c0, c1⟩ := (HL.out.below hb).cells
    cases gk with
    | zero =>
      have l1 : ¬ ((j : Int) < (n : Int)) := by omega
      have HF : Hid (OI w.heap.size wr u3 (l.map (·.1))) := Lib.hid (by
        rw [List.take_of_length_le (by rw [List.length_map]; have := HN.out; omega)] at hot; exact hot)
      obtain ⟨ua, uc, hu⟩ := hot.form
      obtain ⟨ln, hln⟩ : ∃ ln, ((l.map (·.1)).take j).length = ln := ⟨_, rfl⟩
      rw [hln] at hu
      clear hln
      subst hu
      clear hj hot hb
      go_wp2
      go_ret
      exact ⟨_, rfl, HF.out, HB.out⟩
    | succ g1 =>
      have hjl : j < l.length := by have := HN.out; omega
      obtain ⟨gb, off, cap, he, hc, hx⟩ := (HL.out.below hb).ws.inv (by omega)
      rw [HN.out] at he
      injection he with e1 _ e3
      subst e1 e3
      obtain ⟨y, hy⟩ : ∃ y, l[j] = y := ⟨_, rfl⟩
      have hyj : l[j]? = some y := by rw [List.getElem?_eq_getElem hjl, hy]
      obtain ⟨x0, x1⟩ := hx j y hyj
      have l0 : (0 : Int) ≤ (j : Int) := by omega
      have l1 : (j : Int) < (n : Int) := by omega
      obtain ⟨j1, hj1⟩ : ∃ j1, j + 1 = j1 := ⟨_, rfl⟩
      have wk : IntKind.i64.wrap ((j : Int) + 1) = (j1 : Int) := by rw [show (j : Int) + 1 = (j1 : Int) by omega]; exact IntWalk.i64_in _ (by have := HX.out; omega)
      have HJ : Hid (j1 + g1 = n) := Lib.hid (by omega)
      have HKT : Hid ((l.map (·.1)).take j1 = (l.map (·.1)).take j ++ [y.1]) := Lib.hid (by rw [← hj1, List.take_add_one, List.getElem?_map, hyj]; rfl)
      have HTL : Hid (((l.map (·.1)).take j).length ≤ 1000000) := Lib.hid (by rw [List.length_take, List.length_map]; have := HX.out; have := HN.out; omega)
      obtain ⟨yi, yt⟩ := y
      simp only at x0 x1 HKT
      obtain ⟨D, hD⟩ : ∃ D, (l.map (·.1)).take j = D := ⟨_, rfl⟩
      rw [hD] at HOT HKT HTL
      clear hx hc hy hyj hjl hj hj1 hot hb hD
      go_wp2_with (at_builtin; refine wpList_app_int w.heap.size u3 D yi wr.heap.size rfl _ _ rfl rfl (HOT.out.below ((Below.refl _ _).alloc (Nat.le_refl _) _)) rfl (Bk.new _ _ _) (by have := HTL.out; omega) (by have := HB.out.size; simp; omega) ?_; intro g9 cap9 w9 o9 gr9)
      have hb9 : Below w.heap.size w w9 := (HB.out.alloc HB.out.size _).grown gr9 (by simp; exact Nat.le_trans HB.out.size (Nat.le_succ _)) (fun k hk => (World.ownsRow.lt HOT.out k hk).1)
      have ho9 : OI w.heap.size w9 (.slice (some ⟨g9, 0, none⟩) (D.length + 1) cap9) ((l.map (·.1)).take j1) := by
        rw [HKT.out]; exact o9
      have HO9 := Lib.hid ho9
      have HB9 := Lib.hid hb9
      clear o9 gr9 hb9 ho9
      go_wp2
      go_roundg g1
      case measure => exact Nat.lt_succ_self _
      case rel => exact ⟨j1, rfl, HJ.out, HO9.out, HB9.out⟩
end
end Go.Proofs.Ytckodebcigmkgaa.LN
