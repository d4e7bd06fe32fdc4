/- Package line, its code: take, Leave, Late. Conditions: as each. -/
import Derived.Test.YtochjbmighijgaaPlg
namespace Go.Proofs.Ytochjbmighijgaa.LN
open Go.ChangeShapes Go.WideShapes Go.ChangeAt Go.RowKit
open Go.Proofs.Ytochjbmighijgaa.SL Go.Proofs.Ytochjbmighijgaa.RW
set_option maxRecDepth 100000
set_option linter.unusedVariables false
set_option linter.unusedSimpArgs false

section
variable {B : Nat} {w w' : World} {a most : Nat} {v : Value} {l : List Wt}
/-- new memory, or a slice without room -/
def Fresh (N : Nat) (v : Value) : Prop := (∃ A k, v = .slice A k k) ∨ ∀ g, v.ownBlock = some g → N ≤ g
theorem Fresh.step {N M : Nat} {v v' : Value} (h : Fresh N v) (hl : Lies M v v') (hM : N ≤ M) : Fresh N v' := by
  refine .inr fun g hg => ?_
  rcases hl g hg with h1 | ⟨h1, A, n, c, e, hc⟩
  · omega
  · rcases h with ⟨A', k, rfl⟩ | h
    · injection e with _ e1 e2
      omega
    · exact h g h1
theorem Fresh.app {T : TypeId} {N : Nat} {v : Value} (h : Fresh N v) (ap : App T w w' v) (hN : N ≤ w.heap.size) : Below N w w' := by
  rcases h with ⟨A, k, rfl⟩ | h
  · exact (ap.full A k k rfl (Nat.le_refl _)).mono hN
  · exact ap.below hN h
theorem ws_int {u : Value} {N : Nat} {d : List Int} (hs : WS 96 B w u l) (ho : OI N w v d) (g : Nat) (hg : u.ownBlock = some g) : v.ownBlock ≠ some g := by
  intro hv
  obtain ⟨cur, hc⟩ := hs.ty g hg
  rcases ho.2 with ⟨rfl, _⟩ | ⟨q, cap, cu, rfl, hb, hh, _⟩
  · cases hv
  · injection hv with hv
    subst hv
    rw [hh] at hc
    injection hc with hc
    injection hc with _ hc
    exact absurd hc (by decide)
def TakeP (w : World) (v : Value) (B a most : Nat) (q : Wt → Bool) (l : List Wt) (e : Ending) (w' : World) : Prop :=
  ∃ r, e = .returned r ∧ OI w.heap.size w' r (goneS q l) ∧ (∃ v', LC B w' a most v' (stayS q l) ∧ Own w v v') ∧ Chg (fun b => b = a) w w'
set_option maxHeartbeats 8000000 in
theorem take_any (h : LC B w a most v l) (hB : B ≤ w.heap.size) {g : Nat} {cb : Array Value} {q : Wt → Bool} (ht : Test g cb q w) :
    Calls Try.prog 51 #[ptr a, .func (.func g) #[] cb] w (TakeP w v B a most q l) := by
  obtain ⟨c0, c1, c2⟩ := h.cells
  have HG := Lib.hid (given_yes w a c0)
  have HL := Lib.hid h
  have HBB := Lib.hid hB
  have HT := Lib.hid ht
  have henter := ht.enter
  have HI := Lib.hid (index_any h.ws ht (by have := h.le; have := h.ma; omega))
  have HX : Hid (l.length ≤ 10000) := Lib.hid (Nat.le_trans h.le h.ma)
  obtain ⟨n, hn⟩ : ∃ n, l.length = n := ⟨_, rfl⟩
  have HN := Lib.hid hn
  cases hf : l.findIdx? q with
  | none =>
    have hnone := List.findIdx?_eq_none_iff.1 hf
    obtain ⟨e1, e2⟩ := goneS_none hnone
    have HF : Hid (∀ w', Below w.heap.size w w' → TakeP w v B a most q l (.returned (.slice none 0 0)) w') := Lib.hid (fun w' hb => ⟨_, rfl, by rw [e1]; exact OI.nil _ _, ⟨v, by rw [e2]; exact h.below hb, Own.refl _ _⟩, .of_below hb⟩)
    rw [hf, show oI none = -1 from rfl] at HI
    obtain ⟨va, vc, rfl⟩ := h.ws.form
    clear h hn hf hnone e1 e2 ht
    go_enter Try.func51, Try.ntmps51
    go_wp2_with fail
    refine HG.out.mono ?_
    rintro e w1 ⟨rfl, rfl⟩
    go_wp2_with fail
    refine HI.out.mono ?_
    rintro e w1 ⟨rfl, hb⟩
    go_wp2
    go_ret
    exact HF.out _ hb
  | some at_ =>
    obtain ⟨hat, hqt, hqb⟩ := List.findIdx?_eq_some_iff_getElem.1 hf
    rw [hf, show oI (some at_) = (at_ : Int) from rfl] at HI
    rw [hn] at hat
    obtain ⟨gb, off, cap, hv, hc, hx⟩ := h.ws.inv (by omega)
    rw [hn] at hv hc
    subst hv
    obtain ⟨m, hm⟩ : ∃ m, n - at_ = m := ⟨_, rfl⟩
    have HM := Lib.hid hm
    have HC := Lib.hid hc
    have HAT := Lib.hid hat
    have hpre : ∀ p ∈ l.take at_, q p = false := by
      intro p hp
      obtain ⟨t, ht', rfl⟩ := List.getElem_of_mem hp
      have ht2 : t < at_ := by rw [List.length_take] at ht'; omega
      rw [List.getElem_take]
      have := hqb t ht2
      simpa using this
    have HG1 : Hid (goneS q l = goneS q (l.drop at_)) := Lib.hid (by
      rw [← List.take_append_drop at_ l, goneS_app, (goneS_none hpre).1, List.nil_append]
      congr 1
      rw [List.take_append_drop])
    have HS1 : Hid (stayS q l = l.take at_ ++ stayS q (l.drop at_)) := Lib.hid (by
      rw [← List.take_append_drop at_ l, stayS_app, (goneS_none hpre).2]
      congr 1
      · rw [List.take_append_drop]
      · rw [List.take_append_drop])
    have HDL : Hid ((l.drop at_).length = m) := Lib.hid (by rw [List.length_drop, hn]; exact hm)
    have hws : WS 96 B w (.slice (some ⟨gb, off, none⟩) at_ at_) (l.take at_) := by
      have := h.ws.cut (by rw [hn]) 0 at_ at_ (Nat.zero_le _) (by omega) (Nat.le_refl _) (by omega)
      rw [List.drop_zero, Nat.zero_mul, Nat.add_zero, Nat.sub_zero] at this
      exact this
    have HWS := Lib.hid hws
    have HXX := Lib.hid hx
    have l1 : (0 : Int) ≤ (at_ : Int) := by omega
    have l2 : (at_ : Int) ≤ (n : Int) := by omega
    have l3 : (at_ : Int) ≤ (cap : Int) := by omega
    have l4 : ¬ cap = at_ := by omega
    have l5 : (n : Int) ≤ (cap : Int) := by omega
    clear h hn hf hat hqt hqb hc hpre hws hx hm ht
    go_enter Try.func51, Try.ntmps51
    go_wp2_with fail
    refine HG.out.mono ?_
    rintro e w1 ⟨rfl, rfl⟩
    go_wp2_with fail
    refine HI.out.mono ?_
    rintro e w1 ⟨rfl, hb⟩
    have HB1 := Lib.hid hb
    obtain ⟨d0, d1, d2⟩ := (HL.out.below hb).cells
    clear hb c0 c1 c2 HI
    have lm : (n - at_ : Nat) = m := HM.out
    go_wp2
    go_loopg [6, 7, 35] m (fun gk u6 u7 u35 wx => ∃ j : Nat, u35 = .int .i64 (j : Int) ∧ j + gk = m ∧ OI w.heap.size wx u6 (goneS q ((l.drop at_).take j)) ∧ WS 96 B wx u7 (l.take at_ ++ stayS q ((l.drop at_).take j)) ∧ (Fresh w.heap.size u7 ∧ ∀ g9, u7.ownBlock = some g9 → g9 = gb ∨ w.heap.size ≤ g9) ∧ Below w.heap.size w wx)
    case atStart => exact ⟨0, rfl, by omega, OI.nil _ _, by rw [List.take_zero, show stayS q [] = [] from rfl, List.append_nil]; exact HWS.out.below HB1.out, ⟨.inl ⟨_, _, rfl⟩, fun g9 hg9 => .inl (by injection hg9 with hg9; exact hg9.symm)⟩, HB1.out⟩
    case round =>
      obtain ⟨j, rfl, hj, hgo, hst, hfr, hb⟩ := hrel
      have HGO := Lib.hid hgo
      have HST := Lib.hid hst
      have HFR := Lib.hid hfr
      have HB := Lib.hid hb
      cases gk with
      | zero =>
        have l9 : ¬ ((j : Int) < (m : Int)) := by omega
        have hjm : j = m := by omega
        have hdt : (l.drop at_).take j = l.drop at_ := List.take_of_length_le (by rw [HDL.out]; omega)
        have HE1 : Hid (OI w.heap.size wr u6 (goneS q l)) := Lib.hid (by rw [HG1.out, ← hdt]; exact hgo)
        have HE2 : Hid (WS 96 B wr u7 (stayS q l)) := Lib.hid (by rw [HS1.out]; rw [hdt] at hst; exact hst)
        have hlr := HL.out.below hb
        obtain ⟨e0, e1, e2⟩ := hlr.cells
        have f2 := hlr.bk.frozen 2
        have HLR := Lib.hid hlr
        obtain ⟨ua, uc, hu⟩ := HE2.out.form
        obtain ⟨ga, gc, hgg⟩ := HE1.out.is.form
        obtain ⟨k1, hk1⟩ : ∃ k, (stayS q l).length = k := ⟨_, rfl⟩
        obtain ⟨k2, hk2⟩ : ∃ k, (goneS q l).length = k := ⟨_, rfl⟩
        rw [hk1] at hu
        rw [hk2] at hgg
        subst hu hgg
        clear hj hjm hdt hgo hst hfr hb hlr hk1 hk2 HGO HST
        go_wp2
        go_ret
        exact ⟨_, rfl, HE1.out.keep fun q' hq' => Below.heap_setCell wr ⟨a, 2, none⟩ _ q' (fun e => by
            have h1 := (World.ownsRow.lt HE1.out q' hq').1
            have h2 := HL.out.bk.lt
            have e : q' = a := e
            omega), ⟨_, HLR.out.turn HE2.out (Nat.le_trans (stayS_len q l) HL.out.le), fun q9 hq9 => (HFR.out.2 q9 hq9).imp (fun e9 => by rw [e9]; rfl) id⟩, (Chg.of_below (S := fun b => b = a) HB.out).setCell (p := ⟨a, 2, none⟩) rfl _⟩
      | succ g1 =>
        have hjm : j < m := by omega
        obtain ⟨y, hy⟩ : ∃ y, (l.drop at_)[j]? = some y := ⟨_, List.getElem?_eq_getElem (by rw [HDL.out]; exact hjm)⟩
        have hyl : l[at_ + j]? = some y := by rw [List.getElem?_drop] at hy; exact hy
        obtain ⟨x0', x1'⟩ := HXX.out (at_ + j) y hyl
        have x0 : wr.cell? ⟨gb, off + at_ * 2 + j * 2, none⟩ = some (nV y.1) := by
          rw [show off + at_ * 2 + j * 2 = off + (at_ + j) * 2 by omega]
          exact (hb.cell (p := ⟨gb, off + (at_ + j) * 2, none⟩) (World.block_lt_of_cell? _ _ x0')).trans x0'
        have x1 : wr.cell? ⟨gb, off + at_ * 2 + j * 2 + 1, none⟩ = some (nV y.2) := by
          rw [show off + at_ * 2 + j * 2 + 1 = off + (at_ + j) * 2 + 1 by omega]
          exact (hb.cell (p := ⟨gb, off + (at_ + j) * 2 + 1, none⟩) (World.block_lt_of_cell? _ _ x1')).trans x1'
        have l8 : (0 : Int) ≤ (j : Int) := by omega
        have l9 : (j : Int) < (m : Int) := by omega
        obtain ⟨j1, hj1⟩ : ∃ j1, j + 1 = j1 := ⟨_, rfl⟩
        have wk : IntKind.i64.wrap ((j : Int) + 1) = (j1 : Int) := by rw [show (j : Int) + 1 = (j1 : Int) by omega]; exact IntWalk.i64_in _ (by have := HX.out; have := HN.out; have := HM.out; omega)
        have HJ : Hid (j1 + g1 = m) := Lib.hid (by omega)
        have htk : (l.drop at_).take j1 = (l.drop at_).take j ++ [y] := by rw [← hj1, List.take_add_one, hy]; rfl
        obtain ⟨D, hD⟩ : ∃ D, goneS q ((l.drop at_).take j) = D := ⟨_, rfl⟩
        obtain ⟨E, hE⟩ : ∃ E, l.take at_ ++ stayS q ((l.drop at_).take j) = E := ⟨_, rfl⟩
        have HDD : Hid (goneS q ((l.drop at_).take j1) = D ++ (if q y then [y.1] else [])) := Lib.hid (by rw [htk, goneS_app, hD, goneS_one])
        have HEE : Hid (l.take at_ ++ stayS q ((l.drop at_).take j1) = E ++ (if q y then [] else [y])) := Lib.hid (by rw [htk, stayS_app, ← List.append_assoc, hE, stayS_one])
        have HDN : Hid (D.length ≤ 10000) := Lib.hid (by rw [← hD]; exact Nat.le_trans (goneS_len _ _) (by rw [List.length_take, HDL.out]; have := HX.out; have := HN.out; have := HM.out; omega))
        have HEN : Hid (E.length ≤ 20000) := Lib.hid (by rw [← hE, List.length_append]; have := stayS_len q ((l.drop at_).take j); rw [List.length_take, HDL.out] at this; rw [List.length_take]; have := HX.out; have := HN.out; have := HM.out; omega)
        rw [hD] at HGO
        rw [hE] at HST
        obtain ⟨yi, yt⟩ := y
        simp only at x0 x1 HDD
        obtain ⟨W2, hW2⟩ : ∃ W, wr.alloc (.cells #[nV yi, nV yt] 96) = W := ⟨_, rfl⟩
        obtain ⟨yb, hyb⟩ : ∃ b, wr.heap.size = b := ⟨_, rfl⟩
        have hb2 : Below wr.heap.size wr W2 := by rw [← hW2]; exact (Below.refl _ _).alloc (Nat.le_refl _) _
        have k2 : Bk W2 yb 96 #[nV yi, nV yt] := by rw [← hW2, ← hyb]; exact Bk.new _ _ _
        have z0 := k2.cell 0
        have z1 := k2.cell 1
        have HK2 := Lib.hid k2
        have HC2 := Lib.hid (HT.out.says W2 (hb.trans (hb2.mono hb.size)) (yi, yt))
        have HGO := Lib.hid (HGO.out.below hb2)
        have HST := Lib.hid (HST.out.below hb2)
        have HB2 := Lib.hid (hb.trans (hb2.mono hb.size))
        clear hj hjm hy hyl x0' x1' hj1 htk hD hE hgo hst hfr hb hb2 k2 HB
        cases hq : q (yi, yt) with
        | true =>
          rw [hq] at HC2
          rw [hq, if_pos rfl] at HDD HEE
          rw [List.append_nil] at HEE
          clear hq
          go_wp2_with fail
          try rw [hW2]
          refine HC2.out.mono ?_
          rintro e w3 ⟨rfl, hb3⟩
          have HGO := Lib.hid (HGO.out.below hb3)
          have HST := Lib.hid (HST.out.below hb3)
          have HB3 := Lib.hid (HB2.out.trans (hb3.mono HB2.out.size))
          have z0 := (HK2.out.heap (hb3.block yb HK2.out.lt)).cell 0
          clear hb3 hW2
          go_wp2_with (at_builtin; refine wpList_app_int w.heap.size u6 D yi w3.heap.size rfl _ _ rfl rfl (HGO.out.below ((Below.refl _ _).alloc (Nat.le_refl _) _)) rfl (Bk.new _ _ _) (by have := HDN.out; omega) (by have := HB3.out.size; simp; omega) ?_; intro g9 cap9 w9 o9 gr9)
          have hb9 : Below w.heap.size w w9 := (HB3.out.alloc HB3.out.size _).grown gr9 (by simp; exact Nat.le_trans HB3.out.size (Nat.le_succ _)) (fun k hk => (World.ownsRow.lt HGO.out k hk).1)
          have ho9 : OI w.heap.size w9 (.slice (some ⟨g9, 0, none⟩) (D.length + 1) cap9) (goneS q ((l.drop at_).take j1)) := by rw [HDD.out]; exact o9
          have hs9 : WS 96 B w9 u7 (l.take at_ ++ stayS q ((l.drop at_).take j1)) := by
            rw [HEE.out]
            have ba : Below w3.heap.size w3 (w3.alloc (.cells #[nV yi] 3)) := (Below.refl _ _).alloc (Nat.le_refl _) _
            have h1 := HST.out.below ba
            exact h1.keep fun k hk => gr9.block k (h1.lt k hk).2 (fun e => ws_int HST.out HGO.out k hk e.symm)
          have HO9 := Lib.hid ho9
          have HS9 := Lib.hid hs9
          have HB9 := Lib.hid hb9
          clear o9 gr9 hb9 ho9 hs9 HGO HST
          go_roundg g1
          case measure => exact Nat.lt_succ_self _
          case rel => exact ⟨j1, rfl, HJ.out, HO9.out, HS9.out, HFR.out, HB9.out⟩
        | false =>
          rw [hq] at HC2
          rw [hq, if_neg (by decide)] at HDD HEE
          rw [List.append_nil] at HDD
          clear hq
          go_wp2_with fail
          try rw [hW2]
          refine HC2.out.mono ?_
          rintro e w3 ⟨rfl, hb3⟩
          have HGO := Lib.hid (HGO.out.below hb3)
          have HST := Lib.hid (HST.out.below hb3)
          have HB3 := Lib.hid (HB2.out.trans (hb3.mono HB2.out.size))
          have z0 := (HK2.out.heap (hb3.block yb HK2.out.lt)).cell 0
          have z1 := (HK2.out.heap (hb3.block yb HK2.out.lt)).cell 1
          clear hb3 hW2
          go_wp2_with (at_builtin; refine wpList_app_pair ptW B u7 E (yi, yt) w3.heap.size rfl _ _ rfl rfl (HST.out.below ((Below.refl _ _).alloc (Nat.le_refl _) _)) rfl (Bk.new _ _ _) (by have := HEN.out; omega) (by have := HB3.out.size; have := HBB.out; simp; omega) ?_; intro g9 cap9 w9 o9 ap9 li9)
          have ba : Below w3.heap.size w3 (w3.alloc (.cells #[nV yi, nV yt] 96)) := (Below.refl _ _).alloc (Nat.le_refl _) _
          have hba := HB3.out.trans (ba.mono HB3.out.size)
          have hb9 : Below w.heap.size w w9 := hba.trans (HFR.out.1.app ap9 hba.size)
          have hf9 : Fresh w.heap.size (.slice g9 (E.length + 1) cap9) ∧ ∀ q9, (Value.slice g9 (E.length + 1) cap9).ownBlock = some q9 → q9 = gb ∨ w.heap.size ≤ q9 := ⟨HFR.out.1.step li9 hba.size, fun q9 hq9 => (li9 q9 hq9).elim (fun h9 => .inr (Nat.le_trans hba.size h9)) fun h9 => HFR.out.2 q9 h9.1⟩
          have ho9 : OI w.heap.size w9 u6 (goneS q ((l.drop at_).take j1)) := by
            rw [HDD.out]
            have h1 := HGO.out.below ba
            refine h1.keep fun k hk => ap9.block k (World.ownsRow.lt h1 k hk).2 (fun e => ws_int HST.out HGO.out k e hk)
          have hs9 : WS 96 B w9 (.slice g9 (E.length + 1) cap9) (l.take at_ ++ stayS q ((l.drop at_).take j1)) := by rw [HEE.out]; exact o9
          have HO9 := Lib.hid ho9
          have HS9 := Lib.hid hs9
          have HB9 := Lib.hid hb9
          have HF9 := Lib.hid hf9
          clear o9 ap9 li9 hb9 ho9 hs9 hf9 HGO HST ba hba
          go_roundg g1
          case measure => exact Nat.lt_succ_self _
          case rel => exact ⟨j1, rfl, HJ.out, HO9.out, HS9.out, HF9.out, HB9.out⟩
theorem take_no (h : Nb w v) (f : Value) : Calls Try.prog 51 #[v, f] w fun e w' => e = .returned (.slice none 0 0) ∧ w = w' := by
  have HG := Lib.hid (given_no h)
  clear h
  go_enter Try.func51, Try.ntmps51
  go_wp2_with fail
  refine HG.out.mono ?_
  rintro e w1 ⟨rfl, rfl⟩
  go_wp2
  go_ret
  exact ⟨rfl, rfl⟩
def LeaveP (w : World) (v : Value) (B a most : Nat) (l' : List Wt) (y : Bool) (e : Ending) (w' : World) : Prop := e = .returned (.bool y) ∧ (∃ v', LC B w' a most v' l' ∧ Own w v v') ∧ Chg (fun b => b = a) w w'
set_option maxHeartbeats 4000000 in
theorem leave_any (h : LC B w a most v l) (hB : B ≤ w.heap.size) (id : Int) : Calls Try.prog 31 #[ptr a, nV id] w (LeaveP w v B a most (leaveS l id).1 (leaveS l id).2) := by
  obtain ⟨W, hW⟩ : ∃ W, w.alloc (.cells #[nV id] 3) = W := ⟨_, rfl⟩
  obtain ⟨b, hbb⟩ : ∃ b, w.heap.size = b := ⟨_, rfl⟩
  have hb : Below w.heap.size w W := by rw [← hW]; exact (Below.refl _ _).alloc (Nat.le_refl _) _
  have kb : Bk W b 3 #[nV id] := by rw [← hW, ← hbb]; exact Bk.new _ _ _
  have HT := Lib.hid (take_any (h.below hb) (Nat.le_trans hB hb.size) (testL kb))
  have HB := Lib.hid hb
  clear h hb kb
  go_enter Try.func31, Try.ntmps31
  go_wp2_with fail
  try rw [hW]
  try rw [hbb]
  refine HT.out.mono ?_
  rintro e w1 ⟨r, rfl, h1, h2, h3⟩
  have HF : Hid (LeaveP w v B a most (leaveS l id).1 (leaveS l id).2 (.returned (.bool (decide (0 < (goneS (isId id) l).length)))) w1) := Lib.hid ⟨rfl, (h2.imp fun _ q9 => ⟨q9.1, fun g9 hg9 => (q9.2 g9 hg9).imp (fun h9 => h9) fun h9 => Nat.le_trans HB.out.size h9⟩), (Chg.of_below HB.out).trans' h3 (fun _ _ e => e)⟩
  obtain ⟨ra, rc, rfl⟩ := h1.is.form
  clear h1 h2 h3 hW hbb
  go_wp2
  go_ret
  exact HF.out
set_option maxHeartbeats 4000000 in
theorem late_any (h : LC B w a most v l) (hB : B ≤ w.heap.size) (now : Int) : Calls Try.prog 34 #[ptr a, nV now] w (TakeP w v B a most (isLate now) l) := by
  obtain ⟨W, hW⟩ : ∃ W, w.alloc (.cells #[nV now] 3) = W := ⟨_, rfl⟩
  obtain ⟨b, hbb⟩ : ∃ b, w.heap.size = b := ⟨_, rfl⟩
  have hb : Below w.heap.size w W := by rw [← hW]; exact (Below.refl _ _).alloc (Nat.le_refl _) _
  have kb : Bk W b 3 #[nV now] := by rw [← hW, ← hbb]; exact Bk.new _ _ _
  have HT := Lib.hid (take_any (h.below hb) (Nat.le_trans hB hb.size) (testT kb))
  have HB := Lib.hid hb
  clear h hb kb
  go_enter Try.func34, Try.ntmps34
  go_wp2_with fail
  try rw [hW]
  try rw [hbb]
  refine HT.out.mono ?_
  rintro e w1 ⟨r, rfl, h1, h2, h3⟩
  have HF : Hid (TakeP w v B a most (isLate now) l (.returned r) w1) := Lib.hid ⟨r, rfl, h1.mono HB.out.size, (h2.imp fun _ q9 => ⟨q9.1, fun g9 hg9 => (q9.2 g9 hg9).imp (fun h9 => h9) fun h9 => Nat.le_trans HB.out.size h9⟩), (Chg.of_below HB.out).trans' h3 (fun _ _ e => e)⟩
  clear h1 h2 h3 hW hbb
  go_wp2
  go_ret
  exact HF.out
theorem leave_no (h : Nb w v) (id : Int) : Calls Try.prog 31 #[v, nV id] w (RdP (.bool false) w) := by
  obtain ⟨W, hW⟩ : ∃ W, w.alloc (.cells #[nV id] 3) = W := ⟨_, rfl⟩
  have hb : Below w.heap.size w W := by rw [← hW]; exact (Below.refl _ _).alloc (Nat.le_refl _) _
  have HT := Lib.hid fun f => take_no (h.below hb) f
  have HB := Lib.hid hb
  clear h hb
  go_enter Try.func31, Try.ntmps31
  go_wp2_with fail
  try rw [hW]
  refine (HT.out _).mono ?_
  rintro e w1 ⟨rfl, rfl⟩
  clear hW
  go_wp2
  go_ret
  exact ⟨rfl, HB.out⟩
theorem late_no (h : Nb w v) (now : Int) : Calls Try.prog 34 #[v, nV now] w (RdP (.slice none 0 0) w) := by
  obtain ⟨W, hW⟩ : ∃ W, w.alloc (.cells #[nV now] 3) = W := ⟨_, rfl⟩
  have hb : Below w.heap.size w W := by rw [← hW]; exact (Below.refl _ _).alloc (Nat.le_refl _) _
  have HT := Lib.hid fun f => take_no (h.below hb) f
  have HB := Lib.hid hb
  clear h hb
  go_enter Try.func34, Try.ntmps34
  go_wp2_with fail
  try rw [hW]
  refine (HT.out _).mono ?_
  rintro e w1 ⟨rfl, rfl⟩
  clear hW
  go_wp2
  go_ret
  exact ⟨rfl, HB.out⟩
end
end Go.Proofs.Ytochjbmighijgaa.LN
