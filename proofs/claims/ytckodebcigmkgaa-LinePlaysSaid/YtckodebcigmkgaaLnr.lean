/- The document's line: Join, Leave, First, Late. Conditions: as each. -/
import Derived.Test.YtckodebcigmkgaaLnq
namespace Go.Proofs.Ytckodebcigmkgaa.LN
open Go.ChangeShapes Go.WideShapes Go.ChangeAt Go.RowKit
open Go.Proofs.Ytckodebcigmkgaa.SL Go.Proofs.Ytckodebcigmkgaa.RW
set_option maxRecDepth 100000
set_option linter.unusedVariables false
set_option linter.unusedSimpArgs false

theorem len_both (q : Wt → Bool) (l : List Wt) : (stayS q l).length + (goneS q l).length = l.length := by
  induction l with
  | nil => rfl
  | cons p t ih =>
    rw [show p :: t = [p] ++ t from rfl, stayS_app, goneS_app, stayS_one, goneS_one]
    simp only [List.length_append]
    cases q p <;> simp <;> omega
section
variable {B : Nat} {w w' : World} {r most : Nat} {v : Value} {l : List Wt}
def RJoinP (w : World) (B r most : Nat) (v : Value) (l' : List Wt) (x : Int) (e : Ending) (w' : World) : Prop :=
  e = .returned (nV x) ∧ (∃ v', RC B w' r most v' l') ∧ Chg (fun b => b = r ∨ v.ownBlock = some b) w w'
theorem RC.app {o : Obj} {w3 : World} (h : RC B w r most v l) (ap : App 60 (w.alloc o) w3 v) : Bk w3 r 56 #[v, nV (most : Int)] :=
  (h.bk.alloc o).heap (ap.block r (h.bk.alloc o).lt fun e => h.ne r e rfl)
theorem rjoin_end {o : Obj} {w2 w3 : World} {u : Value} {p : Wt} (hb : Below w.heap.size w w2) (h : RC B w2 r most v l) (ap : App 60 (w2.alloc o) w3 v) (o3 : WS 60 B w3 u (l ++ [p])) (hm : l.length < most) :
    RJoinP w B r most v (l ++ [p]) 0 (.returned (nV 0)) (w3.setCell ⟨r, 0, none⟩ u) := by
  have hk := h.app ap
  have far : ∀ k, k ≠ r → (w3.setCell ⟨r, 0, none⟩ u).heap[k]? = w3.heap[k]? := fun k hk => Below.heap_setCell w3 ⟨r, 0, none⟩ u k hk
  have hu : ∀ g, u.ownBlock = some g → g ≠ r := by
    intro g hg e
    obtain ⟨cur, hc⟩ := o3.ty g hg
    unfold Bk at hk
    rw [e, hk] at hc
    injection hc with hc
    injection hc with _ hc
    exact absurd hc (by decide)
  have hba : Below w.heap.size w (w2.alloc o) := hb.alloc hb.size o
  refine ⟨rfl, ⟨u, ⟨hk.set_ 0 u, o3.keep fun g hg => far g (hu g hg), by rw [List.length_append]; exact hm, h.ma, h.rb⟩⟩, ⟨ap.os.trans hba.os, ap.tape.trans hba.tape, ap.output.trans hba.output, ?_, fun k hk1 hs => ?_⟩⟩
  · have h1 := hba.size
    have h2 := ap.size
    simp [World.setCell]; omega
  · exact (far k (fun e => hs (.inl e))).trans ((ap.block k (Nat.lt_of_lt_of_le hk1 hba.size) (fun e => hs (.inr e))).trans (hba.block k hk1))
set_option maxHeartbeats 4000000 in
theorem rjoin_any (h : RC B w r most v l) (id till : Int) (hB : B ≤ w.heap.size) :
    Calls Try.prog 11 #[ptr r, nV id, nV till] w (RJoinP w B r most v (joinS most l id till).1 (joinS most l id till).2) := by
  have HL := Lib.hid h
  by_cases ht : till < 0 ∨ 1099511627776 < till
  · have hj : joinS most l id till = (l, 1) := if_pos ht
    have HF : Hid (RJoinP w B r most v (joinS most l id till).1 (joinS most l id till).2 (.returned (nV 1)) w) := Lib.hid (by rw [hj]; exact ⟨rfl, ⟨v, h⟩, Chg.refl _ _⟩)
    obtain ⟨Q, hQ⟩ : ∃ Q, RJoinP w B r most v (joinS most l id till).1 (joinS most l id till).2 = Q := ⟨_, rfl⟩
    rw [hQ] at HF ⊢
    clear hj hQ h
    rcases ht with h1 | h2
    · go_enter Try.func11, Try.ntmps11
      go_wp2
      exact HF.out
    · have h1 : ¬ till < 0 := by omega
      go_enter Try.func11, Try.ntmps11
      go_wp2
      exact HF.out
  · have t1 : ¬ till < 0 := fun e => ht (.inl e)
    have t2 : ¬ 1099511627776 < till := fun e => ht (.inr e)
    have HP := Lib.hid (rplace_any h id)
    by_cases hp : 0 ≤ placeS l id
    · have hj : joinS most l id till = (l, 9) := by unfold joinS; rw [if_neg ht, if_pos hp]
      have HF : Hid (∀ w', Below w.heap.size w w' → RJoinP w B r most v (joinS most l id till).1 (joinS most l id till).2 (.returned (nV 9)) w') := Lib.hid (fun w' hb => by rw [hj]; exact ⟨rfl, ⟨v, h.below hb⟩, .of_below hb⟩)
      obtain ⟨Q, hQ⟩ : ∃ Q, RJoinP w B r most v (joinS most l id till).1 (joinS most l id till).2 = Q := ⟨_, rfl⟩
      simp only [hQ] at HF
      rw [hQ]
      obtain ⟨P, hP⟩ : ∃ P, placeS l id = P := ⟨_, rfl⟩
      rw [hP] at HP hp
      clear hj hQ h ht hP
      go_enter Try.func11, Try.ntmps11
      go_wp2_with fail
      refine HP.out.mono ?_
      rintro e w1 ⟨rfl, hb⟩
      have HB := Lib.hid hb
      clear hb
      go_wp2
      exact HF.out _ HB.out
    · have hp2 : placeS l id < 0 := by omega
      obtain ⟨n, hn⟩ : ∃ n, l.length = n := ⟨_, rfl⟩
      have HN := Lib.hid hn
      obtain ⟨va, vc, hva⟩ := h.ws.form
      rw [hn] at hva
      by_cases hm : most ≤ n
      · have hj : joinS most l id till = (l, 11) := by unfold joinS; rw [if_neg ht, if_neg hp, if_pos (by rw [hn]; exact hm)]
        have HF : Hid (∀ w', Below w.heap.size w w' → RJoinP w B r most v (joinS most l id till).1 (joinS most l id till).2 (.returned (nV 11)) w') := Lib.hid (fun w' hb => by rw [hj]; exact ⟨rfl, ⟨v, h.below hb⟩, .of_below hb⟩)
        obtain ⟨Q, hQ⟩ : ∃ Q, RJoinP w B r most v (joinS most l id till).1 (joinS most l id till).2 = Q := ⟨_, rfl⟩
        simp only [hQ] at HF
        rw [hQ]
        obtain ⟨P, hP⟩ : ∃ P, placeS l id = P := ⟨_, rfl⟩
        rw [hP] at HP hp2
        have l3 : ¬ (0 : Int) ≤ P := by omega
        have l4 : (most : Int) ≤ (n : Int) := by omega
        subst hva
        clear hj hQ h ht hP hp hn
        go_enter Try.func11, Try.ntmps11
        go_wp2_with fail
        refine HP.out.mono ?_
        rintro e w1 ⟨rfl, hb⟩
        have HB := Lib.hid hb
        obtain ⟨d0, d1⟩ := (HL.out.below hb).cells
        clear hb
        go_wp2_with fail
        go_quiet (fail)
        go_wp2
        exact HF.out _ (HB.out.trans ((below_drewN _ _ _).mono HB.out.size))
      · have hj : joinS most l id till = (l ++ [(id, till)], 0) := by unfold joinS; rw [if_neg ht, if_neg hp, if_neg (by rw [hn]; exact hm)]
        rw [hj]
        obtain ⟨P, hP⟩ : ∃ P, placeS l id = P := ⟨_, rfl⟩
        rw [hP] at HP hp2
        have l3 : ¬ (0 : Int) ≤ P := by omega
        have l4 : ¬ (most : Int) ≤ (n : Int) := by omega
        have HM := Lib.hid hm
        subst hva
        have HBB := Lib.hid hB
        clear hj h ht hP hp hn
        go_enter Try.func11, Try.ntmps11
        go_wp2_with fail
        refine HP.out.mono ?_
        rintro e w1 ⟨rfl, hb⟩
        have HB := Lib.hid hb
        have HL1 := Lib.hid (HL.out.below hb)
        obtain ⟨d0, d1⟩ := (HL.out.below hb).cells
        clear hb
        go_wp2_with fail
        go_quiet (fail)
        obtain ⟨W2, hW2⟩ : ∃ W, w1.drewN nq = W := ⟨_, rfl⟩
        rw [hW2]
        have hb2 : Below w1.heap.size w1 W2 := by rw [← hW2]; exact below_drewN _ _ _
        have HL2 := Lib.hid (HL1.out.below hb2)
        have HB2 := Lib.hid (HB.out.trans (hb2.mono HB.out.size))
        obtain ⟨e0, e1⟩ := HL2.out.cells
        clear hW2 hb2 d0 d1
        go_wp2_with (at_builtin; refine wpList_app_pair ptS B (.slice va n vc) l (id, till) W2.heap.size rfl _ _ rfl rfl ((HL2.out.ws).below ((Below.refl _ _).alloc (Nat.le_refl _) _)) rfl (Bk.new _ _ _) (by have := HL2.out.le; have := HL2.out.ma; omega) (by have := HBB.out; have := HB2.out.size; simp; omega) ?_; intro vb vd w3 o3 ap3 li3; have hk3 := HL2.out.app ap3; have e3 := hk3.cell 0; have f3 := hk3.frozen 0)
        go_ret
        exact rjoin_end HB2.out HL2.out ap3 o3 (by have := HM.out; have := HN.out; omega)
def RLeaveP (w : World) (B r most : Nat) (l' : List Wt) (y : Bool) (e : Ending) (w' : World) : Prop := e = .returned (.bool y) ∧ (∃ v', RC B w' r most v' l') ∧ Chg (fun b => b = r) w w'
set_option maxHeartbeats 4000000 in
theorem rleave_any (h : RC B w r most v l) (hB : B ≤ w.heap.size) (id : Int) : Calls Try.prog 15 #[ptr r, nV id] w (RLeaveP w B r most (leaveS l id).1 (leaveS l id).2) := by
  obtain ⟨va, vc, rfl⟩ := h.ws.form
  obtain ⟨n, hn⟩ : ∃ n, l.length = n := ⟨_, rfl⟩
  have HL := Lib.hid h
  rw [hn] at HL
  have HN := Lib.hid hn
  have HX : Hid (n ≤ 10000) := Lib.hid (by have := h.le; have := h.ma; omega)
  have HBB := Lib.hid hB
  obtain ⟨q, hqq⟩ : ∃ q, isId id = q := ⟨_, rfl⟩
  have HQ := Lib.hid hqq
  have hle : leaveS l id = (stayS q l, decide (0 < (goneS q l).length)) := by rw [← hqq]; rfl
  rw [hle]
  clear h hn hqq hle
  go_enter Try.func15, Try.ntmps15
  go_wp2
  go_loopg [5, 6] n (fun gk u5 u6 wx => ∃ j : Nat, u6 = .int .i64 (j : Int) ∧ j + gk = n ∧ WS 60 B wx u5 (stayS q (l.take j)) ∧ Fresh w.heap.size u5 ∧ Below w.heap.size w wx)
  case atStart => exact ⟨0, rfl, by omega, WS.nil _ _ _, .inr fun g hg => (by cases hg), Below.refl _ _⟩
  case round =>
    obtain ⟨j, rfl, hj, hst, hfr, hb⟩ := hrel
    have HST := Lib.hid hst
    have HFR := Lib.hid hfr
    have HB := Lib.hid hb
    obtain ⟨c0, c1⟩ := (HL.out.below hb).cells
    cases gk with
    | zero =>
      have l1 : ¬ ((j : Int) < (n : Int)) := by omega
      have hw : WS 60 B wr u5 (stayS q l) := by
        rw [List.take_of_length_le (by have := HN.out; omega)] at hst; exact hst
      obtain ⟨ua, uc, hu⟩ := hw.form
      obtain ⟨k, hk⟩ : ∃ k, (stayS q l).length = k := ⟨_, rfl⟩
      rw [hk] at hu
      subst hu
      have HW := Lib.hid hw
      have hlr := HL.out.below hb
      have f0 := hlr.bk.frozen 0
      have HLR := Lib.hid hlr
      have HKN : Hid (decide (k < n) = decide (0 < (goneS q l).length)) := Lib.hid (by
        rw [decide_eq_decide]
        have := len_both q l
        have := HN.out
        omega)
      have HKM : Hid ((stayS q l).length ≤ most) := Lib.hid (Nat.le_trans (stayS_len q l) (by rw [HN.out]; have := HL.out.le; rw [HN.out] at this; exact this))
      clear hj hst hfr hb hw hk hlr
      go_wp2
      go_ret
      exact ⟨by rw [← HKN.out]; rfl, ⟨_, HLR.out.turn HW.out HKM.out⟩, (Chg.of_below (S := fun b => b = r) HB.out).setCell (p := ⟨r, 0, none⟩) rfl _⟩
    | succ g1 =>
      have hjl : j < l.length := by have := HN.out; omega
      obtain ⟨gb, off, cap, he, hc, hx⟩ := (HL.out.below hb).ws.inv (by omega)
      rw [HN.out] at he
      injection he with e1 _ e3
      subst e1 e3
      obtain ⟨y, hy⟩ : ∃ y, l[j] = y := ⟨_, rfl⟩
      have hyj : l[j]? = some y := by rw [List.getElem?_eq_getElem hjl, hy]
      obtain ⟨x0, x1⟩ := hx j y hyj
      have l0 : (0 : Int) ≤ (j : Int) := by omega
      have l1 : (j : Int) < (n : Int) := by omega
      obtain ⟨j1, hj1⟩ : ∃ j1, j + 1 = j1 := ⟨_, rfl⟩
      have wk : IntKind.i64.wrap ((j : Int) + 1) = (j1 : Int) := by rw [show (j : Int) + 1 = (j1 : Int) by omega]; exact IntWalk.i64_in _ (by have := HX.out; omega)
      have HJ : Hid (j1 + g1 = n) := Lib.hid (by omega)
      have hsa : stayS q (l.take j1) = stayS q (l.take j) ++ (if q y then [] else [y]) := by rw [← hj1, List.take_add_one, hyj, Option.toList, stayS_app, stayS_one]
      obtain ⟨E, hE⟩ : ∃ E, stayS q (l.take j) = E := ⟨_, rfl⟩
      have HEN : Hid (E.length ≤ 10000) := Lib.hid (by rw [← hE]; have := stayS_len q (l.take j); rw [List.length_take] at this; have := HX.out; omega)
      rw [hE] at HST hsa
      have HSA := Lib.hid hsa
      obtain ⟨yi, yt⟩ := y
      simp only at x0 x1
      clear hx hc hy hyj hjl hj hj1 hst hfr hb hsa hE
      by_cases hyd : yi = id
      · have hq : q (yi, yt) = true := by rw [← HQ.out]; unfold isId; exact decide_eq_true hyd
        rw [hq, if_pos rfl, List.append_nil] at HSA
        subst hyd
        clear hq
        have HST := Lib.hid (show WS 60 B wr u5 (stayS q (l.take j1)) by rw [HSA.out]; exact HST.out)
        go_wp2
        go_roundg g1
        case measure => exact Nat.lt_succ_self _
        case rel => exact ⟨j1, rfl, HJ.out, HST.out, HFR.out, HB.out⟩
      · have hq : q (yi, yt) = false := by rw [← HQ.out]; unfold isId; exact decide_eq_false hyd
        rw [hq, if_neg (by decide)] at HSA
        have l3 : (yi == id) = false := beq_eq_false_iff_ne.2 hyd
        clear hq
        go_wp2_with (at_builtin; refine wpList_app_pair ptS B u5 E (yi, yt) wr.heap.size rfl _ _ rfl rfl (HST.out.below ((Below.refl _ _).alloc (Nat.le_refl _) _)) rfl (Bk.new _ _ _) (by have := HEN.out; omega) (by have := HB.out.size; have := HBB.out; simp; omega) ?_; intro g9 cap9 w9 o9 ap9 li9)
        have ba : Below wr.heap.size wr (wr.alloc (.cells #[nV yi, nV yt] 60)) := (Below.refl _ _).alloc (Nat.le_refl _) _
        have hba := HB.out.trans (ba.mono HB.out.size)
        have hb9 : Below w.heap.size w w9 := hba.trans (HFR.out.app ap9 hba.size)
        have hf9 : Fresh w.heap.size (.slice g9 (E.length + 1) cap9) := HFR.out.step li9 hba.size
        have hs9 : WS 60 B w9 (.slice g9 (E.length + 1) cap9) (stayS q (l.take j1)) := by rw [HSA.out]; exact o9
        have HS9 := Lib.hid hs9
        have HB9 := Lib.hid hb9
        have HF9 := Lib.hid hf9
        clear o9 ap9 li9 hb9 hs9 hf9 HST ba hba
        go_wp2
        go_roundg g1
        case measure => exact Nat.lt_succ_self _
        case rel => exact ⟨j1, rfl, HJ.out, HS9.out, HF9.out, HB9.out⟩
def RFirstP (w : World) (B r most : Nat) (l' : List Wt) (x : Int) (y : Bool) (e : Ending) (w' : World) : Prop := e = .returned (.tuple #[nV x, .bool y]) ∧ (∃ v', RC B w' r most v' l') ∧ Chg (fun b => b = r) w w'
set_option maxHeartbeats 4000000 in
theorem rfirst_any (h : RC B w r most v l) (hB : B ≤ w.heap.size) (hd : Nd l) : Calls Try.prog 13 #[ptr r] w (RFirstP w B r most (firstS l).1 (firstS l).2.1 (firstS l).2.2) := by
  obtain ⟨c0, c1⟩ := h.cells
  have HL := Lib.hid h
  cases l with
  | nil =>
    obtain ⟨va, vc, rfl⟩ := h.ws.form
    clear h
    go_enter Try.func13, Try.ntmps13
    go_wp2
    go_ret2
    exact ⟨rfl, ⟨_, HL.out⟩, Chg.refl _ _⟩
  | cons p t =>
    obtain ⟨g, off, cap, rfl, hc, hx⟩ := h.ws.inv (by simp)
    obtain ⟨x0, x1⟩ := hx 0 p rfl
    rw [Nat.zero_mul, Nat.add_zero] at x0 x1
    obtain ⟨n, hn⟩ : ∃ n, (p :: t).length = n := ⟨_, rfl⟩
    rw [hn] at HL c0
    have hn1 : 1 ≤ n := by rw [← hn]; simp
    have l0 : (0 : Int) < (n : Int) := by omega
    have l1 : ¬ (n : Int) = 0 := by omega
    have HLE := Lib.hid (rleave_any HL.out hB p.1)
    have hle : (leaveS (p :: t) p.1).1 = t := by
      unfold leaveS
      show stayS (isId p.1) ([p] ++ t) = t
      rw [stayS_app, stayS_one, (goneS_none (q := isId p.1) fun q hq => by unfold isId; exact decide_eq_false ((hd.tail.2 q hq))).2]
      have : isId p.1 p = true := by unfold isId; simp
      rw [this]; rfl
    rw [hle] at HLE
    obtain ⟨bb, hbb⟩ : ∃ b, (leaveS (p :: t) p.1).2 = b := ⟨_, rfl⟩
    rw [hbb] at HLE
    obtain ⟨pi, pt⟩ := p
    simp only at x0 x1 HLE
    clear h hx hn hle hbb hc hd
    go_enter Try.func13, Try.ntmps13
    go_wp2_with fail
    refine HLE.out.mono ?_
    rintro e w1 ⟨rfl, h1, h2⟩
    have H1 := Lib.hid h1
    have H2 := Lib.hid h2
    clear h1 h2
    go_wp2
    go_ret2
    exact ⟨rfl, H1.out, H2.out⟩
def RLateP (w : World) (B r most : Nat) (q : Wt → Bool) (l : List Wt) (e : Ending) (w' : World) : Prop :=
  ∃ d, e = .returned d ∧ OI w.heap.size w' d (goneS q l) ∧ (∃ v', RC B w' r most v' (stayS q l)) ∧ Chg (fun b => b = r) w w'
theorem ws_intS {u x : Value} {N : Nat} {d : List Int} (hs : WS 60 B w u l) (ho : OI N w x d) (g : Nat) (hg : u.ownBlock = some g) : x.ownBlock ≠ some g := by
  intro hv
  obtain ⟨cur, hc⟩ := hs.ty g hg
  rcases ho.2 with ⟨rfl, _⟩ | ⟨q, cap, cu, rfl, hb, hh, _⟩
  · cases hv
  · injection hv with hv
    subst hv
    rw [hh] at hc
    injection hc with hc
    injection hc with _ hc
    exact absurd hc (by decide)
set_option maxHeartbeats 8000000 in
theorem rlate_any (h : RC B w r most v l) (hB : B ≤ w.heap.size) (now : Int) : Calls Try.prog 18 #[ptr r, nV now] w (RLateP w B r most (isLate now) l) := by
  obtain ⟨va, vc, rfl⟩ := h.ws.form
  obtain ⟨n, hn⟩ : ∃ n, l.length = n := ⟨_, rfl⟩
  have HL := Lib.hid h
  rw [hn] at HL
  have HN := Lib.hid hn
  have HX : Hid (n ≤ 10000) := Lib.hid (by have := h.le; have := h.ma; omega)
  have HBB := Lib.hid hB
  obtain ⟨q, hqq⟩ : ∃ q, isLate now = q := ⟨_, rfl⟩
  have HQ := Lib.hid hqq
  rw [hqq]
  clear h hn hqq
  go_enter Try.func18, Try.ntmps18
  go_wp2
  go_loopg [5, 6, 7] n (fun gk u5 u6 u7 wx => ∃ j : Nat, u7 = .int .i64 (j : Int) ∧ j + gk = n ∧ OI w.heap.size wx u5 (goneS q (l.take j)) ∧ WS 60 B wx u6 (stayS q (l.take j)) ∧ Fresh w.heap.size u6 ∧ Below w.heap.size w wx)
  case atStart => exact ⟨0, rfl, by omega, OI.nil _ _, WS.nil _ _ _, .inr fun g hg => (by cases hg), Below.refl _ _⟩
  case round =>
    obtain ⟨j, rfl, hj, hgo, hst, hfr, hb⟩ := hrel
    have HGO := Lib.hid hgo
    have HST := Lib.hid hst
    have HFR := Lib.hid hfr
    have HB := Lib.hid hb
    obtain ⟨c0, c1⟩ := (HL.out.below hb).cells
    cases gk with
    | zero =>
      have l1 : ¬ ((j : Int) < (n : Int)) := by omega
      have htk : l.take j = l := List.take_of_length_le (by have := HN.out; omega)
      have hw : WS 60 B wr u6 (stayS q l) := by rw [htk] at hst; exact hst
      have hg : OI w.heap.size wr u5 (goneS q l) := by rw [htk] at hgo; exact hgo
      obtain ⟨ua, uc, hu⟩ := hw.form
      obtain ⟨ga, gc, hgg⟩ := hg.is.form
      obtain ⟨k, hk⟩ : ∃ k, (stayS q l).length = k := ⟨_, rfl⟩
      obtain ⟨k2, hk2⟩ : ∃ k, (goneS q l).length = k := ⟨_, rfl⟩
      rw [hk] at hu
      rw [hk2] at hgg
      subst hu hgg
      have HW := Lib.hid hw
      have HG := Lib.hid hg
      have hlr := HL.out.below hb
      have f0 := hlr.bk.frozen 0
      have HLR := Lib.hid hlr
      have HKM : Hid ((stayS q l).length ≤ most) := Lib.hid (Nat.le_trans (stayS_len q l) (by rw [HN.out]; have := HL.out.le; rw [HN.out] at this; exact this))
      clear hj hst hgo hfr hb hw hg hk hk2 hlr htk
      go_wp2
      go_ret
      exact ⟨_, rfl, HG.out.keep fun q' hq' => Below.heap_setCell wr ⟨r, 0, none⟩ _ q' (fun e => by
            have h1 := (World.ownsRow.lt HG.out q' hq').1
            have h2 := HL.out.bk.lt
            have e : q' = r := e
            omega), ⟨_, HLR.out.turn HW.out HKM.out⟩, (Chg.of_below (S := fun b => b = r) HB.out).setCell (p := ⟨r, 0, none⟩) rfl _⟩
    | succ g1 =>
      have hjl : j < l.length := by have := HN.out; omega
      obtain ⟨gb, off, cap, he, hc, hx⟩ := (HL.out.below hb).ws.inv (by omega)
      rw [HN.out] at he
      injection he with e1 _ e3
      subst e1 e3
      obtain ⟨y, hy⟩ : ∃ y, l[j] = y := ⟨_, rfl⟩
      have hyj : l[j]? = some y := by rw [List.getElem?_eq_getElem hjl, hy]
      obtain ⟨x0, x1⟩ := hx j y hyj
      have l0 : (0 : Int) ≤ (j : Int) := by omega
      have l1 : (j : Int) < (n : Int) := by omega
      obtain ⟨j1, hj1⟩ : ∃ j1, j + 1 = j1 := ⟨_, rfl⟩
      have wk : IntKind.i64.wrap ((j : Int) + 1) = (j1 : Int) := by rw [show (j : Int) + 1 = (j1 : Int) by omega]; exact IntWalk.i64_in _ (by have := HX.out; omega)
      have HJ : Hid (j1 + g1 = n) := Lib.hid (by omega)
      have hsa : stayS q (l.take j1) = stayS q (l.take j) ++ (if q y then [] else [y]) := by rw [← hj1, List.take_add_one, hyj, Option.toList, stayS_app, stayS_one]
      have hga : goneS q (l.take j1) = goneS q (l.take j) ++ (if q y then [y.1] else []) := by rw [← hj1, List.take_add_one, hyj, Option.toList, goneS_app, goneS_one]
      obtain ⟨E, hE⟩ : ∃ E, stayS q (l.take j) = E := ⟨_, rfl⟩
      obtain ⟨D, hD⟩ : ∃ D, goneS q (l.take j) = D := ⟨_, rfl⟩
      have HEN : Hid (E.length ≤ 10000) := Lib.hid (by rw [← hE]; have := stayS_len q (l.take j); rw [List.length_take] at this; have := HX.out; omega)
      have HDN : Hid (D.length ≤ 10000) := Lib.hid (by rw [← hD]; have := goneS_len q (l.take j); rw [List.length_take] at this; have := HX.out; omega)
      rw [hE] at HST hsa
      rw [hD] at HGO hga
      have HSA := Lib.hid hsa
      have HGA := Lib.hid hga
      obtain ⟨yi, yt⟩ := y
      simp only at x0 x1 HGA
      clear hx hc hy hyj hjl hj hj1 hst hgo hfr hb hsa hga hE hD
      by_cases hyd : yt ≤ now
      · have hq : q (yi, yt) = true := by rw [← HQ.out]; unfold isLate; exact decide_eq_true hyd
        rw [hq, if_pos rfl] at HSA HGA
        rw [List.append_nil] at HSA
        clear hq
        go_wp2_with (at_builtin; refine wpList_app_int w.heap.size u5 D yi wr.heap.size rfl _ _ rfl rfl (HGO.out.below ((Below.refl _ _).alloc (Nat.le_refl _) _)) rfl (Bk.new _ _ _) (by have := HDN.out; omega) (by have := HB.out.size; simp; omega) ?_; intro g9 cap9 w9 o9 gr9)
        have ba : Below wr.heap.size wr (wr.alloc (.cells #[nV yi] 3)) := (Below.refl _ _).alloc (Nat.le_refl _) _
        have hb9 : Below w.heap.size w w9 := (HB.out.alloc HB.out.size _).grown gr9 (by simp; exact Nat.le_trans HB.out.size (Nat.le_succ _)) (fun k hk => (World.ownsRow.lt HGO.out k hk).1)
        have ho9 : OI w.heap.size w9 (.slice (some ⟨g9, 0, none⟩) (D.length + 1) cap9) (goneS q (l.take j1)) := by rw [HGA.out]; exact o9
        have hs9 : WS 60 B w9 u6 (stayS q (l.take j1)) := by
          rw [HSA.out]
          have h1 := HST.out.below ba
          exact h1.keep fun k hk => gr9.block k (h1.lt k hk).2 (fun e => ws_intS HST.out HGO.out k hk e.symm)
        have HO9 := Lib.hid ho9
        have HS9 := Lib.hid hs9
        have HB9 := Lib.hid hb9
        clear o9 gr9 hb9 ho9 hs9 HGO HST ba
        go_wp2
        go_roundg g1
        case measure => exact Nat.lt_succ_self _
        case rel => exact ⟨j1, rfl, HJ.out, HO9.out, HS9.out, HFR.out, HB9.out⟩
      · have hq : q (yi, yt) = false := by rw [← HQ.out]; unfold isLate; exact decide_eq_false hyd
        rw [hq, if_neg (by decide)] at HSA HGA
        rw [List.append_nil] at HGA
        clear hq
        go_wp2_with (at_builtin; refine wpList_app_pair ptS B u6 E (yi, yt) wr.heap.size rfl _ _ rfl rfl (HST.out.below ((Below.refl _ _).alloc (Nat.le_refl _) _)) rfl (Bk.new _ _ _) (by have := HEN.out; omega) (by have := HB.out.size; have := HBB.out; simp; omega) ?_; intro g9 cap9 w9 o9 ap9 li9)
        have ba : Below wr.heap.size wr (wr.alloc (.cells #[nV yi, nV yt] 60)) := (Below.refl _ _).alloc (Nat.le_refl _) _
        have hba := HB.out.trans (ba.mono HB.out.size)
        have hb9 : Below w.heap.size w w9 := hba.trans (HFR.out.app ap9 hba.size)
        have hf9 : Fresh w.heap.size (.slice g9 (E.length + 1) cap9) := HFR.out.step li9 hba.size
        have ho9 : OI w.heap.size w9 u5 (goneS q (l.take j1)) := by
          rw [HGA.out]
          have h1 := HGO.out.below ba
          refine h1.keep fun k hk => ap9.block k (World.ownsRow.lt h1 k hk).2 (fun e => ws_intS HST.out HGO.out k e hk)
        have hs9 : WS 60 B w9 (.slice g9 (E.length + 1) cap9) (stayS q (l.take j1)) := by rw [HSA.out]; exact o9
        have HO9 := Lib.hid ho9
        have HS9 := Lib.hid hs9
        have HB9 := Lib.hid hb9
        have HF9 := Lib.hid hf9
        clear o9 ap9 li9 hb9 ho9 hs9 hf9 HGO HST ba hba
        go_wp2
        go_roundg g1
        case measure => exact Nat.lt_succ_self _
        case rel => exact ⟨j1, rfl, HJ.out, HO9.out, HS9.out, HF9.out, HB9.out⟩
end
end Go.Proofs.Ytckodebcigmkgaa.LN
