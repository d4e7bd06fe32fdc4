/- Package flight: Copy. Conditions: how many clients there are. -/
import Derived.Test.YtldpamlmnganmaaFlo
import Derived.Maps.RangeWalk
namespace Go.Proofs.Ytldpamlmnganmaa.FL
open Go.ChangeShapes Go.WideShapes Go.ChangeAt Go.RowKit Go.Maps Go.ChangeMaps
open Go.Proofs.Ytldpamlmnganmaa.SL
set_option maxRecDepth 100000
set_option linter.unusedVariables false
set_option linter.unusedSimpArgs false

def tot (S : List Fl) : Nat := (S.map fun t => t.2.length).sum
def totL (S : List Fl) (left : Lit → Bool) : Nat := (S.map fun t => if left (kyL t.1) = true then t.2.length else 0).sum
theorem totL_le (S : List Fl) (left : Lit → Bool) : totL S left ≤ tot S := by
  induction S with
  | nil => exact Nat.le_refl _
  | cons t S ih =>
    unfold totL tot at *
    rw [List.map_cons, List.sum_cons, List.map_cons, List.sum_cons]
    split <;> omega
theorem totL_same {S : List Fl} {k : Ky} {left : Lit → Bool} (hw : ∀ t ∈ S, FitK t.1 ∧ t.1 ≠ k) (hk : FitK k) : totL S (fun z => left z && !z.sameKey (kyL k)) = totL S left := by
  unfold totL
  congr 1
  refine List.map_congr_left fun t ht => ?_
  have hne : (kyL t.1).sameKey (kyL k) = false := sameKey_ne fun e => (hw t ht).2 (kyL_inj (hw t ht).1 hk e)
  show (if (left (kyL t.1) && !(kyL t.1).sameKey (kyL k)) = true then _ else _) = _
  rw [hne]
  simp
theorem totL_step {S : List Fl} {k : Ky} {l : List Int} {left : Lit → Bool} (hn : (S.map (·.1)).Nodup) (hf : ∀ t ∈ S, FitK t.1) (hm : (k, l) ∈ S) (hl : left (kyL k) = true) : totL S (fun z => left z && !z.sameKey (kyL k)) + l.length = totL S left := by
  induction S with
  | nil => cases hm
  | cons t S ih =>
    rw [List.map_cons, List.nodup_cons] at hn
    have hS : ∀ u ∈ S, FitK u.1 := fun u hu => hf u (List.mem_cons_of_mem _ hu)
    have hk : FitK k := hf _ hm
    have e1 : ∀ left, totL (t :: S) left = (if left (kyL t.1) = true then t.2.length else 0) + totL S left := fun left => by unfold totL; rw [List.map_cons, List.sum_cons]
    rw [e1, e1]
    by_cases e : t.1 = k
    · have hnk : ∀ u ∈ S, FitK u.1 ∧ u.1 ≠ k := fun u hu => ⟨hS u hu, fun e2 => hn.1 (List.mem_map.2 ⟨u, hu, e2.trans e.symm⟩)⟩
      rw [totL_same hnk hk]
      have hl2 : l = t.2 := by
        rcases List.mem_cons.1 hm with h | h
        · rw [← h]
        · exact absurd rfl (hnk _ h).2
      have e3 : (left (kyL t.1) && !(kyL t.1).sameKey (kyL k)) = false := by rw [e, WideAt.sameKey_self (kyL_key k)]; simp
      show (if (left (kyL t.1) && !(kyL t.1).sameKey (kyL k)) = true then _ else _) + _ + _ = _
      rw [e3, e, hl, if_pos rfl, if_neg (by simp), hl2]
      omega
    · have hne : (kyL t.1).sameKey (kyL k) = false := sameKey_ne fun e2 => e (kyL_inj (hf t List.mem_cons_self) hk e2)
      have hm2 : (k, l) ∈ S := by
        rcases List.mem_cons.1 hm with h | h
        · exact absurd (by rw [← h]) e
        · exact h
      have := ih hn.2 hS hm2
      have e3 : (left (kyL t.1) && !(kyL t.1).sameKey (kyL k)) = left (kyL t.1) := by rw [hne]; simp
      show (if (left (kyL t.1) && !(kyL t.1).sameKey (kyL k)) = true then _ else _) + _ + _ = _
      rw [e3]
      omega
section
variable {w w' : World} {a N : Nat} {C : Bs} {S : List Fl}
theorem CB.one (h : CB w a N C S) {k k' : Ky} {r r' : Fr} {c : Int} (hr : C.F k = some r) (hr' : C.F k' = some r') (h1 : c ∈ cl r) (h2 : c ∈ cl r') : k = k' := by
  obtain ⟨n, hn⟩ := cl_mem h1
  obtain ⟨n', hn'⟩ := cl_mem h2
  have e1 := (h.z c (r.g, n)).2 ⟨k, r, hr, rfl, hn⟩
  have e2 := (h.z c (r'.g, n')).2 ⟨k', r', hr', rfl, hn'⟩
  rw [e1] at e2
  injection e2 with e2
  injection e2 with e2
  exact h.gg hr hr' e2
theorem CB.nodup (h : CB w a N C S) {k : Ky} {r : Fr} (hr : C.F k = some r) : (cl r).Nodup := by
  have hrow := h.row k r hr
  have hp : ((0, r.ld) :: r.fl).Pairwise fun p q : Int × Int => p.1 < q.1 := List.pairwise_cons.2 ⟨fun q hq => (hrow.lo q hq).1, hrow.up⟩
  show (((0, r.ld) :: r.fl).map fun q : Int × Int => q.2).Nodup
  refine List.pairwise_map.2 (hp.imp_of_mem fun {p q} hpm hqm hlt e => ?_)
  have e1 := (h.z p.2 (r.g, p.1)).2 ⟨k, r, hr, rfl, hpm⟩
  have e2 := (h.z p.2 (r.g, q.1)).2 ⟨k, r, hr, rfl, by rw [e]; exact hqm⟩
  rw [e1] at e2
  injection e2 with e2
  injection e2 with _ e2
  omega
theorem CB.find_r (h : CB w a N C S) {k : Ky} {l : List Int} (hf : findF S k = some l) : ∃ r, C.F k = some r ∧ cl r = l := by
  rw [← h.fs k] at hf
  cases hr : C.F k with
  | none => rw [hr] at hf; cases hf
  | some r => rw [hr] at hf; exact ⟨r, rfl, by injection hf⟩
/-- what has been copied so far -/
def Half (S S2 : List Fl) (left : Lit → Bool) : Prop := ∀ k, FitK k → findF S2 k = if left (kyL k) = true then none else findF S k
theorem Half.done {S S2 : List Fl} {left : Lit → Bool} (h : Half S S2 left) (hS : WF S) (hS2 : WF S2) (hl : ∀ kl, left kl = false) (k : Ky) : findF S k = findF S2 k := by
  by_cases hk : FitK k
  · rw [h k hk, hl, if_neg (by simp)]
  · rw [findF_no fun t ht e => hk (by rw [← e]; exact hS.fit t ht), findF_no fun t ht e => hk (by rw [← e]; exact hS2.fit t ht)]
/-- nobody of a flight that is still to come is there -/
theorem Half.free (h : CB w a N C S) {S2 : List Fl} {left : Lit → Bool} (hh : Half S S2 left) (hS2 : WF S2) {k : Ky} {r : Fr} (hr : C.F k = some r) (hl : left (kyL k) = true) {c : Int} (hc : c ∈ cl r) : ∀ t ∈ S2, c ∉ t.2 := fun t ht hct => by
  have hf := findF_of hS2.keys (k := t.1) (l := t.2) ht
  rw [hh t.1 (hS2.fit t ht)] at hf
  split at hf
  · cases hf
  · rename_i hnl
    obtain ⟨r', hr', e⟩ := h.find_r hf
    have := h.one hr hr' hc (by rw [e]; exact hct)
    rw [← this] at hnl
    exact hnl hl
theorem Half.fresh (h : CB w a N C S) {S2 : List Fl} {left : Lit → Bool} (hh : Half S S2 left) {k : Ky} {r : Fr} (hr : C.F k = some r) (hl : left (kyL k) = true) : findF S2 k = none := by
  rw [hh k (h.fit hr), if_pos hl]
theorem Half.ask (h : CB w a N C S) {S2 : List Fl} {left : Lit → Bool} (hh : Half S S2 left) (hS2 : WF S2) {k : Ky} {r : Fr} (hr : C.F k = some r) (hl : left (kyL k) = true) : askS S2 k r.ld = (S2 ++ [(k, [r.ld])], true, 0) := by
  have h0 := h.pos hr r.ld (by unfold cl; exact List.mem_cons_self)
  unfold askS
  rw [if_neg (by omega), ofF_no (hh.free h hS2 hr hl (by unfold cl; exact List.mem_cons_self)), hh.fresh h hr hl]
  rfl
theorem Half.join (h : CB w a N C S) {S2 : List Fl} {left : Lit → Bool} (hh : Half S S2 left) (hS2 : WF S2) {k : Ky} {r : Fr} (hr : C.F k = some r) (hl : left (kyL k) = true) {j : Nat} {c : Int} (hj : (r.fl.map (·.2))[j]? = some c) :
    askS (S2 ++ [(k, r.ld :: (r.fl.map (·.2)).take j)]) k c = (S2 ++ [(k, r.ld :: (r.fl.map (·.2)).take (j + 1))], false, 0) := by
  have hc : c ∈ cl r := by unfold cl; exact List.mem_cons_of_mem _ (List.mem_of_getElem? hj)
  have h0 := h.pos hr c hc
  have hnd := h.nodup hr
  unfold cl at hnd
  rw [List.nodup_cons] at hnd
  have hfr := hh.free h hS2 hr hl hc
  have hfn := hh.fresh h hr hl
  have hof : ofF (S2 ++ [(k, r.ld :: (r.fl.map (·.2)).take j)]) c = none := by
    refine ofF_no fun t ht hct => ?_
    rcases List.mem_append.1 ht with ht | ht
    · exact hfr t ht hct
    · obtain rfl : t = (k, r.ld :: (r.fl.map (·.2)).take j) := by simpa using ht
      rcases List.mem_cons.1 hct with hct | hct
      · exact hnd.1 (by rw [← hct]; exact List.mem_of_getElem? hj)
      · obtain ⟨i, hi⟩ := List.mem_iff_getElem?.1 hct
        rw [List.getElem?_take] at hi
        split at hi
        · rename_i hij
          obtain ⟨i1, i2⟩ := List.getElem?_eq_some_iff.1 hi
          obtain ⟨j1, j2⟩ := List.getElem?_eq_some_iff.1 hj
          exact (List.pairwise_iff_getElem.1 hnd.2) i j i1 j1 hij (i2.trans j2.symm)
        · cases hi
  have hff : findF (S2 ++ [(k, r.ld :: (r.fl.map (·.2)).take j)]) k = some (r.ld :: (r.fl.map (·.2)).take j) := by
    unfold findF
    unfold findF at hfn
    rw [Option.map_eq_none_iff] at hfn
    rw [List.find?_append, hfn]
    simp
  unfold askS
  rw [if_neg (by omega), hof, hff]
  show (joinS _ k c, false, (0 : Int)) = _
  congr 1
  unfold joinS
  rw [List.map_append]
  congr 1
  · conv => rhs; rw [← List.map_id S2]
    refine List.map_congr_left fun t ht => ?_
    rw [if_neg (findF_none hfn t ht)]
    rfl
  · simp [List.take_add_one, hj]
theorem Half.step (h : CB w a N C S) {S2 : List Fl} {left : Lit → Bool} (hh : Half S S2 left) {k : Ky} {r : Fr} (hr : C.F k = some r) (hl : left (kyL k) = true) : Half S (S2 ++ [(k, cl r)]) (fun z => left z && !z.sameKey (kyL k)) := fun x hx => by
  have hk := h.fit hr
  have hfn := hh.fresh h hr hl
  by_cases e : x = k
  · subst e
    show _ = if (left (kyL x) && !(kyL x).sameKey (kyL x)) = true then none else findF S x
    rw [WideAt.sameKey_self (kyL_key x), h.find_some hr]
    simp only [Bool.not_true, Bool.and_false]
    unfold findF at *
    rw [Option.map_eq_none_iff] at hfn
    rw [List.find?_append, hfn]
    simp
  · have hne : (kyL x).sameKey (kyL k) = false := sameKey_ne fun e2 => e (kyL_inj hx hk e2)
    show _ = if (left (kyL x) && !(kyL x).sameKey (kyL k)) = true then none else findF S x
    rw [hne]
    simp only [Bool.not_false, Bool.and_true]
    rw [← hh x hx]
    unfold findF
    rw [List.find?_append]
    have : ([(k, cl r)] : List Fl).find? (fun t => decide (t.1 = x)) = none := by simp [Ne.symm e]
    rw [this, Option.or_none]
theorem CB.own_obj (h : CB w a N C S) {b : Nat} (hb : C.own b) {m s se c : _} : w.heap[b]? ≠ some (.mapIter m s se c) := fun hx => by
  have hn : ∀ {P : Program} {K : TypeId} {n : Nat} {f : Lit → Option Value}, MV.MapV P K w b n f → False := fun hm => by
    obtain ⟨es, clock, hb⟩ := hm.obj
    rw [hx] at hb
    cases hb
  rcases hb with rfl | rfl | ⟨k, r, hr, rfl | rfl⟩
  · exact hn h.mf
  · exact hn h.ms
  · have := (h.row k r hr).bk
    unfold Bk at this
    rw [hx] at this
    cases this
  · exact hn (h.row k r hr).mp
end
theorem rng_obj {P : Program} {K : TypeId} {w : World} {b r n cnt : Nat} {f : Lit → Option Value} {left : Lit → Bool} (h : MV.RangeV P K w b r n f left cnt) : ∃ m s se c, w.heap[r]? = some (.mapIter m s se c) := by
  obtain ⟨D, ⟨es, clock, since, seen, c0, hb, F, hs, hD, hr, rest⟩, ha⟩ := h
  exact ⟨_, _, _, _, hr⟩
/-- a board beside an iterator that goes on -/
theorem CB.iter {w w' : World} {a N r : Nat} {C : Bs} {S : List Fl} (h : CB w a N C S) (hr : ∃ m s se c, w.heap[r]? = some (.mapIter m s se c)) (hg : w.grownBy w' (some r)) : CB w' a N C S := by
  obtain ⟨m, s, se, c, hx⟩ := hr
  refine h.keep fun b hb => hg.block b ?_ (fun e => ?_)
  · rcases hb with rfl | hb
    · exact h.bk.lt
    · exact h.lt hb
  · injection e with e
    subst e
    rcases hb with rfl | hb
    · have := h.bk
      unfold Bk at this
      rw [hx] at this
      cases this
    · exact h.own_obj hb hx
def CopP (w : World) (S : List Fl) (e : Ending) (w' : World) : Prop := ∃ a2 C2, e = .returned (ptr a2) ∧ CB w' a2 (tot S) C2 S ∧ (∀ b, b = a2 ∨ C2.own b → w.heap.size ≤ b) ∧ Below w.heap.size w w'
set_option maxHeartbeats 8000000 in
theorem copy_any {w : World} {a N : Nat} {C : Bs} {S : List Fl} (h : CB w a N C S) (hN : N ≤ 1000000) (hT : tot S ≤ 1000000) :
    Calls Try.prog 18 #[ptr a] w (CopP w S) := by
  obtain ⟨c0, c1, c2⟩ := h.cells
  have H := Lib.hid h
  have HN := Lib.hid hN
  have HT := Lib.hid hT
  have HG := Lib.hid (given_yes w a c0)
  clear h hN hT c0 c1 c2
  go_enter Try.func18, Try.ntmps18
  go_wp2_with fail
  refine HG.out.mono ?_
  rintro e w' ⟨rfl, rfl⟩
  go_wp2_with fail
  refine (new_any w).mono ?_
  rintro e w1 ⟨a2, C2, rfl, hcb2, hown2, hb⟩
  have HCB2 := Lib.hid hcb2
  have HOW2 := Lib.hid hown2
  have HB1 := Lib.hid hb
  have H1 := Lib.hid (H.out.below hb)
  have c1 : w1.cell? ⟨a, 1, none⟩ = some (.map (some C.fb)) := H1.out.cells.2.1
  clear hcb2 hown2 hb
  go_wp2_with (at_range; refine MV.wpList_range rfl _ 60 rfl 66 kK Try.underlying60 rfl H1.out.mf ?_; intro w0 cnt0 left0 hrg0 hleft0 hcnt0 hg0 hs0)
  have hb0 : Below w1.heap.size w1 w0 := ⟨hg0.os, hg0.tape, hg0.output, hg0.size, fun k hk => hg0.block k hk (by simp)⟩
  have HRG0 := Lib.hid hrg0
  have HLE0 := Lib.hid hleft0
  have HB0 := Lib.hid (HB1.out.trans (hb0.mono HB1.out.size))
  have HCB0 := Lib.hid (HCB2.out.below hb0)
  clear hrg0 hleft0 hcnt0 hg0 hs0 hb0 c1
  go_frame
  go_loopw [4] (fun u4 wr => ∃ (left : Lit → Bool) (cnt M : Nat) (Cc : Bs) (S2 : List Fl), Hid (MV.RangeV Try.prog 30 wr C.fb w1.heap.size N (fV C) left cnt) ∧ Hid (CB wr a2 M Cc S2) ∧ Hid (Half S S2 left) ∧ Hid (M + totL S left ≤ tot S) ∧ Hid (∀ b, b = a2 ∨ Cc.own b → w.heap.size ≤ b) ∧ Hid (Below w.heap.size w wr)) (fun _ wr => wr.rangeLeft C.fb w1.heap.size)
  case atStart =>
    refine ⟨left0, cnt0, 0, C2, [], HRG0, HCB0, Lib.hid (fun k hk => ?_), Lib.hid (by have := totL_le S left0; omega), HOW2, HB0⟩
    rw [HLE0.out _ (kyL_key k)]
    unfold fV
    rw [fK_at _ k hk, Option.isSome_map]
    cases hF : C.F k with
    | none => rw [H.out.find_none hF]; rfl
    | some r => rfl
  case round =>
    obtain ⟨left, cnt, M, Cc, S2, hrg, hcb, hhf, hto, how, hbw⟩ := hrel
    clear HRG0 HLE0 HB0 HCB0 HCB2 HOW2
    go_wp2_with (at_next; refine MV.wpList_step (fun x : Value => x) (fun key kl hk => ⟨key, rfl⟩) rfl _ rfl kK w1.heap.size left cnt rfl hrg.out ?_ ?_)
    · intro hl0
      have hfin : CopP w S (.returned (ptr a2)) wr := ⟨a2, Cc, rfl, ((hcb.out.perm H.out.wf (hhf.out.done H.out.wf hcb.out.wf hl0)).mono (by have := hto.out; omega)), how.out, hbw.out⟩
      have HF := Lib.hid hfin
      clear hl0 hfin
      go_wp2
      go_ret
      exact HF.out
    · intro x c kl w2 cnt1 hkey hlk hfk hrg1 hlt hg1 hs1 hen
      obtain ⟨k, hk, rfl, hgk⟩ := fK_some (g := fun k => (C.F k).map fun r => ptr r.g) (kl := kl) (by rw [show fK _ kl = fV C kl from rfl, hfk]; rfl)
      obtain rfl : x = kyV k := kK.inj hkey (keyK k hk)
      have hfk2 : (C.F k).map (fun r => ptr r.g) = some c := by rw [← hfk]; exact (fK_at (fun k => (C.F k).map fun r => ptr r.g) k hk).symm
      obtain ⟨r, hF⟩ : ∃ r, C.F k = some r := by
        cases hF : C.F k with
        | none => rw [hF] at hfk2; cases hfk2
        | some r => exact ⟨r, rfl⟩
      have hc : c = ptr r.g := by
        rw [hF] at hfk2
        injection hfk2 with hfk2
        exact hfk2.symm
      subst hc
      have hrw : w.heap.size ≤ w1.heap.size := HB1.out.size
      have hbw2 : Below w.heap.size w w2 := hbw.out.grown hg1 hbw.out.size fun j hj => by injection hj with hj; omega
      have hcb2 := hcb.out.iter (rng_obj hrg.out) hg1
      obtain ⟨W3, hW3⟩ : ∃ W, w2.alloc (.cells (kC k) 30) = W := ⟨_, rfl⟩
      obtain ⟨kb, hkb⟩ : ∃ b, w2.heap.size = b := ⟨_, rfl⟩
      have b3 : Below w2.heap.size w2 W3 := by rw [← hW3]; exact (Below.refl _ _).alloc (Nat.le_refl _) _
      have kk : Bk W3 kb 30 (kC k) := by rw [← hW3, ← hkb]; exact Bk.new _ _ _
      have hcb3 := hcb2.below b3
      have hM : M ≤ 1000000 := by have := hto.out; have := HT.out; omega
      have hld := H.out.pos hF r.ld (by unfold cl; exact List.mem_cons_self)
      have hask := ask_any (hcb3.below (w' := W3.drew) (Below.refl _ _).drew) hM k hk r.ld ⟨by omega, hld.2⟩
      rw [hhf.out.ask H.out hcb3.wf hF hlk] at hask
      have HBW3 := Lib.hid (hbw2.trans (b3.mono hbw2.size))
      have hrow3 := (H.out.below HBW3.out).row k r hF
      have HRG3 := Lib.hid (hrg1.below b3)
      have HASK := Lib.hid hask
      have HF := Lib.hid hF
      have HLK := Lib.hid hlk
      have HME : Hid (cnt1 < wr.rangeLeft C.fb w1.heap.size) := Lib.hid (by rw [hrg.out.left_eq]; exact hlt)
      have HKK := Lib.hid kk
      have HK := Lib.hid hk
      have HKB : Hid (w.heap.size ≤ kb ∧ kb < W3.heap.size) := Lib.hid ⟨by have := hbw2.size; omega, kk.lt⟩
      have g4 : W3.cell? ⟨r.g, 4, none⟩ = some (.int .i64 r.ld) := hrow3.bk.cell 4
      have HRL : Hid (r.g < W3.heap.size ∧ r.g < w.heap.size) := Lib.hid ⟨hrow3.lt.1, (H.out.row k r hF).lt.1⟩
      have HOWN3 : Hid (∀ b, b = a2 ∨ Cc.own b → b < W3.heap.size) := Lib.hid (fun b hb => by
        rcases hb with rfl | hb
        · exact hcb3.bk.lt
        · exact hcb3.lt hb)
      have HCB3 := Lib.hid hcb3
      clear hfk2 hfk hgk hlt hg1 hs1 hrg1 hkey hrw hbw2 hcb2 b3 kk hcb3 hM hld hask hrow3 hF hlk hk
      obtain ⟨db, ro, fm, no⟩ := k
      have a0 : W3.cell? ⟨kb, 0, none⟩ = some (.string db) := HKK.out.cell 0
      have a1 : W3.cell? ⟨kb, 1, none⟩ = some (.string ro) := HKK.out.cell 1
      have a2' : W3.cell? ⟨kb, 2, none⟩ = some (.int .i64 fm) := HKK.out.cell 2
      have a3 : W3.cell? ⟨kb, 3, none⟩ = some (.string no) := HKK.out.cell 3
      go_wp2_with fail
      try rw [hW3]
      try rw [hkb]
      go_wp2_with fail
      refine wp_region_held_drew (S := (fun w' => w'.cell? ⟨kb, 0, none⟩ = some (.string db) ∧ w'.cell? ⟨kb, 1, none⟩ = some (.string ro) ∧ w'.cell? ⟨kb, 2, none⟩ = some (.int .i64 fm) ∧ w'.cell? ⟨kb, 3, none⟩ = some (.string no) ∧ w'.cell? ⟨r.g, 4, none⟩ = some (.int .i64 r.ld))) (by kernel_rfl) ?_ (fun hS => ?_)
      · exact ⟨a0, a1, a2', a3, g4⟩
      refine tkY 0 ?_ rfl hS ?_ ?_
      rotate_left
      · intro wz hz
        obtain ⟨z0, z1, z2, z3, z4⟩ := hz
        go_simp
        all_goals first | with_reducible rfl | omega
      try simp only [Act.put, pu]
      refine tkY 1 ?_ rfl hS ?_ ?_
      rotate_left
      · intro wz hz
        obtain ⟨z0, z1, z2, z3, z4⟩ := hz
        go_simp
        all_goals first | with_reducible rfl | omega
      try simp only [Act.put, pu]
      refine tkY 2 ?_ rfl hS ?_ ?_
      rotate_left
      · intro wz hz
        obtain ⟨z0, z1, z2, z3, z4⟩ := hz
        go_simp
        all_goals first | with_reducible rfl | omega
      try simp only [Act.put, pu]
      refine tkY 3 ?_ rfl hS ?_ ?_
      rotate_left
      · intro wz hz
        obtain ⟨z0, z1, z2, z3, z4⟩ := hz
        go_simp
        all_goals first | with_reducible rfl | omega
      try simp only [Act.put, pu]
      refine tkY 4 ?_ rfl hS ?_ ?_
      rotate_left
      · intro wz hz
        obtain ⟨z0, z1, z2, z3, z4⟩ := hz
        go_simp
        all_goals first | with_reducible rfl | omega
      try simp only [Act.put, pu]
      refine tkY 5 ?_ rfl hS ?_ ?_
      rotate_left
      · intro wz hz
        obtain ⟨z0, z1, z2, z3, z4⟩ := hz
        go_simp
        all_goals first | with_reducible rfl | omega
      try simp only [Act.put, pu]
      refine wpAnyH_ready (rs := [6]) (by kernel_rfl) (by simp) (AllReadyH.cons rfl (fun K' hK' => ?_) AllReadyH.nil)
      go_simp
      refine HASK.out.mono ?_
      rintro e w4 ⟨rfl, C4, hc4, hch4, hown4⟩
      have HC4 := Lib.hid hc4
      have hkc : ∀ b, b < W3.heap.size → ¬ Cc.own b → w4.heap[b]? = W3.heap[b]? := fun b hb hn => hch4.block b hb hn
      have hnk : ¬ Cc.own kb := fun hb => absurd (HCB3.out.typed hb HKK.out) (by decide)
      have hob : ∀ b, b < w.heap.size → ¬ Cc.own b := fun b hb ho => by have := how.out b (.inr ho); omega
      have HKK4 := Lib.hid (HKK.out.heap (hkc _ HKK.out.lt hnk))
      have HBW4 : Hid (Below w.heap.size w w4) := Lib.hid (HBW3.out.trans ⟨hch4.os, hch4.tape, hch4.output, hch4.size, fun b hb => hch4.block b (Nat.lt_of_lt_of_le hb HBW3.out.size) (hob b hb)⟩)
      have HRG4 := Lib.hid (HRG3.out.kept (hkc _ HRG3.out.map.lt (hob _ H.out.mf.lt)) (hkc _ HRG3.out.lt (fun ho => by
        obtain ⟨m, s, se, c, hx⟩ := rng_obj HRG3.out
        exact HCB3.out.own_obj ho hx)))
      have HOW4 : Hid (∀ b, b = a2 ∨ C4.own b → w.heap.size ≤ b) := Lib.hid (fun b hb => by
        rcases hb with rfl | hb
        · exact how.out _ (.inl rfl)
        · rcases hown4 b hb with hb | hb
          · exact how.out _ (.inr hb)
          · exact Nat.le_trans HBW3.out.size hb)
      have y0 : w4.cell? ⟨kb, 0, none⟩ = some (.string db) := HKK4.out.cell 0
      have y1 : w4.cell? ⟨kb, 1, none⟩ = some (.string ro) := HKK4.out.cell 1
      have y2 : w4.cell? ⟨kb, 2, none⟩ = some (.int .i64 fm) := HKK4.out.cell 2
      have y3 : w4.cell? ⟨kb, 3, none⟩ = some (.string no) := HKK4.out.cell 3
      have y4 : w4.cell? ⟨r.g, 4, none⟩ = some (.int .i64 r.ld) := ((H.out.row _ r HF.out).bk.heap (HBW4.out.block _ HRL.out.2)).cell 4
      clear hc4 hch4 hown4 hkc hnk hob
      refine hK'.out _ _ ?_ (fun hSn => ?_)
      · exact ⟨y0, y1, y2, y3, y4⟩
      clear hK' K' hS
      have hS := hSn
      clear hSn
      try simp only [Act.put, pu]
      refine wpAnyH_done (by kernel_rfl) ?_ _
      clear hS
      clear a0 a1 a2' a3 g4 HASK HCB3 HOWN3 HKK HRG3 y4
      have HLI := Lib.hid (line_any ((H.out.below HBW4.out).row _ r HF.out) HN.out)
      go_wp2_with fail
      refine HLI.out.mono ?_
      rintro e w5 ⟨v, rfl, hoi, hb5⟩
      have HC5 := Lib.hid (HC4.out.below hb5)
      have HKK5 := Lib.hid (show Bk w5 kb 30 (kC (db, ro, fm, no)) from (show Bk w4 kb _ _ from HKK4.out).heap (hb5.block _ (show Bk w4 kb _ _ from HKK4.out).lt))
      have HBW5 := Lib.hid (HBW4.out.trans (hb5.mono HBW4.out.size))
      have HRG5 := Lib.hid (HRG4.out.below hb5)
      obtain ⟨n, hn⟩ : ∃ n, (r.fl.map (·.2)).length = n := ⟨_, rfl⟩
      obtain ⟨av, cv, hv⟩ := hoi.form
      rw [hn] at hv
      subst hv
      have HIS := Lib.hid (OI.is hoi)
      have HVL : Hid (∀ b, w4.heap.size ≤ b → True) := Lib.hid (fun _ _ => trivial)
      have HNN := Lib.hid hn
      have HNL : Hid (n ≤ 1000000) := Lib.hid (by have := ((H.out.row _ r HF.out)).len; rw [List.length_map] at hn; have := HN.out; omega)
      clear hoi hb5 hn y0 y1 y2 y3 HLI HC4 HKK4 HBW4 HRG4 HVL
      go_wp2
      go_loopg [32] n (fun gk u32 wx => ∃ (j M' : Nat) (C' : Bs), u32 = .int .i64 (j : Int) ∧ j + gk = n ∧ M' ≤ M + 1 + j ∧ CB wx a2 M' C' (S2 ++ [((db, ro, fm, no), r.ld :: (r.fl.map (·.2)).take j)]) ∧ (∀ b, b = a2 ∨ C'.own b → w.heap.size ≤ b) ∧ Below w.heap.size w wx ∧ MV.RangeV Try.prog 30 wx C.fb w1.heap.size N (fV C) (fun z => left z && !z.sameKey (kyL (db, ro, fm, no))) cnt1 ∧ Bk wx kb 30 (kC (db, ro, fm, no)) ∧ IS wx (.slice av n cv) (r.fl.map (·.2)))
      case atStart => exact ⟨0, M + 1, C4, rfl, by omega, Nat.le_refl _, HC5.out, HOW4.out, HBW5.out, HRG5.out, HKK5.out, HIS.out⟩
      case round =>
        obtain ⟨j, M', C', rfl, hj, hMj, hcb', how', hbw', hrg', hkk', his'⟩ := hrel
        have HM' := Lib.hid hMj
        have HCB' := Lib.hid hcb'
        have HOW' := Lib.hid how'
        have HBW' := Lib.hid hbw'
        have HRG' := Lib.hid hrg'
        have HKK' := Lib.hid hkk'
        have HIS' := Lib.hid his'
        cases gk with
        | zero =>
          have l1 : ¬ ((j : Int) < (n : Int)) := by omega
          have hall : (r.fl.map (·.2)).take j = r.fl.map (·.2) := List.take_of_length_le (by rw [HNN.out]; omega)
          rw [hall] at hcb'
          have HCB9 : Hid (CB wr a2 M' C' (S2 ++ [((db, ro, fm, no), cl r)])) := Lib.hid hcb'
          have hst := totL_step H.out.wf.keys H.out.wf.fit (findF_mem (H.out.find_some HF.out)) HLK.out
          have HTO : Hid (M' + totL S (fun z => left z && !z.sameKey (kyL (db, ro, fm, no))) ≤ tot S) := Lib.hid (by
            have h1 := hto.out
            have h2 : (cl r).length = 1 + n := by unfold cl; rw [List.length_cons, HNN.out]; omega
            rw [h2] at hst
            omega)
          clear hcb' how' hbw' hrg' hkk' his' hMj hj hall hst
          go_wp2
          go_roundw
          case rel => exact ⟨_, cnt1, M', C', _, HRG', HCB9, Lib.hid (hhf.out.step H.out HF.out HLK.out), HTO, HOW', HBW'⟩
          case measure => rw [HRG'.out.left_eq]; exact HME.out
        | succ gk1 =>
          have hlt : j < (r.fl.map (·.2)).length := by rw [HNN.out]; omega
          obtain ⟨b, off, cp, he, hcp, hx⟩ := his'.at_ (by omega)
          rw [HNN.out] at he
          injection he with e1 _ e2
          subst e1 e2
          obtain ⟨c, hc⟩ : ∃ c, (r.fl.map (·.2))[j] = c := ⟨_, rfl⟩
          have hjc : (r.fl.map (·.2))[j]? = some c := by rw [List.getElem?_eq_getElem hlt, hc]
          have x0 := hx j c hjc
          have hp := H.out.pos HF.out c (by unfold cl; exact List.mem_cons_of_mem _ (List.mem_of_getElem? hjc))
          have hS2 := hcb.out.wf
          have hM : M' ≤ 1000000 := by
            have h1 := hto.out
            have h2 := HT.out
            have h3 := totL_step H.out.wf.keys H.out.wf.fit (findF_mem (H.out.find_some HF.out)) HLK.out
            have h4 : (cl r).length = 1 + n := by unfold cl; rw [List.length_cons, HNN.out]; omega
            rw [h4] at h3
            omega
          have hask := ask_any hcb' hM (db, ro, fm, no) HK.out c ⟨by omega, hp.2⟩
          rw [hhf.out.join H.out hS2 HF.out HLK.out hjc] at hask
          have HASK := Lib.hid hask
          obtain ⟨j1, hj1⟩ : ∃ j1, j + 1 = j1 := ⟨_, rfl⟩
          rw [hj1] at HASK
          have l0 : (0 : Int) ≤ (j : Int) := by omega
          have l1 : (j : Int) < (n : Int) := by omega
          have wk : IntKind.i64.wrap ((j : Int) + 1) = (j1 : Int) := by rw [show (j : Int) + 1 = (j1 : Int) by omega]; exact IntWalk.i64_in _ (by have := HNL.out; omega)
          have HJ : Hid (j1 + gk1 = n ∧ M' + 1 ≤ M + 1 + j1) := Lib.hid (by omega)
          have b0 : wr.cell? ⟨kb, 0, none⟩ = some (.string db) := hkk'.cell 0
          have b1 : wr.cell? ⟨kb, 1, none⟩ = some (.string ro) := hkk'.cell 1
          have b2 : wr.cell? ⟨kb, 2, none⟩ = some (.int .i64 fm) := hkk'.cell 2
          have b3 : wr.cell? ⟨kb, 3, none⟩ = some (.string no) := hkk'.cell 3
          clear hcb' how' hbw' hrg' hkk' his' hMj hj hlt hx hc hjc hp hS2 hM hask hj1 hcp
          go_wp2_with fail
          refine HASK.out.mono ?_
          rintro e w9 ⟨rfl, C9, hc9, hch9, hown9⟩
          have hkc : ∀ b, b < wr.heap.size → ¬ C'.own b → w9.heap[b]? = wr.heap[b]? := fun b hb hn => hch9.block b hb hn
          have hob : ∀ b, b < w.heap.size → ¬ C'.own b := fun b hb ho => by have := HOW'.out b (.inr ho); omega
          have HC9 := Lib.hid hc9
          have HKK9 := Lib.hid (HKK'.out.heap (hkc _ HKK'.out.lt (fun hb => absurd (HCB'.out.typed hb HKK'.out) (by decide))))
          have HBW9 : Hid (Below w.heap.size w w9) := Lib.hid (HBW'.out.trans ⟨hch9.os, hch9.tape, hch9.output, hch9.size, fun b hb => hch9.block b (Nat.lt_of_lt_of_le hb HBW'.out.size) (hob b hb)⟩)
          have HRG9 := Lib.hid (HRG'.out.kept (hkc _ HRG'.out.map.lt (hob _ H.out.mf.lt)) (hkc _ HRG'.out.lt (fun ho => by
            obtain ⟨m, s, se, c, hx⟩ := rng_obj HRG'.out
            exact HCB'.out.own_obj ho hx)))
          have HIS9 := Lib.hid (HIS'.out.ki (w' := w9) (fun b cs fr hb => hkc b (Array.getElem?_eq_some_iff.1 hb).1 (fun ho => absurd (HCB'.out.typed ho hb) (by decide))))
          have HOW9 : Hid (∀ b, b = a2 ∨ C9.own b → w.heap.size ≤ b) := Lib.hid (fun b hb => by
            rcases hb with rfl | hb
            · exact HOW'.out _ (.inl rfl)
            · rcases hown9 b hb with hb | hb
              · exact HOW'.out _ (.inr hb)
              · exact Nat.le_trans HBW'.out.size hb)
          clear hc9 hch9 hown9 hkc hob b0 b1 b2 b3 x0
          go_wp2
          go_roundg gk1
          case measure => exact Nat.lt_succ_self _
          case rel => exact ⟨j1, M' + 1, C9, rfl, HJ.out.1, HJ.out.2, HC9.out, HOW9.out, HBW9.out, HRG9.out, HKK9.out, HIS9.out⟩
end Go.Proofs.Ytldpamlmnganmaa.FL
