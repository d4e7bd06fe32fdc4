/- Package pool: where a rest stands, or belongs: slices.BinarySearchFunc by earlier. Conditions: what stands ahead of a place is earlier; how many. -/
import Derived.Test.YtochjbmighijgaaPoe
namespace Go.Proofs.Ytochjbmighijgaa.PO
open Go.ChangeShapes Go.WideShapes Go.ChangeAt Go.RowKit Go.Maps Go.ChangeMaps
open Go.Proofs.Ytochjbmighijgaa.SL Go.Proofs.Ytochjbmighijgaa.RW
open Go.Proofs.Ytochjbmighijgaa.LN (tkY tkN pu OI IS RdP)
set_option maxRecDepth 100000
set_option linter.unusedVariables false
set_option linter.unusedSimpArgs false

def lowP {α : Type} (p : α → Bool) (l : List α) : Nat := (l.takeWhile p).length
theorem low_le {α : Type} (p : α → Bool) (l : List α) : lowP p l ≤ l.length := by
  unfold lowP
  exact (List.takeWhile_sublist p).length_le
theorem low_before {α : Type} (p : α → Bool) : ∀ (l : List α) (i : Nat) (x : α), i < lowP p l → l[i]? = some x → p x = true
  | [], i, x, h, _ => by simp [lowP] at h
  | a :: t, i, x, h, hx => by
    unfold lowP at h
    rw [List.takeWhile_cons] at h
    split at h
    · rename_i ha
      cases i with
      | zero => simp at hx; subst hx; exact ha
      | succ i => exact low_before p t i x (by simpa [lowP] using h) (by simpa using hx)
    · simp at h
theorem low_at {α : Type} (p : α → Bool) : ∀ (l : List α) (x : α), l[lowP p l]? = some x → p x = false
  | [], x, h => by simp at h
  | a :: t, x, h => by
    unfold lowP at h
    rw [List.takeWhile_cons] at h
    split at h
    · exact low_at p t x (by simpa [lowP] using h)
    · rename_i ha; simp at h; subst h; simpa using ha
theorem low_uniq {α : Type} (p : α → Bool) (l : List α) (i : Nat) (hi : i ≤ l.length) (h1 : ∀ t x, t < i → l[t]? = some x → p x = true) (h2 : ∀ x, l[i]? = some x → p x = false) : lowP p l = i := by
  rcases Nat.lt_trichotomy (lowP p l) i with h | h | h
  · have hl : lowP p l < l.length := by omega
    have := low_at p l _ (List.getElem?_eq_getElem hl)
    rw [h1 _ _ h (List.getElem?_eq_getElem hl)] at this
    cases this
  · exact h
  · have hl : i < l.length := by have := low_le p l; omega
    have := h2 _ (List.getElem?_eq_getElem hl)
    rw [low_before p l i _ h (List.getElem?_eq_getElem hl)] at this
    cases this
def ltE (k x : Rs) : Bool := decide (cR x k < 0)
def upE (l : List Rs) : Prop := l.Pairwise fun a b => a.1 < b.1 ∨ (a.1 = b.1 ∧ a.2 < b.2)
theorem ltE_iff (k x : Rs) : ltE k x = true ↔ x.1 < k.1 ∨ (x.1 = k.1 ∧ x.2 < k.2) := by
  unfold ltE cR orS ci
  rw [decide_eq_true_iff]
  by_cases h1 : x.1 < k.1
  · rw [if_pos h1, if_neg (by decide)]; omega
  · rw [if_neg h1]
    by_cases h2 : k.1 < x.1
    · rw [if_pos h2, if_neg (by decide)]; omega
    · rw [if_neg h2, if_pos rfl]
      by_cases h3 : x.2 < k.2
      · rw [if_pos h3]; omega
      · rw [if_neg h3]
        by_cases h4 : k.2 < x.2
        · rw [if_pos h4]; omega
        · rw [if_neg h4]; omega
theorem upE_mono {l : List Rs} (h : upE l) (k : Rs) : ∀ (i j : Nat) (a b : Rs), i ≤ j → l[i]? = some a → l[j]? = some b → ltE k b = true → ltE k a = true := by
  intro i j a b hij ha hb hp
  rcases Nat.lt_or_ge i j with h1 | h1
  · obtain ⟨hi, ea⟩ := List.getElem?_eq_some_iff.1 ha
    obtain ⟨hj, eb⟩ := List.getElem?_eq_some_iff.1 hb
    have := List.pairwise_iff_getElem.1 h i j hi hj h1
    rw [ea, eb] at this
    rw [ltE_iff] at hp ⊢
    omega
  · have : i = j := by omega
    subst this
    rw [ha] at hb
    injection hb with hb
    rw [hb]; exact hp
def SeaP (n : Nat) (w : World) (e : Ending) (w' : World) : Prop := ∃ F : Bool, e = .returned (.tuple #[nV (n : Int), .bool F]) ∧ Below w.heap.size w w'
set_option maxHeartbeats 4000000 in
theorem search_any {B : Nat} (v : Value) (l : List Rs) (k : Rs) (w : World) (h : EQ B w v l) (hm : upE l) (hl : l.length ≤ 1000000) :
    Calls Try.prog 49 #[v, rV k, .func (.func 50) #[] #[]] w (SeaP (lowP (ltE k) l) w) := by
  obtain ⟨R, hR⟩ : ∃ R, lowP (ltE k) l = R := ⟨_, rfl⟩
  rw [hR]
  obtain ⟨k1, k2⟩ := k
  obtain ⟨a, cap, rfl⟩ := h.form
  obtain ⟨n, hn⟩ : ∃ n, l.length = n := ⟨_, rfl⟩
  have HM := Lib.hid (upE_mono hm (k1, k2))
  obtain ⟨W, hW⟩ : ∃ W, w.alloc (.cells #[nV k1, nV k2] 76) = W := ⟨_, rfl⟩
  obtain ⟨p, hp⟩ : ∃ p, w.heap.size = p := ⟨_, rfl⟩
  have hb0 : Below w.heap.size w W := by rw [← hW]; exact (Below.refl _ _).alloc (Nat.le_refl _) _
  have HH := Lib.hid (h.below hb0)
  have HK : Hid (Bk W p 76 #[nV k1, nV k2]) := Lib.hid (by rw [← hW, ← hp]; exact Bk.new _ _ _)
  have HB0 := Lib.hid hb0
  have HR := Lib.hid hR
  have HN := Lib.hid hn
  have HL := Lib.hid hl
  rw [hn] at HH hl ⊢
  clear h hm hR hb0 hn
  have henter : ∀ args w, (callFunc 50 args).run Try.prog w = .ok (.enter 50 args) w := fun args w => by show Sem.run Try.prog (callFunc 50 args) w = _; go_simp
  go_enter Try.func49, Try.ntmps49
  go_wp2
  try rw [hW]
  try rw [hp]
  clear hW hp
  go_loopg [9, 10] n (fun gk u9 u10 wx => ∃ lo hi : Nat, u9 = .int .i64 (lo : Int) ∧ u10 = .int .i64 (hi : Int) ∧ lo ≤ hi ∧ hi ≤ n ∧ hi - lo ≤ gk ∧ Hid (Below W.heap.size W wx) ∧ Hid ((∀ (t : Nat) (x : Rs), t < lo → l[t]? = some x → ltE (k1, k2) x = true) ∧ (∀ (t : Nat) (x : Rs), hi ≤ t → l[t]? = some x → ltE (k1, k2) x = false)))
  case atStart => exact ⟨0, n, rfl, rfl, Nat.zero_le _, Nat.le_refl _, by omega, Below.refl _ _, ⟨fun t x ht => absurd ht (Nat.not_lt_zero _), fun t x h1 h2 => by have := (List.getElem?_eq_some_iff.1 h2).1; have := HN.out; omega⟩⟩
  case round =>
    obtain ⟨lo, hi, rfl, rfl, hlh, hin, hg, HB, I⟩ := hrel
    have HKR := Lib.hid (HK.out.heap (HB.out.block p HK.out.lt))
    by_cases hlt : lo < hi
    · obtain ⟨m, hmid⟩ : ∃ m, (lo + hi) / 2 = m := ⟨_, rfl⟩
      have hml : m < n := by omega
      have hRR := HH.out.below HB.out
      rcases hRR.inv with ⟨_, e0⟩ | ⟨b, cp, he, hcp, _, _, _⟩
      · have := HN.out; rw [e0] at this; simp at this; omega
      injection he with ea en ec
      clear en
      subst ea ec
      have hcp : n ≤ cap := by have := HN.out; omega
      obtain ⟨r, hr0⟩ : ∃ r, l[m]? = some r := ⟨_, List.getElem?_eq_getElem (by have := HN.out; omega)⟩
      obtain ⟨r0, r1⟩ := r
      obtain ⟨x0, x1⟩ := hRR.cells m _ hr0
      have y0 := HKR.out.cell 0
      have y1 := HKR.out.cell 1
      simp at x0 x1 y0 y1
      have wm : ((lo : Int) + (hi : Int)) / 2 = (m : Int) := by omega
      have HM2 := Lib.hid hr0
      have HMID := Lib.hid hmid
      have HP : Hid (b < wr.heap.size ∧ p < wr.heap.size) := Lib.hid ⟨World.block_lt_of_cell? _ _ x0, HKR.out.lt⟩
      have l0 : (0 : Int) ≤ (m : Int) := by omega
      have l1 : (m : Int) < (n : Int) := by omega
      have HC := Lib.hid (fun W => earlier_any (r0, r1) (k1, k2) W)
      obtain ⟨m1, hm1⟩ : ∃ m1, m + 1 = m1 := ⟨_, rfl⟩
      have wk : IntKind.i64.wrap ((m : Int) + 1) = (m1 : Int) := by rw [show (m : Int) + 1 = (m1 : Int) by omega]; exact IntWalk.i64_in _ (by omega)
      have HM1 := Lib.hid hm1
      clear hr0 hRR hmid hml hm1 hcp
      cases hc : ltE (k1, k2) (r0, r1) with
      | true =>
        have HCC := Lib.hid hc
        have l3 : cR (r0, r1) (k1, k2) < 0 := of_decide_eq_true hc
        obtain ⟨z, hz9⟩ : ∃ z, cR (r0, r1) (k1, k2) = z := ⟨_, rfl⟩
        rw [hz9] at l3
        simp only [hz9] at HC
        clear hc hz9
        go_wp2_with fail
        refine wp_region_held_drew (S := fun W => Below wr.heap.size wr W) (by kernel_rfl) ?_ (fun hS => ?_)
        · exact (Below.refl _ _).drew
        refine tkY 0 ?_ rfl hS ?_ ?_
        rotate_left
        · intro wz hz
          have z0 := (hz.cell (p := ⟨b, m * 2, none⟩) HP.out.1).trans x0
          have z1 := (hz.cell (p := ⟨b, m * 2 + 1, none⟩) HP.out.1).trans x1
          have z2 := (hz.cell (p := ⟨p, 0, none⟩) HP.out.2).trans y0
          have z3 := (hz.cell (p := ⟨p, 1, none⟩) HP.out.2).trans y1
          go_simp
          all_goals first | with_reducible rfl | omega
        try simp only [Act.put, pu]
        refine tkY 1 ?_ rfl hS ?_ ?_
        rotate_left
        · intro wz hz
          have z0 := (hz.cell (p := ⟨b, m * 2, none⟩) HP.out.1).trans x0
          have z1 := (hz.cell (p := ⟨b, m * 2 + 1, none⟩) HP.out.1).trans x1
          have z2 := (hz.cell (p := ⟨p, 0, none⟩) HP.out.2).trans y0
          have z3 := (hz.cell (p := ⟨p, 1, none⟩) HP.out.2).trans y1
          go_simp
          all_goals first | with_reducible rfl | omega
        try simp only [Act.put, pu]
        refine tkY 2 ?_ rfl hS ?_ ?_
        rotate_left
        · intro wz hz
          have z0 := (hz.cell (p := ⟨b, m * 2, none⟩) HP.out.1).trans x0
          have z1 := (hz.cell (p := ⟨b, m * 2 + 1, none⟩) HP.out.1).trans x1
          have z2 := (hz.cell (p := ⟨p, 0, none⟩) HP.out.2).trans y0
          have z3 := (hz.cell (p := ⟨p, 1, none⟩) HP.out.2).trans y1
          go_simp
          all_goals first | with_reducible rfl | omega
        try simp only [Act.put, pu]
        refine tkY 3 ?_ rfl hS ?_ ?_
        rotate_left
        · intro wz hz
          have z0 := (hz.cell (p := ⟨b, m * 2, none⟩) HP.out.1).trans x0
          have z1 := (hz.cell (p := ⟨b, m * 2 + 1, none⟩) HP.out.1).trans x1
          have z2 := (hz.cell (p := ⟨p, 0, none⟩) HP.out.2).trans y0
          have z3 := (hz.cell (p := ⟨p, 1, none⟩) HP.out.2).trans y1
          go_simp
          all_goals first | with_reducible rfl | omega
        try simp only [Act.put, pu]
        refine tkY 4 ?_ rfl hS ?_ ?_
        rotate_left
        · intro wz hz
          have z0 := (hz.cell (p := ⟨b, m * 2, none⟩) HP.out.1).trans x0
          have z1 := (hz.cell (p := ⟨b, m * 2 + 1, none⟩) HP.out.1).trans x1
          have z2 := (hz.cell (p := ⟨p, 0, none⟩) HP.out.2).trans y0
          have z3 := (hz.cell (p := ⟨p, 1, none⟩) HP.out.2).trans y1
          go_simp
          all_goals first | with_reducible rfl | omega
        try simp only [Act.put, pu]
        refine tkY 5 ?_ rfl hS ?_ ?_
        rotate_left
        · intro wz hz
          have z0 := (hz.cell (p := ⟨b, m * 2, none⟩) HP.out.1).trans x0
          have z1 := (hz.cell (p := ⟨b, m * 2 + 1, none⟩) HP.out.1).trans x1
          have z2 := (hz.cell (p := ⟨p, 0, none⟩) HP.out.2).trans y0
          have z3 := (hz.cell (p := ⟨p, 1, none⟩) HP.out.2).trans y1
          go_simp
          all_goals first | with_reducible rfl | omega
        try simp only [Act.put, pu]
        refine wpAnyH_ready (rs := [6]) (by kernel_rfl) (by simp) (AllReadyH.cons rfl (fun K' hK' => ?_) AllReadyH.nil)
        go_simp
        refine (HC.out _).mono ?_
        rintro e w2 ⟨rfl, hb2⟩
        have HB2 := Lib.hid (hS.trans (hb2.mono hS.size))
        clear hb2
        refine hK'.out _ _ ?_ (fun hSn => ?_)
        · exact HB2.out
        clear hK' K' hS
        have hS := hSn
        clear hSn
        try simp only [Act.put, pu]
        refine tkY 7 ?_ rfl hS ?_ ?_
        rotate_left
        · intro wz hz
          go_simp
          all_goals first | with_reducible rfl | omega
        try simp only [Act.put, pu]
        refine wpAnyH_done (by kernel_rfl) ?_ _
        clear hS
        go_wp2
        go_roundg (hi - m1)
        case measure => have := HMID.out; have := HM1.out; omega
        case rel =>
          have e1 := HMID.out
          have e2 := HM1.out
          refine ⟨m1, hi, rfl, rfl, by omega, hin, by omega, HB.out.trans (HB2.out.mono HB.out.size), fun t x ht hx => ?_, I.out.2⟩
          exact HM.out t m x _ (by omega) hx HM2.out HCC.out
      | false =>
        have HCC := Lib.hid hc
        have l3 : ¬ cR (r0, r1) (k1, k2) < 0 := of_decide_eq_false hc
        obtain ⟨z, hz9⟩ : ∃ z, cR (r0, r1) (k1, k2) = z := ⟨_, rfl⟩
        rw [hz9] at l3
        simp only [hz9] at HC
        clear hc hz9
        go_wp2_with fail
        refine wp_region_held_drew (S := fun W => Below wr.heap.size wr W) (by kernel_rfl) ?_ (fun hS => ?_)
        · exact (Below.refl _ _).drew
        refine tkY 0 ?_ rfl hS ?_ ?_
        rotate_left
        · intro wz hz
          have z0 := (hz.cell (p := ⟨b, m * 2, none⟩) HP.out.1).trans x0
          have z1 := (hz.cell (p := ⟨b, m * 2 + 1, none⟩) HP.out.1).trans x1
          have z2 := (hz.cell (p := ⟨p, 0, none⟩) HP.out.2).trans y0
          have z3 := (hz.cell (p := ⟨p, 1, none⟩) HP.out.2).trans y1
          go_simp
          all_goals first | with_reducible rfl | omega
        try simp only [Act.put, pu]
        refine tkY 1 ?_ rfl hS ?_ ?_
        rotate_left
        · intro wz hz
          have z0 := (hz.cell (p := ⟨b, m * 2, none⟩) HP.out.1).trans x0
          have z1 := (hz.cell (p := ⟨b, m * 2 + 1, none⟩) HP.out.1).trans x1
          have z2 := (hz.cell (p := ⟨p, 0, none⟩) HP.out.2).trans y0
          have z3 := (hz.cell (p := ⟨p, 1, none⟩) HP.out.2).trans y1
          go_simp
          all_goals first | with_reducible rfl | omega
        try simp only [Act.put, pu]
        refine tkY 2 ?_ rfl hS ?_ ?_
        rotate_left
        · intro wz hz
          have z0 := (hz.cell (p := ⟨b, m * 2, none⟩) HP.out.1).trans x0
          have z1 := (hz.cell (p := ⟨b, m * 2 + 1, none⟩) HP.out.1).trans x1
          have z2 := (hz.cell (p := ⟨p, 0, none⟩) HP.out.2).trans y0
          have z3 := (hz.cell (p := ⟨p, 1, none⟩) HP.out.2).trans y1
          go_simp
          all_goals first | with_reducible rfl | omega
        try simp only [Act.put, pu]
        refine tkY 3 ?_ rfl hS ?_ ?_
        rotate_left
        · intro wz hz
          have z0 := (hz.cell (p := ⟨b, m * 2, none⟩) HP.out.1).trans x0
          have z1 := (hz.cell (p := ⟨b, m * 2 + 1, none⟩) HP.out.1).trans x1
          have z2 := (hz.cell (p := ⟨p, 0, none⟩) HP.out.2).trans y0
          have z3 := (hz.cell (p := ⟨p, 1, none⟩) HP.out.2).trans y1
          go_simp
          all_goals first | with_reducible rfl | omega
        try simp only [Act.put, pu]
        refine tkY 4 ?_ rfl hS ?_ ?_
        rotate_left
        · intro wz hz
          have z0 := (hz.cell (p := ⟨b, m * 2, none⟩) HP.out.1).trans x0
          have z1 := (hz.cell (p := ⟨b, m * 2 + 1, none⟩) HP.out.1).trans x1
          have z2 := (hz.cell (p := ⟨p, 0, none⟩) HP.out.2).trans y0
          have z3 := (hz.cell (p := ⟨p, 1, none⟩) HP.out.2).trans y1
          go_simp
          all_goals first | with_reducible rfl | omega
        try simp only [Act.put, pu]
        refine tkY 5 ?_ rfl hS ?_ ?_
        rotate_left
        · intro wz hz
          have z0 := (hz.cell (p := ⟨b, m * 2, none⟩) HP.out.1).trans x0
          have z1 := (hz.cell (p := ⟨b, m * 2 + 1, none⟩) HP.out.1).trans x1
          have z2 := (hz.cell (p := ⟨p, 0, none⟩) HP.out.2).trans y0
          have z3 := (hz.cell (p := ⟨p, 1, none⟩) HP.out.2).trans y1
          go_simp
          all_goals first | with_reducible rfl | omega
        try simp only [Act.put, pu]
        refine wpAnyH_ready (rs := [6]) (by kernel_rfl) (by simp) (AllReadyH.cons rfl (fun K' hK' => ?_) AllReadyH.nil)
        go_simp
        refine (HC.out _).mono ?_
        rintro e w2 ⟨rfl, hb2⟩
        have HB2 := Lib.hid (hS.trans (hb2.mono hS.size))
        clear hb2
        refine hK'.out _ _ ?_ (fun hSn => ?_)
        · exact HB2.out
        clear hK' K' hS
        have hS := hSn
        clear hSn
        try simp only [Act.put, pu]
        refine tkY 7 ?_ rfl hS ?_ ?_
        rotate_left
        · intro wz hz
          go_simp
          all_goals first | with_reducible rfl | omega
        try simp only [Act.put, pu]
        refine wpAnyH_done (by kernel_rfl) ?_ _
        clear hS
        go_wp2
        go_roundg (m - lo)
        case measure => have := HMID.out; omega
        case rel =>
          have e1 := HMID.out
          refine ⟨lo, m, rfl, rfl, by omega, by omega, Nat.le_refl _, HB.out.trans (HB2.out.mono HB.out.size), I.out.1, fun t x ht hx => ?_⟩
          cases hp : ltE (k1, k2) x with
          | false => rfl
          | true =>
            have := HM.out m t _ x ht HM2.out hx hp
            rw [HCC.out] at this
            cases this
    · obtain rfl : hi = lo := by omega
      have hRe : R = hi := by
        rw [← HR.out]
        exact low_uniq (ltE (k1, k2)) l hi (by have := HN.out; omega) I.out.1 (fun x hx => I.out.2 hi x (Nat.le_refl _) hx)
      subst hRe
      have hBB := HB0.out.trans (HB.out.mono HB0.out.size)
      have HBB := Lib.hid hBB
      clear hBB
      by_cases hlast : R < n
      · have hRR := HH.out.below HB.out
        rcases hRR.inv with ⟨_, e0⟩ | ⟨b, cp, he, hcp, _, _, _⟩
        · have := HN.out; rw [e0] at this; simp at this; omega
        injection he with ea en ec
        clear en
        subst ea ec
        have hcp : n ≤ cap := by have := HN.out; omega
        obtain ⟨r, hr0⟩ : ∃ r, l[R]? = some r := ⟨_, List.getElem?_eq_getElem (by have := HN.out; omega)⟩
        obtain ⟨r0, r1⟩ := r
        obtain ⟨x0, x1⟩ := hRR.cells R _ hr0
        have y0 := HKR.out.cell 0
        have y1 := HKR.out.cell 1
        simp at x0 x1 y0 y1
        have HP : Hid (b < wr.heap.size ∧ p < wr.heap.size) := Lib.hid ⟨World.block_lt_of_cell? _ _ x0, HKR.out.lt⟩
        have l0 : (0 : Int) ≤ (R : Int) := by omega
        have l1 : (R : Int) < (n : Int) := by omega
        have HC := Lib.hid (fun W => earlier_any (r0, r1) (k1, k2) W)
        obtain ⟨m, hm9⟩ : ∃ m, R = m := ⟨_, rfl⟩
        obtain ⟨z, hz9⟩ : ∃ z, cR (r0, r1) (k1, k2) = z := ⟨_, rfl⟩
        simp only [hz9] at HC
        clear hr0 hRR hcp hz9
        subst hm9
        go_wp2_with fail
        refine wp_region_held_drew (S := fun W => Below wr.heap.size wr W) (by kernel_rfl) ?_ (fun hS => ?_)
        · exact (Below.refl _ _).drew
        refine tkY 0 ?_ rfl hS ?_ ?_
        rotate_left
        · intro wz hz
          go_simp
          all_goals first | with_reducible rfl | omega
        try simp only [Act.put, pu]
        refine tkY 1 ?_ rfl hS ?_ ?_
        rotate_left
        · intro wz hz
          go_simp
          all_goals first | with_reducible rfl | omega
        try simp only [Act.put, pu]
        refine tkY 2 ?_ rfl hS ?_ ?_
        rotate_left
        · intro wz hz
          go_simp
          all_goals first | with_reducible rfl | omega
        try simp only [Act.put, pu]
        refine tkY 3 (.bool true) rfl hS ?_ ?_
        · intro wz hz
          go_simp
          all_goals first | with_reducible rfl | omega
        try simp only [Act.put, pu]
        refine tkY 4 (.bool true) rfl hS ?_ ?_
        · intro wz hz
          go_simp
          all_goals first | with_reducible rfl | omega
        try simp only [Act.put, pu]
        refine tkY 5 ?_ rfl hS ?_ ?_
        rotate_left
        · intro wz hz
          have z0 := (hz.cell (p := ⟨b, R * 2, none⟩) HP.out.1).trans x0
          have z1 := (hz.cell (p := ⟨b, R * 2 + 1, none⟩) HP.out.1).trans x1
          have z2 := (hz.cell (p := ⟨p, 0, none⟩) HP.out.2).trans y0
          have z3 := (hz.cell (p := ⟨p, 1, none⟩) HP.out.2).trans y1
          go_simp
          all_goals first | with_reducible rfl | omega
        try simp only [Act.put, pu]
        refine tkY 6 ?_ rfl hS ?_ ?_
        rotate_left
        · intro wz hz
          have z0 := (hz.cell (p := ⟨b, R * 2, none⟩) HP.out.1).trans x0
          have z1 := (hz.cell (p := ⟨b, R * 2 + 1, none⟩) HP.out.1).trans x1
          have z2 := (hz.cell (p := ⟨p, 0, none⟩) HP.out.2).trans y0
          have z3 := (hz.cell (p := ⟨p, 1, none⟩) HP.out.2).trans y1
          go_simp
          all_goals first | with_reducible rfl | omega
        try simp only [Act.put, pu]
        refine tkY 7 ?_ rfl hS ?_ ?_
        rotate_left
        · intro wz hz
          have z0 := (hz.cell (p := ⟨b, R * 2, none⟩) HP.out.1).trans x0
          have z1 := (hz.cell (p := ⟨b, R * 2 + 1, none⟩) HP.out.1).trans x1
          have z2 := (hz.cell (p := ⟨p, 0, none⟩) HP.out.2).trans y0
          have z3 := (hz.cell (p := ⟨p, 1, none⟩) HP.out.2).trans y1
          go_simp
          all_goals first | with_reducible rfl | omega
        try simp only [Act.put, pu]
        refine tkY 8 ?_ rfl hS ?_ ?_
        rotate_left
        · intro wz hz
          have z0 := (hz.cell (p := ⟨b, R * 2, none⟩) HP.out.1).trans x0
          have z1 := (hz.cell (p := ⟨b, R * 2 + 1, none⟩) HP.out.1).trans x1
          have z2 := (hz.cell (p := ⟨p, 0, none⟩) HP.out.2).trans y0
          have z3 := (hz.cell (p := ⟨p, 1, none⟩) HP.out.2).trans y1
          go_simp
          all_goals first | with_reducible rfl | omega
        try simp only [Act.put, pu]
        refine tkY 9 ?_ rfl hS ?_ ?_
        rotate_left
        · intro wz hz
          have z0 := (hz.cell (p := ⟨b, R * 2, none⟩) HP.out.1).trans x0
          have z1 := (hz.cell (p := ⟨b, R * 2 + 1, none⟩) HP.out.1).trans x1
          have z2 := (hz.cell (p := ⟨p, 0, none⟩) HP.out.2).trans y0
          have z3 := (hz.cell (p := ⟨p, 1, none⟩) HP.out.2).trans y1
          go_simp
          all_goals first | with_reducible rfl | omega
        try simp only [Act.put, pu]
        refine tkY 10 ?_ rfl hS ?_ ?_
        rotate_left
        · intro wz hz
          have z0 := (hz.cell (p := ⟨b, R * 2, none⟩) HP.out.1).trans x0
          have z1 := (hz.cell (p := ⟨b, R * 2 + 1, none⟩) HP.out.1).trans x1
          have z2 := (hz.cell (p := ⟨p, 0, none⟩) HP.out.2).trans y0
          have z3 := (hz.cell (p := ⟨p, 1, none⟩) HP.out.2).trans y1
          go_simp
          all_goals first | with_reducible rfl | omega
        try simp only [Act.put, pu]
        refine wpAnyH_ready (rs := [11]) (by kernel_rfl) (by simp) (AllReadyH.cons rfl (fun K' hK' => ?_) AllReadyH.nil)
        go_simp
        refine (HC.out _).mono ?_
        rintro e w2 ⟨rfl, hb2⟩
        have HB2 := Lib.hid (hS.trans (hb2.mono hS.size))
        clear hb2
        refine hK'.out _ _ ?_ (fun hSn => ?_)
        · exact HB2.out
        clear hK' K' hS
        have hS := hSn
        clear hSn
        try simp only [Act.put, pu]
        have HB3 := Lib.hid (HBB.out.trans (HB2.out.mono HBB.out.size))
        by_cases hz : z = 0
        · subst hz
          refine tkY 12 (.bool true) rfl hS ?_ ?_
          · intro wz hz
            go_simp
            all_goals first | with_reducible rfl | omega
          try simp only [Act.put, pu]
          refine tkY 13 (.bool true) rfl hS ?_ ?_
          · intro wz hz
            go_simp
            all_goals first | with_reducible rfl | omega
          try simp only [Act.put, pu]
          refine tkY 14 ?_ rfl hS ?_ ?_
          rotate_left
          · intro wz hz
            go_simp
            all_goals first | with_reducible rfl | omega
          try simp only [Act.put, pu]
          refine tkY 15 ?_ rfl hS ?_ ?_
          rotate_left
          · intro wz hz
            go_simp
            all_goals first | with_reducible rfl | omega
          try simp only [Act.put, pu]
          refine wpAnyH_done (by kernel_rfl) ?_ _
          clear hS
          go_wp2
          go_ret2
          exact ⟨_, rfl, HB3.out⟩
        · skip
          refine tkY 12 (.bool false) rfl hS ?_ ?_
          · intro wz hz
            go_simp
            all_goals first | with_reducible rfl | omega
          try simp only [Act.put, pu]
          refine tkY 13 (.bool false) rfl hS ?_ ?_
          · intro wz hz
            go_simp
            all_goals first | with_reducible rfl | omega
          try simp only [Act.put, pu]
          refine tkY 14 ?_ rfl hS ?_ ?_
          rotate_left
          · intro wz hz
            go_simp
            all_goals first | with_reducible rfl | omega
          try simp only [Act.put, pu]
          refine tkY 15 ?_ rfl hS ?_ ?_
          rotate_left
          · intro wz hz
            go_simp
            all_goals first | with_reducible rfl | omega
          try simp only [Act.put, pu]
          refine wpAnyH_done (by kernel_rfl) ?_ _
          clear hS
          go_wp2
          go_ret2
          exact ⟨_, rfl, HB3.out⟩
      · go_wp2_with fail
        go_quiet (fail)
        go_wp2
        go_ret2
        exact ⟨_, rfl, HBB.out.trans ((below_drewN _ _ _).mono HBB.out.size)⟩
end Go.Proofs.Ytochjbmighijgaa.PO
