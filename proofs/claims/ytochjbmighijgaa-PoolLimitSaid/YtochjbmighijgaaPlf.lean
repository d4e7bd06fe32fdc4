/- Package line, its code: Join, First, Copy. Conditions: as each. -/
import Derived.Test.YtochjbmighijgaaLne
namespace Go.Proofs.Ytochjbmighijgaa.LN
open Go.ChangeShapes Go.WideShapes Go.ChangeAt Go.RowKit
open Go.Proofs.Ytochjbmighijgaa.SL Go.Proofs.Ytochjbmighijgaa.RW
set_option maxRecDepth 100000
set_option linter.unusedVariables false
set_option linter.unusedSimpArgs false

/-- what a Join makes of memory: the line's own block, the room behind those who wait, new memory -/
structure Jk (w w' : World) (a : Nat) (v : Value) : Prop where
  os : w'.os = w.os
  tape : w'.tape = w.tape
  output : w'.output = w.output
  size : w.heap.size ≤ w'.heap.size
  block : ∀ k, k < w.heap.size → k ≠ a → v.ownBlock ≠ some k → w'.heap[k]? = w.heap[k]?
  row : ∀ g off n cap cur, g ≠ a → v = .slice (some ⟨g, off, none⟩) n cap → w.heap[g]? = some (.cells cur 96 (0, 0)) → ∃ cur', w'.heap[g]? = some (.cells cur' 96 (0, 0)) ∧ cur'.size = cur.size ∧ ∀ i, i < off + n * 2 → cur'[i]? = cur[i]?
section
variable {B : Nat} {w w' : World} {a most : Nat} {v : Value} {l : List Wt}
theorem Jk.of_below (h : Below w.heap.size w w') (a : Nat) (v : Value) : Jk w w' a v := ⟨h.os, h.tape, h.output, h.size, fun k hk _ _ => h.block k hk, fun g off n cap cur _ _ hh => ⟨cur, (h.block g (Array.getElem?_eq_some_iff.1 hh).1).trans hh, rfl, fun _ _ => rfl⟩⟩
theorem Jk.below (h : Jk w w' a v) (hl : LC B w a most v l) : Below B w w' :=
  ⟨h.os, h.tape, h.output, h.size, fun k hk => h.block k (Nat.lt_trans (Nat.lt_of_lt_of_le hk hl.ab) hl.bk.lt) (fun e => by have := hl.ab; omega) (fun e => by have := (hl.ws.lt k e).1; omega)⟩
/-- all cells but those of lines are as they were -/
def Kf (w w' : World) : Prop := ∀ (b : Nat) (cs : Array Value) (t : TypeId) (fr : Nat × Nat), t ≠ 94 → t ≠ 96 → w.heap[b]? = some (.cells cs t fr) → w'.heap[b]? = w.heap[b]?
theorem Kf.refl (w : World) : Kf w w := fun _ _ _ _ _ _ _ => rfl
theorem Kf.trans {a b c : World} (h : Kf a b) (k : Kf b c) : Kf a c := fun i cs t fr ht hu hb => (k i cs t fr ht hu ((h i cs t fr ht hu hb).trans hb)).trans (h i cs t fr ht hu hb)
theorem Kf.below {w w' : World} (h : Below w.heap.size w w') : Kf w w' := fun b cs t fr _ _ hb => h.block b (Array.getElem?_eq_some_iff.1 hb).1
theorem Kf.bk {w w' : World} {g : Nat} {t : TypeId} {cs : Array Value} (h : Kf w w') (hb : Bk w g t cs) (ht : t ≠ 94 := by decide) (hu : t ≠ 96 := by decide) : Bk w' g t cs := (h g cs t (0, 0) ht hu hb).trans hb
theorem Kf.ki {w w' : World} (h : Kf w w') : Ki w w' := fun b cs fr hb => h b cs _ fr (by decide) (by decide) hb
theorem Jk.kf (h : Jk w w' a v) (hl : LC B w a most v l) : Kf w w' := fun b cs t fr ht hu hb => h.block b (Array.getElem?_eq_some_iff.1 hb).1
  (fun e => by
    have := hl.bk
    unfold Bk at this
    rw [← e, hb] at this
    injection this with this
    injection this with _ this
    exact ht this)
  (fun e => by
    obtain ⟨cur, hc⟩ := hl.ws.ty b e
    rw [hb] at hc
    injection hc with hc
    injection hc with _ hc
    exact hu hc)
/-- what turns the line's own block alone -/
theorem kf_chg (h : Chg (fun b => b = a) w w') (hl : LC B w a most v l) : Kf w w' := fun b cs t fr ht hu hb => h.block b (Array.getElem?_eq_some_iff.1 hb).1 (fun e => by
    have := hl.bk
    unfold Bk at this
    rw [← e, hb] at this
    injection this with this
    injection this with _ this
    exact ht this)
/-- another one that stands there: of the same row, or of none -/
structure Cp (w : World) (a c most : Nat) (v u : Value) (B : Nat) (l : List Wt) : Prop where
  lc : LC B w c most u l
  ne : c ≠ a
  of : u = .slice none 0 0 ∨ ∃ A cap, v = .slice (some A) l.length cap ∧ u = .slice (some A) l.length l.length
theorem Cp.jk {c : Nat} {u : Value} (h : Cp w a c most v u B l) (hl : LC B w a most v l) (hj : Jk w w' a v) : LC B w' c most u l := by
  have hbk : w'.heap[c]? = w.heap[c]? := hj.block c h.lc.bk.lt h.ne (fun e => by
    obtain ⟨cur, hc⟩ := hl.ws.ty c e
    have := h.lc.bk
    unfold Bk at this
    rw [hc] at this
    injection this with this
    injection this with _ this
    exact absurd this (by decide))
  refine ⟨h.lc.bk.heap hbk, ?_, h.lc.le, h.lc.ma, h.lc.ab⟩
  rcases h.of with rfl | ⟨A, cap, rfl, rfl⟩
  · rcases h.lc.ws with ⟨_, rfl⟩ | ⟨g, off, cap, cur, e, _⟩
    · exact WS.nil _ _ _
    · cases e
  · rcases h.lc.ws with ⟨e, _⟩ | ⟨g, off, cap', cur, e, hb, hh, hc, hm, hs, hx⟩
    · cases e
    · injection e with e1 e2 e3
      injection e1 with e1
      subst e1 e3
      have hga : g ≠ a := hl.ne g rfl
      obtain ⟨cur', h1, h2, h3⟩ := hj.row g off _ cap cur hga rfl hh
      refine .inr ⟨g, off, l.length, cur', rfl, hb, h1, hc, hm, by rw [h2]; exact hs, fun j x hx2 => ?_⟩
      have hj2 := (List.getElem?_eq_some_iff.1 hx2).1
      rw [pC_len] at hj2
      rw [h3 _ (by omega)]
      exact hx j x hx2
theorem LC.chg {c : Nat} {u : Value} {l' : List Wt} {m' : Nat} (h : LC B w c m' u l') (hc : Chg (fun b => b = a) w w') (hne : c ≠ a) (hl : ∀ g, u.ownBlock = some g → g ≠ a) : LC B w' c m' u l' :=
  h.keep (hc.block c h.bk.lt hne) fun g hg => hc.block g (h.ws.lt g hg).2 (hl g hg)
/-- the row of v', of v, or new -/
def Own (w : World) (v v' : Value) : Prop := ∀ g, v'.ownBlock = some g → v.ownBlock = some g ∨ w.heap.size ≤ g
theorem Own.refl (w : World) (v : Value) : Own w v v := fun _ h => .inl h
def JoinP (w : World) (B a most : Nat) (v : Value) (l' : List Wt) (r : Int) (e : Ending) (w' : World) : Prop :=
  e = .returned (nV r) ∧ (∃ v', LC B w' a most v' l' ∧ Own w v v') ∧ Jk w w' a v
theorem LC.app {o : Obj} {w3 : World} (h : LC B w a most v l) (ap : App 96 (w.alloc o) w3 v) : Bk w3 a 94 #[ptr a, nV (most : Int), v] :=
  (h.bk.alloc o).heap (ap.block a (h.bk.alloc o).lt fun e => h.ne a e rfl)
theorem join_end {o : Obj} {w2 w3 : World} {u : Value} {p : Wt} (hl : LC B w a most v l) (hb : Below w.heap.size w w2) (h : LC B w2 a most v l) (ap : App 96 (w2.alloc o) w3 v) (o3 : WS 96 B w3 u (l ++ [p])) (hm : l.length < most) (li : Lies (w2.alloc o).heap.size v u) :
    JoinP w B a most v (l ++ [p]) 0 (.returned (nV 0)) (w3.setCell ⟨a, 2, none⟩ u) := by
  have hk := h.app ap
  have far : ∀ k, k ≠ a → (w3.setCell ⟨a, 2, none⟩ u).heap[k]? = w3.heap[k]? := fun k hk => Below.heap_setCell w3 ⟨a, 2, none⟩ u k hk
  have hu : ∀ g, u.ownBlock = some g → g ≠ a := by
    intro g hg e
    obtain ⟨cur, hc⟩ := o3.ty g hg
    unfold Bk at hk
    rw [e, hk] at hc
    injection hc with hc
    injection hc with _ hc
    exact absurd hc (by decide)
  have hba : Below w.heap.size w (w2.alloc o) := hb.alloc hb.size o
  refine ⟨rfl, ⟨u, ⟨hk.set_ 2 u, o3.keep fun g hg => far g (hu g hg), by rw [List.length_append]; exact hm, h.ma, h.ab⟩, fun g hg => (li g hg).elim (fun h9 => .inr (Nat.le_trans hba.size h9)) fun h9 => .inl h9.1⟩, ⟨ap.os.trans hba.os, ap.tape.trans hba.tape, ap.output.trans hba.output, ?_, fun k hk1 hka hkv => ?_, fun g off n cap cur hga hv hh => ?_⟩⟩
  · have h1 := hba.size
    have h2 := ap.size
    simp [World.setCell]; omega
  · exact (far k hka).trans ((ap.block k (Nat.lt_of_lt_of_le hk1 hba.size) hkv).trans (hba.block k hk1))
  · obtain ⟨cur', h1, h2, h3⟩ := ap.row g off n cap cur hv ((hba.block g (Array.getElem?_eq_some_iff.1 hh).1).trans hh)
    exact ⟨cur', (far g hga).trans h1, h2, h3⟩
set_option maxHeartbeats 4000000 in
theorem join_any (h : LC B w a most v l) (id till : Int) (hB : B ≤ w.heap.size) :
    Calls Try.prog 25 #[ptr a, nV id, nV till] w (JoinP w B a most v (joinS most l id till).1 (joinS most l id till).2) := by
  obtain ⟨c0, c1, c2⟩ := h.cells
  have HG := Lib.hid (given_yes w a c0)
  have HL := Lib.hid h
  by_cases ht : till < 0 ∨ 1099511627776 < till
  · have hj : joinS most l id till = (l, 1) := if_pos ht
    have HF : Hid (JoinP w B a most v (joinS most l id till).1 (joinS most l id till).2 (.returned (nV 1)) w) := Lib.hid (by rw [hj]; exact ⟨rfl, ⟨v, h, Own.refl w v⟩, .of_below (Below.refl _ _) a v⟩)
    obtain ⟨Q, hQ⟩ : ∃ Q, JoinP w B a most v (joinS most l id till).1 (joinS most l id till).2 = Q := ⟨_, rfl⟩
    rw [hQ] at HF ⊢
    clear hj hQ h
    rcases ht with h1 | h2
    · go_enter Try.func25, Try.ntmps25
      go_wp2_with fail
      refine HG.out.mono ?_
      rintro e w1 ⟨rfl, rfl⟩
      go_wp2
      exact HF.out
    · have h1 : ¬ till < 0 := by omega
      go_enter Try.func25, Try.ntmps25
      go_wp2_with fail
      refine HG.out.mono ?_
      rintro e w1 ⟨rfl, rfl⟩
      go_wp2
      exact HF.out
  · have t1 : ¬ till < 0 := fun e => ht (.inl e)
    have t2 : ¬ 1099511627776 < till := fun e => ht (.inr e)
    have HP := Lib.hid (place_any h id)
    by_cases hp : 0 ≤ placeS l id
    · have hj : joinS most l id till = (l, 9) := by unfold joinS; rw [if_neg ht, if_pos hp]
      have HF : Hid (∀ w', Below w.heap.size w w' → JoinP w B a most v (joinS most l id till).1 (joinS most l id till).2 (.returned (nV 9)) w') := Lib.hid (fun w' hb => by rw [hj]; exact ⟨rfl, ⟨v, h.below hb, Own.refl w v⟩, .of_below hb a v⟩)
      obtain ⟨Q, hQ⟩ : ∃ Q, JoinP w B a most v (joinS most l id till).1 (joinS most l id till).2 = Q := ⟨_, rfl⟩
      simp only [hQ] at HF
      rw [hQ]
      obtain ⟨P, hP⟩ : ∃ P, placeS l id = P := ⟨_, rfl⟩
      rw [hP] at HP hp
      clear hj hQ h ht hP
      go_enter Try.func25, Try.ntmps25
      go_wp2_with fail
      refine HG.out.mono ?_
      rintro e w1 ⟨rfl, rfl⟩
      go_wp2_with fail
      refine HP.out.mono ?_
      rintro e w1 ⟨rfl, hb⟩
      have HB := Lib.hid hb
      clear hb
      go_wp2
      exact HF.out _ HB.out
    · have hp2 : placeS l id < 0 := by omega
      obtain ⟨n, hn⟩ : ∃ n, l.length = n := ⟨_, rfl⟩
      have HN := Lib.hid hn
      obtain ⟨va, vc, hva⟩ := h.ws.form
      rw [hn] at hva
      by_cases hm : most ≤ n
      · have hj : joinS most l id till = (l, 11) := by unfold joinS; rw [if_neg ht, if_neg hp, if_pos (by rw [hn]; exact hm)]
        have HF : Hid (∀ w', Below w.heap.size w w' → JoinP w B a most v (joinS most l id till).1 (joinS most l id till).2 (.returned (nV 11)) w') := Lib.hid (fun w' hb => by rw [hj]; exact ⟨rfl, ⟨v, h.below hb, Own.refl w v⟩, .of_below hb a v⟩)
        obtain ⟨Q, hQ⟩ : ∃ Q, JoinP w B a most v (joinS most l id till).1 (joinS most l id till).2 = Q := ⟨_, rfl⟩
        simp only [hQ] at HF
        rw [hQ]
        obtain ⟨P, hP⟩ : ∃ P, placeS l id = P := ⟨_, rfl⟩
        rw [hP] at HP hp2
        have l3 : ¬ (0 : Int) ≤ P := by omega
        have l4 : (most : Int) ≤ (n : Int) := by omega
        subst hva
        clear hj hQ h ht hP hp hn
        go_enter Try.func25, Try.ntmps25
        go_wp2_with fail
        refine HG.out.mono ?_
        rintro e w1 ⟨rfl, rfl⟩
        go_wp2_with fail
        refine HP.out.mono ?_
        rintro e w1 ⟨rfl, hb⟩
        have HB := Lib.hid hb
        obtain ⟨d0, d1, d2⟩ := (HL.out.below hb).cells
        clear hb
        go_wp2_with fail
        go_quiet (fail)
        go_wp2
        exact HF.out _ (HB.out.trans ((below_drewN _ _ _).mono HB.out.size))
      · have hj : joinS most l id till = (l ++ [(id, till)], 0) := by unfold joinS; rw [if_neg ht, if_neg hp, if_neg (by rw [hn]; exact hm)]
        rw [hj]
        obtain ⟨P, hP⟩ : ∃ P, placeS l id = P := ⟨_, rfl⟩
        rw [hP] at HP hp2
        have l3 : ¬ (0 : Int) ≤ P := by omega
        have l4 : ¬ (most : Int) ≤ (n : Int) := by omega
        have HM := Lib.hid hm
        subst hva
        have HBB := Lib.hid hB
        clear hj h ht hP hp hn
        go_enter Try.func25, Try.ntmps25
        go_wp2_with fail
        refine HG.out.mono ?_
        rintro e w1 ⟨rfl, rfl⟩
        go_wp2_with fail
        refine HP.out.mono ?_
        rintro e w1 ⟨rfl, hb⟩
        have HB := Lib.hid hb
        have HL1 := Lib.hid (HL.out.below hb)
        obtain ⟨d0, d1, d2⟩ := (HL.out.below hb).cells
        clear hb
        go_wp2_with fail
        go_quiet (fail)
        obtain ⟨W2, hW2⟩ : ∃ W, w1.drewN nq = W := ⟨_, rfl⟩
        rw [hW2]
        have hb2 : Below w1.heap.size w1 W2 := by rw [← hW2]; exact below_drewN _ _ _
        have HL2 := Lib.hid (HL1.out.below hb2)
        have HB2 := Lib.hid (HB.out.trans (hb2.mono HB.out.size))
        obtain ⟨e0, e1, e2⟩ := HL2.out.cells
        clear hW2 hb2 d0 d1 d2 c0 c1 c2
        go_wp2_with (at_builtin; refine wpList_app_pair ptW B (.slice va n vc) l (id, till) W2.heap.size rfl _ _ rfl rfl ((HL2.out.ws).below ((Below.refl _ _).alloc (Nat.le_refl _) _)) rfl (Bk.new _ _ _) (by have := HL2.out.le; have := HL2.out.ma; omega) (by have := HBB.out; have := HB2.out.size; simp; omega) ?_; intro vb vd w3 o3 ap3 li3; have hk3 := HL2.out.app ap3; have e3 := hk3.cell 2; have f3 := hk3.frozen 2)
        go_ret
        exact join_end HL.out HB2.out HL2.out ap3 o3 (by have := HM.out; have := HN.out; omega) li3
end
end Go.Proofs.Ytochjbmighijgaa.LN
