/- Package pool, its code: New, Holds, Pin. Conditions: sizes as New asks; how many calls there were. -/
import Derived.Test.YtochjbmighijgaaPoj
namespace Go.Proofs.Ytochjbmighijgaa.PO
open Go.ChangeShapes Go.WideShapes Go.ChangeAt Go.RowKit Go.Maps Go.ChangeMaps
open Go.Proofs.Ytochjbmighijgaa.SL Go.Proofs.Ytochjbmighijgaa.RW
open Go.Proofs.Ytochjbmighijgaa.LN (tkY tkN pu OI IS RdP)
set_option maxRecDepth 100000
set_option linter.unusedVariables false
set_option linter.unusedSimpArgs false

theorem PB.lower {B B' : Nat} {w : World} {a N : Nat} {C : Cf} {R : Raw} {M : Nat → Mem} (h : PB B w a N C R M) (hB : B' ≤ B) : PB B' w a N C R M :=
  ⟨h.bk, h.pk, h.mg, h.ms, h.mn, fun g q hg => by
    have r := h.row g q hg
    exact ⟨r.bk, r.iq.mono hB, r.ln.mono hB, Nat.le_trans hB r.ge, r.nm⟩, h.sep, h.dis, ⟨Nat.le_trans hB h.ge.1, Nat.le_trans hB h.ge.2.1, Nat.le_trans hB h.ge.2.2.1, Nat.le_trans hB h.ge.2.2.2.1, Nat.le_trans hB h.ge.2.2.2.2⟩, h.cf⟩
def R0 : Raw := ⟨0, fun _ => none, fun _ => none, fun _ => none, fun _ => none⟩
def MadeP (B : Nat) (l m t i : Nat) (a : Nat) (w w' : World) : Prop := ∃ C, PL w.heap.size w' a 0 C R0 ∧ C.lim = l ∧ C.most = m ∧ C.wait = t ∧ C.idl = i ∧ Below w.heap.size w w'
set_option maxHeartbeats 4000000 in
theorem made_any (w : World) (l m t i : Nat) (hc : 1 ≤ l ∧ l ≤ 1000 ∧ 1 ≤ m ∧ m ≤ 1000 ∧ t ≤ 549755813888 ∧ i ≤ 549755813888) :
    Calls Try.prog 19 #[nV (l : Int), nV (m : Int), nV (t : Int), nV (i : Int)] w fun e w' => ∃ a, e = .returned (ptr a) ∧ MadeP w.heap.size l m t i a w w' := by
  have hmm := @run_makeMap Try.prog
  obtain ⟨gb, hgb⟩ : ∃ b, w.heap.size = b := ⟨_, rfl⟩
  obtain ⟨W1, hW1⟩ : ∃ W, w.alloc (.map #[] 0) = W := ⟨_, rfl⟩
  obtain ⟨sb, hsb⟩ : ∃ b, W1.heap.size = b := ⟨_, rfl⟩
  obtain ⟨W2, hW2⟩ : ∃ W, W1.alloc (.map #[] 0) = W := ⟨_, rfl⟩
  obtain ⟨nb, hnb⟩ : ∃ b, W2.heap.size = b := ⟨_, rfl⟩
  obtain ⟨W3, hW3⟩ : ∃ W, W2.alloc (.map #[] 0) = W := ⟨_, rfl⟩
  obtain ⟨a, ha⟩ : ∃ b, W3.heap.size = b := ⟨_, rfl⟩
  obtain ⟨W4, hW4⟩ : ∃ W, W3.alloc (.cells #[.pointer none, nV (l : Int), nV (m : Int), nV (t : Int), nV (i : Int), nV 0, .nilFunc, .map (some gb), .map (some sb), .map (some nb)] 53) = W := ⟨_, rfl⟩
  obtain ⟨pb, hpb⟩ : ∃ b, W4.heap.size = b := ⟨_, rfl⟩
  obtain ⟨W5, hW5⟩ : ∃ W, W4.alloc (.cells #[ptr a] 23) = W := ⟨_, rfl⟩
  have b1 : Below w.heap.size w W1 := by rw [← hW1]; exact (Below.refl _ _).alloc (Nat.le_refl _) _
  have b2 : Below W1.heap.size W1 W2 := by rw [← hW2]; exact (Below.refl _ _).alloc (Nat.le_refl _) _
  have b3 : Below W2.heap.size W2 W3 := by rw [← hW3]; exact (Below.refl _ _).alloc (Nat.le_refl _) _
  have b4 : Below W3.heap.size W3 W4 := by rw [← hW4]; exact (Below.refl _ _).alloc (Nat.le_refl _) _
  have b5 : Below W4.heap.size W4 W5 := by rw [← hW5]; exact (Below.refl _ _).alloc (Nat.le_refl _) _
  have s1 : W1.heap.size = w.heap.size + 1 := by rw [← hW1]; simp
  have s2 : W2.heap.size = W1.heap.size + 1 := by rw [← hW2]; simp
  have s3 : W3.heap.size = W2.heap.size + 1 := by rw [← hW3]; simp
  have s4 : W4.heap.size = W3.heap.size + 1 := by rw [← hW4]; simp
  have mg : MV.MapV Try.prog 9 W1 gb 0 (fun _ => none) := by rw [← hW1, ← hgb]; exact MV.MapV.made _ _ _
  have ms : MV.MapV Try.prog 3 W2 sb 0 (fun _ => none) := by rw [← hW2, ← hsb]; exact MV.MapV.made _ _ _
  have mn : MV.MapV Try.prog 3 W3 nb 0 (fun _ => none) := by rw [← hW3, ← hnb]; exact MV.MapV.made _ _ _
  have ka : Bk W4 a 53 #[.pointer none, nV (l : Int), nV (m : Int), nV (t : Int), nV (i : Int), nV 0, .nilFunc, .map (some gb), .map (some sb), .map (some nb)] := by rw [← hW4, ← ha]; exact Bk.new _ _ _
  have kp : Bk W5 pb 23 #[ptr a] := by rw [← hW5, ← hpb]; exact Bk.new _ _ _
  have ka5 : Bk W5 a 53 _ := ka.heap (b5.block a ka.lt)
  obtain ⟨mg5, ms5, mn5⟩ : MV.MapV Try.prog 9 W5 gb 0 (fun _ => none) ∧ MV.MapV Try.prog 3 W5 sb 0 (fun _ => none) ∧ MV.MapV Try.prog 3 W5 nb 0 (fun _ => none) := ⟨(((mg.below b2).below b3).below b4).below b5, ((ms.below b3).below b4).below b5, (mn.below b4).below b5⟩
  have b15 : Below w.heap.size w W5 := b1.trans ((b2.trans ((b3.trans ((b4.trans (b5.mono (by omega))).mono (by omega))).mono (by omega))).mono (by omega))
  have k0 := ka5.cell 0
  have f0 := ka5.frozen 0
  have k6 := ka5.cell 6
  have f6 := ka5.frozen 6
  have p0 := kp.cell 0
  simp at k0 k6 p0
  have ha_pb : pb ≠ a := by omega
  have HF : Hid (∃ a', Ending.returned (ptr a) = .returned (ptr a') ∧ MadeP w.heap.size l m t i a' w ((W5.setCell ⟨a, 0, none⟩ (ptr a)).setCell ⟨a, 6, none⟩ (.func (.func 42) #[] #[ptr pb]))) := Lib.hid (by
    have far : ∀ b, b ≠ a → ((W5.setCell ⟨a, 0, none⟩ (ptr a)).setCell ⟨a, 6, none⟩ (.func (.func 42) #[] #[ptr pb])).heap[b]? = W5.heap[b]? := fun b hb => (Below.heap_setCell _ ⟨a, 6, none⟩ _ b hb).trans (Below.heap_setCell _ ⟨a, 0, none⟩ _ b hb)
    have hg9 : gb ≠ a := by omega
    have hs9 : sb ≠ a := by omega
    have hn9 : nb ≠ a := by omega
    have hb6 : Below w.heap.size w ((W5.setCell ⟨a, 0, none⟩ (ptr a)).setCell ⟨a, 6, none⟩ (.func (.func 42) #[] #[ptr pb])) := (b15.setCell (p := ⟨a, 0, none⟩) (by show w.heap.size ≤ a; omega) _).setCell (p := ⟨a, 6, none⟩) (by show w.heap.size ≤ a; omega) _
    have nogm : ∀ kl, (fun _ => none : Lit → Option Value) kl = gV R0 kl := fun kl => by unfold gV MV.fS R0; cases kl <;> rfl
    have nosm : ∀ kl, (fun _ => none : Lit → Option Value) kl = sV R0 kl := fun kl => by
      unfold sV MV.fI R0
      cases kl with
      | int q n => cases q <;> rfl
      | _ => rfl
    have nonm : ∀ kl, (fun _ => none : Lit → Option Value) kl = lV R0 kl := fun kl => by
      unfold lV MV.fI R0
      cases kl with
      | int q n => cases q <;> rfl
      | _ => rfl
    refine ⟨a, rfl, ⟨l, m, t, i, gb, sb, nb, pb⟩, ⟨fun _ => ⟨.slice none 0 0, 0, .slice none 0 0⟩, ⟨(ka5.set_ 0 (ptr a)).set_ 6 _, kp.heap (far _ ha_pb), (mg5.keep (far _ hg9)).congr nogm, (ms5.keep (far _ hs9)).congr nosm, (mn5.keep (far _ hn9)).congr nonm, fun g q h => (by cases h), fun g g' q q' h => (by cases h), ⟨by show gb ≠ sb; omega, by show gb ≠ nb; omega, by show sb ≠ nb; omega⟩, ⟨by omega, by show w.heap.size ≤ gb; omega, by show w.heap.size ≤ sb; omega, by show w.heap.size ≤ nb; omega, by show w.heap.size ≤ pb; omega⟩, hc⟩⟩, rfl, rfl, rfl, rfl, hb6⟩)
  have q6 : (W5.setCell ⟨a, 0, none⟩ (.pointer (some ⟨a, 0, none⟩))).cell? ⟨a, 6, none⟩ = some .nilFunc := by have := (ka5.set_ 0 (ptr a)).cell 6; simpa using this
  have g6 : (W5.setCell ⟨a, 0, none⟩ (.pointer (some ⟨a, 0, none⟩))).frozen? ⟨a, 6, none⟩ = false := (ka5.set_ 0 (ptr a)).frozen 6
  have hst : ∀ (W : World) (p : Addr) (md), (store p (.func (.func 42) #[] #[.pointer (some ⟨pb, 0, none⟩)]) md).run Try.prog W = stored Try.prog W p (.func (.func 42) #[] #[.pointer (some ⟨pb, 0, none⟩)]) md := fun W p md => run_store Try.prog W p _ md rfl
  clear b1 b2 b3 b4 b5 s1 s2 s3 s4 mg ms mn ka kp ka5 mg5 ms5 mn5 b15 hc
  go_enter Try.func19, Try.ntmps19
  go_wp2_with fail
  try rw [hW1]
  try rw [hgb]
  try rw [hsb]
  try rw [hW2]
  try rw [hnb]
  try rw [hW3]
  try rw [ha]
  try rw [hW4]
  try rw [hpb]
  try rw [hW5]
  clear hW1 hW2 hW3 hW4 hW5 hgb hsb hnb ha hpb
  go_wp2
  go_ret
  exact HF.out
set_option maxHeartbeats 4000000 in
theorem new_yes (w : World) (l m t i : Nat) (hc : 1 ≤ l ∧ l ≤ 1000 ∧ 1 ≤ m ∧ m ≤ 1000 ∧ t ≤ 549755813888 ∧ i ≤ 549755813888) (h1 : 1 ≤ t) (h2 : 1 ≤ i) :
    Calls Try.prog 7 #[nV (l : Int), nV (m : Int), nV (t : Int), nV (i : Int)] w fun e w' => ∃ a, e = .returned (.tuple #[ptr a, nV 0]) ∧ MadeP w.heap.size l m t i a w w' := by
  have l1 : ¬ ((l : Int) < 1) := by omega
  have l2 : ¬ ((1000 : Int) < (l : Int)) := by omega
  have l3 : ¬ ((m : Int) < 1) := by omega
  have l4 : ¬ ((1000 : Int) < (m : Int)) := by omega
  have l5 : ¬ ((t : Int) < 1) := by omega
  have l6 : ¬ ((549755813888 : Int) < (t : Int)) := by omega
  have l7 : ¬ ((i : Int) < 1) := by omega
  have l8 : ¬ ((549755813888 : Int) < (i : Int)) := by omega
  obtain ⟨W1, hW1⟩ : ∃ W, w.alloc (.cells #[nV (l : Int), nV (m : Int)] 3) = W := ⟨_, rfl⟩
  obtain ⟨x, hx⟩ : ∃ b, w.heap.size = b := ⟨_, rfl⟩
  obtain ⟨W2, hW2⟩ : ∃ W, W1.alloc (.cells #[nV (t : Int), nV (i : Int)] 3) = W := ⟨_, rfl⟩
  obtain ⟨y, hy⟩ : ∃ b, W1.heap.size = b := ⟨_, rfl⟩
  have b1 : Below w.heap.size w W1 := by rw [← hW1]; exact (Below.refl _ _).alloc (Nat.le_refl _) _
  have b2 : Below W1.heap.size W1 W2 := by rw [← hW2]; exact (Below.refl _ _).alloc (Nat.le_refl _) _
  have k1 : Bk W1 x 3 #[nV (l : Int), nV (m : Int)] := by rw [← hW1, ← hx]; exact Bk.new _ _ _
  have k2 : Bk W2 y 3 #[nV (t : Int), nV (i : Int)] := by rw [← hW2, ← hy]; exact Bk.new _ _ _
  have x0 := k1.cell 0
  have x1 := k1.cell 1
  have y0 := k2.cell 0
  have y1 := k2.cell 1
  simp at x0 x1 y0 y1
  have HB := Lib.hid (b1.trans (b2.mono b1.size))
  have HM := Lib.hid (made_any W2 l m t i hc)
  clear b1 b2 k1 k2 hc h1 h2
  go_enter Try.func7, Try.ntmps7
  go_wp2_with fail
  try rw [hx]
  try rw [hW1]
  clear hx hW1
  go_loopg [18] 2 (fun gk u wx => (gk = 2 ∧ u = nV 0 ∧ wx = W1) ∨ (gk = 1 ∧ u = nV 1 ∧ wx = W1) ∨ (gk = 0 ∧ u = nV 2 ∧ wx = W1))
  case atStart => exact .inl ⟨rfl, rfl, rfl⟩
  case round =>
    rcases hrel with ⟨rfl, rfl, rfl⟩ | ⟨rfl, rfl, rfl⟩ | ⟨rfl, rfl, rfl⟩
    · go_wp2
      go_roundg 1
      case measure => omega
      case rel => exact .inr (.inl ⟨rfl, rfl, rfl⟩)
    · go_wp2
      go_roundg 0
      case measure => omega
      case rel => exact .inr (.inr ⟨rfl, rfl, rfl⟩)
    · skip
      go_wp2_with fail
      try rw [hy]
      try rw [hW2]
      clear hy hW2
      go_loopg [33] 2 (fun gk u wx => (gk = 2 ∧ u = nV 0 ∧ wx = W2) ∨ (gk = 1 ∧ u = nV 1 ∧ wx = W2) ∨ (gk = 0 ∧ u = nV 2 ∧ wx = W2))
      case atStart => exact .inl ⟨rfl, rfl, rfl⟩
      case round =>
        rcases hrel with ⟨rfl, rfl, rfl⟩ | ⟨rfl, rfl, rfl⟩ | ⟨rfl, rfl, rfl⟩
        · go_wp2
          go_roundg 1
          case measure => omega
          case rel => exact .inr (.inl ⟨rfl, rfl, rfl⟩)
        · go_wp2
          go_roundg 0
          case measure => omega
          case rel => exact .inr (.inr ⟨rfl, rfl, rfl⟩)
        · skip
          go_wp2_with fail
          refine HM.out.mono ?_
          rintro e w3 ⟨a, rfl, C, h1, h2, h3, h4, h5, h6⟩
          have HF := Lib.hid (show MadeP w.heap.size l m t i a w w3 from ⟨C, h1.elim fun M h => ⟨M, h.lower HB.out.size⟩, h2, h3, h4, h5, HB.out.trans (h6.mono HB.out.size)⟩)
          clear h1 h2 h3 h4 h5 h6
          go_wp2
          go_ret2
          exact ⟨a, rfl, HF.out⟩
theorem new_zero (w : World) (m t i : Int) :
    Calls Try.prog 7 #[nV 0, nV m, nV t, nV i] w fun e w' => e = .returned (.tuple #[.pointer none, nV 1]) ∧ Below w.heap.size w w' := by
  obtain ⟨W1, hW1⟩ : ∃ W, w.alloc (.cells #[nV 0, nV m] 3) = W := ⟨_, rfl⟩
  obtain ⟨x, hx⟩ : ∃ b, w.heap.size = b := ⟨_, rfl⟩
  have b1 : Below w.heap.size w W1 := by rw [← hW1]; exact (Below.refl _ _).alloc (Nat.le_refl _) _
  have k1 : Bk W1 x 3 #[nV 0, nV m] := by rw [← hW1, ← hx]; exact Bk.new _ _ _
  have x0 := k1.cell 0
  simp at x0
  have HB := Lib.hid b1
  clear b1 k1
  go_enter Try.func7, Try.ntmps7
  go_wp2_with fail
  try rw [hx]
  try rw [hW1]
  clear hx hW1
  go_loopg [18] 2 (fun gk u wx => gk = 2 ∧ u = nV 0 ∧ wx = W1)
  case atStart => exact ⟨rfl, rfl, rfl⟩
  case round =>
    obtain ⟨rfl, rfl, rfl⟩ := hrel
    go_wp2
    go_ret2
    exact ⟨rfl, HB.out⟩
end Go.Proofs.Ytochjbmighijgaa.PO
