/- The document's store for slru: what it is, as plain lists; Has, Drop. Conditions: how many. -/
import Derived.Test.YtfilmbeoggmglaaSmt
namespace Go.Proofs.Ytfilmbeoggmglaa.SL
open Go.ChangeShapes Go.WideShapes Go.ChangeAt Go.RowKit Go.Maps Go.ChangeMaps
set_option maxRecDepth 100000
set_option linter.unusedVariables false
set_option linter.unusedSimpArgs false

theorem place_has (k : ByteArray) : ∀ l : List En, (placeE l k = none ∧ hasE k l = none) ∨ ∃ i y, placeE l k = some i ∧ l[i]? = some y ∧ hasE k l = some y.2
  | [] => .inl ⟨rfl, rfl⟩
  | x :: l => by
    by_cases e : x.1 = k
    · refine .inr ⟨0, x, ?_, rfl, ?_⟩
      · unfold placeE; rw [List.findIdx?_cons]; simp [e]
      · unfold hasE; rw [List.find?_cons_of_pos (by simp [e])]; rfl
    · have e1 : placeE (x :: l) k = (placeE l k).map (· + 1) := by unfold placeE; rw [List.findIdx?_cons]; simp [e]
      have e2 : hasE k (x :: l) = hasE k l := by unfold hasE; rw [List.find?_cons_of_neg (by simp [e])]
      rw [e1, e2]
      rcases place_has k l with ⟨h1, h2⟩ | ⟨i, y, h1, h2, h3⟩
      · exact .inl ⟨by rw [h1]; rfl, h2⟩
      · exact .inr ⟨i + 1, y, by rw [h1]; rfl, by simpa using h2, h3⟩
/-- at block g stands the document's store with these entries, made since w0 -/
def RS (w0 w : World) (g : Nat) (al ke mo : Int) (T K : List En) : Prop :=
  ∃ aT cT aK cK, Bk w g 47 #[.slice aT T.length cT, .slice aK K.length cK, .int .i64 al, .int .i64 ke, .int .i64 mo] ∧ EO w0.heap.size w (.slice aT T.length cT) T ∧ EO w0.heap.size w (.slice aK K.length cK) K ∧
    (∀ q, (Value.slice aT T.length cT).ownBlock = some q → q ≠ g) ∧ (∀ q, (Value.slice aK K.length cK).ownBlock = some q → q ≠ g) ∧ w0.heap.size ≤ g ∧ Below w0.heap.size w0 w
section
variable {w0 w w' : World} {g : Nat} {al ke mo : Int} {T K : List En}
theorem RS.bel (h : RS w0 w g al ke mo T K) : Below w0.heap.size w0 w := by obtain ⟨_, _, _, _, _, _, _, _, _, _, h⟩ := h; exact h
theorem RS.below (h : RS w0 w g al ke mo T K) (hb : Below w.heap.size w w') : RS w0 w' g al ke mo T K := by
  obtain ⟨aT, cT, aK, cK, h1, h2, h3, h4, h5, h6, h7⟩ := h
  exact ⟨aT, cT, aK, cK, h1.below hb, h2.below hb, h3.below hb, h4, h5, h6, h7.trans (hb.mono h7.size)⟩
theorem EO.mono {B B' : Nat} {w : World} {v : Value} {l : List En} (h : EO B w v l) (hB : B' ≤ B) : EO B' w v l := by
  refine ⟨h.1, ?_⟩
  rcases h.2 with h2 | ⟨g, cap, cur, rfl, hbb, hg, hr⟩
  · exact .inl h2
  · exact .inr ⟨g, cap, cur, rfl, Nat.le_trans hB hbb, hg, hr⟩
theorem EO.far {B : Nat} {w : World} {v : Value} {l : List En} (h : EO B w v l) {p : Addr} (hp : ∀ q, v.ownBlock = some q → q ≠ p.block) (u : Value) : EO B (w.setCell p u) v l := by
  refine ⟨h.1, ?_⟩
  rcases h.2 with h2 | ⟨g, cap, cur, rfl, hbb, hg, hr⟩
  · exact .inl h2
  · exact .inr ⟨g, cap, cur, rfl, hbb, (Below.heap_setCell w p u g (hp g rfl)).trans hg, hr⟩
/-- a new list in the first segment's, the second segment's place -/
theorem RS.setT (h : RS w0 w g al ke mo T K) {a : Option Addr} {c : Nat} {L : List En} (hL : EO w0.heap.size w (.slice a L.length c) L) (hq : ∀ q, (Value.slice a L.length c).ownBlock = some q → q ≠ g) : RS w0 (w.setCell ⟨g, 0, none⟩ (.slice a L.length c)) g al ke mo L K := by
  obtain ⟨aT, cT, aK, cK, h1, h2, h3, h4, h5, h6, h7⟩ := h
  exact ⟨a, c, aK, cK, h1.set_ 0 _, hL.far hq _, h3.far h5 _, hq, h5, h6, h7.setCell (p := ⟨g, 0, none⟩) h6 _⟩
theorem RS.setK (h : RS w0 w g al ke mo T K) {a : Option Addr} {c : Nat} {L : List En} (hL : EO w0.heap.size w (.slice a L.length c) L) (hq : ∀ q, (Value.slice a L.length c).ownBlock = some q → q ≠ g) : RS w0 (w.setCell ⟨g, 1, none⟩ (.slice a L.length c)) g al ke mo T L := by
  obtain ⟨aT, cT, aK, cK, h1, h2, h3, h4, h5, h6, h7⟩ := h
  exact ⟨aT, cT, a, c, h1.set_ 1 _, h2.far h4 _, hL.far hq _, h4, hq, h6, h7.setCell (p := ⟨g, 1, none⟩) h6 _⟩
end
theorem rplace_to (v : Value) (l : List En) (k : ByteArray) (w : World) (h : ER w v l) (hl : l.length ≤ 1073741824) (P : Int) (hP : (match placeE l k with | some i => (i : Int) | none => -1) = P) :
    Calls Try.prog 50 #[v, .string k] w fun e w' => e = .returned (.int .i64 P) ∧ ∃ n, w' = w.drewN n := by
  subst hP; exact rplace_any v l k w h hl
set_option maxHeartbeats 2000000 in
theorem rhas_any (w0 w : World) (g : Nat) (al ke mo : Int) (T K : List En) (h : RS w0 w g al ke mo T K) (hl : T.length ≤ 1073741824 ∧ K.length ≤ 1073741824) (k : ByteArray) :
    Calls Try.prog 20 #[ptr g, .string k] w fun e w' => e = .returned (HasV (hasS k T K)) ∧ ∃ n, w' = w.drewN n := by
  obtain ⟨aT, cT, aK, cK, h1, h2, h3, h4, h5, h6, h7⟩ := h
  have q0 := h1.cell 0
  have q1 := h1.cell 1
  have HT := Lib.hid h2.er
  have HK := Lib.hid h3.er
  have HL := Lib.hid hl
  obtain ⟨RV, hRV⟩ : ∃ r, HasV (hasS k T K) = r := ⟨_, rfl⟩
  rw [hRV]
  obtain ⟨PK, hPK⟩ : ∃ P : Int, (match placeE K k with | some i => (i : Int) | none => -1) = P := ⟨_, rfl⟩
  have HPK := Lib.hid hPK
  rcases place_has k T with ⟨p1, p2⟩ | ⟨i, y, p1, p2, p3⟩
  · have HP : Hid ((match placeE T k with | some i => (i : Int) | none => -1) = -1) := Lib.hid (by rw [p1])
    rcases place_has k K with ⟨r1, r2⟩ | ⟨i, y, r1, r2, r3⟩
    · have hr : RV = .tuple #[.int .i64 0, .bool false] := by rw [← hRV]; unfold hasS; rw [p2, r2]; rfl
      have hk : PK = -1 := by rw [← hPK, r1]
      subst hr hk
      clear h1 h2 h3 h4 h5 h6 h7 hl hRV hPK p1 p2 r1 r2
      go_enter Try.func20, Try.ntmps20
      go_wp2_with fail
      refine (rplace_to _ T k _ HT.out HL.out.1 _ HP.out).mono ?_
      rintro e w1 ⟨rfl, n1, rfl⟩
      go_wp2_with fail
      refine (rplace_to _ K k _ (HK.out.below (below_drewN _ _ _)) HL.out.2 _ HPK.out).mono ?_
      rintro e w2 ⟨rfl, n2, rfl⟩
      go_wp2
      go_ret2
      refine ⟨rfl, ?_⟩
      first | exact ⟨_, rfl⟩ | (rw [World.drewN_drewN]; exact ⟨_, rfl⟩)
    · have hr : RV = .tuple #[.int .i64 y.2, .bool true] := by rw [← hRV]; unfold hasS; rw [p2, r3]; rfl
      have hk : PK = (i : Int) := by rw [← hPK, r1]
      subst hr hk
      have hlt := (List.getElem?_eq_some_iff.1 r2).1
      obtain ⟨b, off, cap, he, hc, hx⟩ := HK.out.inv (by omega)
      injection he with e1 _ e3
      subst e1 e3
      obtain ⟨x0, x1⟩ := hx i y r2
      have l0 : (0 : Int) ≤ (i : Int) := by omega
      have l1 : (i : Int) < (K.length : Int) := by omega
      obtain ⟨yk, yz⟩ := y
      clear h1 h2 h3 h4 h5 h6 h7 hl hRV hPK p1 p2 r1 r2 r3 hlt hx hc
      go_enter Try.func20, Try.ntmps20
      go_wp2_with fail
      refine (rplace_to _ T k _ HT.out HL.out.1 _ HP.out).mono ?_
      rintro e w1 ⟨rfl, n1, rfl⟩
      go_wp2_with fail
      refine (rplace_to _ K k _ (HK.out.below (below_drewN _ _ _)) HL.out.2 _ HPK.out).mono ?_
      rintro e w2 ⟨rfl, n2, rfl⟩
      go_wp2
      go_ret2
      refine ⟨rfl, ?_⟩
      first | exact ⟨_, rfl⟩ | (rw [World.drewN_drewN]; exact ⟨_, rfl⟩)
  · have HP : Hid ((match placeE T k with | some i => (i : Int) | none => -1) = (i : Int)) := Lib.hid (by rw [p1])
    have hr : RV = .tuple #[.int .i64 y.2, .bool true] := by rw [← hRV]; unfold hasS; rw [p3]; rfl
    subst hr
    have hlt := (List.getElem?_eq_some_iff.1 p2).1
    obtain ⟨b, off, cap, he, hc, hx⟩ := HT.out.inv (by omega)
    injection he with e1 _ e3
    subst e1 e3
    obtain ⟨x0, x1⟩ := hx i y p2
    have l0 : (0 : Int) ≤ (i : Int) := by omega
    have l1 : (i : Int) < (T.length : Int) := by omega
    obtain ⟨yk, yz⟩ := y
    clear h1 h2 h3 h4 h5 h6 h7 hl hRV hPK p1 p2 p3 hlt hx hc
    go_enter Try.func20, Try.ntmps20
    go_wp2_with fail
    refine (rplace_to _ T k _ HT.out HL.out.1 _ HP.out).mono ?_
    rintro e w1 ⟨rfl, n1, rfl⟩
    go_wp2_with fail
    refine (rplace_to _ K k _ (HK.out.below (below_drewN _ _ _)) HL.out.2 _ HPK.out).mono ?_
    rintro e w2 ⟨rfl, n2, rfl⟩
    go_wp2
    go_ret2
    refine ⟨rfl, ?_⟩
    first | exact ⟨_, rfl⟩ | (rw [World.drewN_drewN]; exact ⟨_, rfl⟩)
end Go.Proofs.Ytfilmbeoggmglaa.SL
