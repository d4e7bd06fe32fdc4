/- Scan in plain words, and what holds of the memory while it goes on. Condition: none.
   Lists of tokens as slices read them; what the document's Same tells of two that are alike. Condition: none. -/
import Derived.Test.YtgnpkpboilnijaaGreatDoorG7
import Derived.WalkMore
import Derived.BigQuiet
import Derived.OwnWalk
import Derived.Deep.QuietTactic
set_option linter.unusedSimpArgs false
set_option linter.unusedVariables false
namespace Go.Proofs.YtgnpkpboilnijaaGreatDoor
open Go.ChangeShapes Go.WideShapes Go.ChangeAt Go.RowKit
set_option maxRecDepth 100000
set_option linter.unusedVariables false
set_option linter.unusedSimpArgs false

abbrev Tok : Type := Int × ByteArray × Int
def tokCells (t : Tok) : List Value := [.int .i64 t.1, .string t.2.1, .int .i64 t.2.2]
def tokRow (l : List Tok) : List Value := l.flatMap tokCells
/-- the first of the last k readers that finds something -/
def findR : Nat → ByteArray → Option Pc
  | 0, _ => none
  | k + 1, s => if (rdP (9 - k) s).2.2 = 0 then findR k s else some (rdP (9 - k) s)
theorem findR_at (i : Nat) (hi : i < 10) (s : ByteArray) : findR (10 - i) s = if (rdP i s).2.2 = 0 then findR (10 - (i + 1)) s else some (rdP i s) := by
  have e1 : 10 - i = (9 - i) + 1 := by omega
  have e2 : 9 - (9 - i) = i := by omega
  have e3 : 10 - (i + 1) = 9 - i := by omega
  rw [e1, findR, e2, e3]
/-- what Scan answers from a place on: tokens, errno, where -/
def scanN : Nat → ByteArray → Nat → List Tok → List Tok × Int × Int
  | 0, _, _, acc => (acc, 0, 0)
  | f + 1, s, a, acc =>
    if s.size ≤ a then (acc, 0, 0) else match findR 10 (s.extract a s.size) with
    | none => ([], 7, (a : Int))
    | some p => if p.2.2 = -1 then ([], 6, (a : Int)) else scanN f s (a + p.2.2.toNat) (if p.1 = 0 then acc else acc ++ [(p.1, p.2.1, (a : Int))])
structure ScI (m : Int) (w : World) (l : List Tok) (v : Value) (wr : World) : Prop where
  bel : Below w.heap.size w wr
  wd : Wd m wr
  lt : w.heap.size < wr.heap.size
  rdr : wr.heap[w.heap.size]? = some (.cells rdRow 53 (0, 0))
  row : wr.ownsRow (w.heap.size + 1) 35 3 v l.length (tokRow l)
theorem ownsRow_below {B : Nat} {e : TypeId} {z n : Nat} {v : Value} {xs : List Value} {w w2 : World} (h : w.ownsRow B e z v n xs) (b : Below w.heap.size w w2) : w2.ownsRow B e z v n xs := by
  refine ⟨h.1, ?_⟩
  rcases h.2 with h1 | ⟨g, cap, cur, h1, h2, h3, h4⟩
  · exact .inl h1
  · refine .inr ⟨g, cap, cur, h1, h2, ?_, h4⟩
    rw [b.block g (Array.getElem?_eq_some_iff.1 h3).1]
    exact h3
theorem ScI.start {m : Int} {w : World} (h : Wd m w) : ScI m w [] (.slice none 0 0) (w.alloc (.cells rdRow 53)) := by
  have b : Below w.heap.size w (w.alloc (.cells rdRow 53)) := (Below.refl _ _).alloc (Nat.le_refl _) _
  exact ⟨b, h.below b, by simp, by show (w.heap.push _)[w.heap.size]? = _; simp, World.ownsRow_nil _ _ _ _⟩
theorem ScI.step {m : Int} {w wr w2 : World} {l : List Tok} {v : Value} (h : ScI m w l v wr) (b : Below wr.heap.size wr w2) : ScI m w l v w2 :=
  ⟨h.bel.trans (b.mono (Nat.le_of_lt h.lt)), h.wd.below b, Nat.lt_of_lt_of_le h.lt b.size, by rw [b.block _ h.lt]; exact h.rdr, ownsRow_below h.row b⟩
theorem ScI.more {m : Int} {w wr w2 : World} {l : List Tok} {v v2 : Value} (h : ScI m w l v wr) (t : Tok) (g : wr.grownBy w2 v.ownBlock)
    (r : w2.ownsRow (w.heap.size + 1) 35 3 v2 (l.length + 1) (tokRow l ++ tokCells t)) : ScI m w (l ++ [t]) v2 w2 := by
  have b : Below (w.heap.size + 1) wr w2 := (Below.refl _ _).grown g (by have := h.lt; omega) (fun k hk => (World.ownsRow.lt h.row k hk).1)
  have hw : 0 < w.heap.size + 1 := Nat.succ_pos _
  refine ⟨h.bel.trans (b.mono (Nat.le_succ _)), ?_, Nat.lt_of_lt_of_le h.lt b.size, ?_, ?_⟩
  · unfold Wd
    rw [b.cell (p := ⟨0, 0, none⟩) hw]
    exact h.wd
  · rw [b.block _ (Nat.lt_succ_self _)]; exact h.rdr
  · rw [List.length_append, show tokRow (l ++ [t]) = tokRow l ++ tokCells t by simp [tokRow]]
    exact r
/-- what the readers' list holds -/
theorem ScI.reader {m : Int} {w wr : World} {l : List Tok} {v : Value} (h : ScI m w l v wr) (i : Nat) (hi : i < 10) : wr.cell? ⟨w.heap.size, i, none⟩ = some (.func (.func (rdF i)) #[] #[]) := by
  have e : rdRow[i]? = some (.func (.func (rdF i)) #[] #[]) := by simp [rdRow, hi]
  unfold World.cell?
  rw [h.rdr]
  simpa using e
end Go.Proofs.YtgnpkpboilnijaaGreatDoor
namespace Go.Proofs.YtgnpkpboilnijaaGreatDoor
open Go.ChangeShapes Go.WideShapes Go.ChangeAt Go.RowKit
set_option maxRecDepth 100000
set_option linter.unusedVariables false
set_option linter.unusedSimpArgs false

/-- v is a slice of tokens that reads as l -/
def TR (w : World) (v : Value) (l : List Tok) : Prop :=
  (∃ A cap, v = .slice A 0 cap ∧ l = []) ∨
  ∃ h off cap, v = .slice (some ⟨h, off, none⟩) l.length cap ∧ l.length ≤ cap ∧ ∀ (i : Nat) (t : Tok), l[i]? = some t →
    w.cell? ⟨h, off + i * 3, none⟩ = some (.int .i64 t.1) ∧ w.cell? ⟨h, off + i * 3 + 1, none⟩ = some (.string t.2.1) ∧ w.cell? ⟨h, off + i * 3 + 2, none⟩ = some (.int .i64 t.2.2)
theorem tokRow_get (l : List Tok) : ∀ (i : Nat) (t : Tok), l[i]? = some t → (tokRow l)[i * 3]? = some (.int .i64 t.1) ∧ (tokRow l)[i * 3 + 1]? = some (.string t.2.1) ∧ (tokRow l)[i * 3 + 2]? = some (.int .i64 t.2.2) := by
  induction l with
  | nil => intro i t h; simp at h
  | cons x r ih =>
    intro i t h
    cases i with
    | zero => simp at h; subst h; exact ⟨rfl, rfl, rfl⟩
    | succ i =>
      have h' : r[i]? = some t := by simpa using h
      obtain ⟨a, b, c⟩ := ih i t h'
      have e : tokRow (x :: r) = Value.int .i64 x.1 :: Value.string x.2.1 :: Value.int .i64 x.2.2 :: tokRow r := rfl
      rw [e, show (i + 1) * 3 = i * 3 + 1 + 1 + 1 by omega]
      exact ⟨by simpa using a, by simpa using b, by simpa using c⟩
theorem TR.own {w : World} {B : Nat} {v : Value} {l : List Tok} (h : w.ownsRow B 35 3 v l.length (tokRow l)) : TR w v l := by
  rcases h.2 with ⟨rfl, hz⟩ | ⟨g, cap, cur, rfl, hb, hh, hc, hm, hs, ht⟩
  · exact .inl ⟨none, 0, rfl, List.eq_nil_of_length_eq_zero hz⟩
  · refine .inr ⟨g, 0, cap, rfl, hc, fun i t hi => ?_⟩
    obtain ⟨a, b, c⟩ := tokRow_get l i t hi
    have hcell := h.cells (g := g) rfl
    have e1 := hcell _ _ a
    have e2 := hcell _ _ b
    have e3 := hcell _ _ c
    rw [Addr.add_lit, Nat.zero_add] at e1 e2 e3
    rw [Nat.zero_add]
    exact ⟨e1, e2, e3⟩
theorem TR.keep {w w' : World} {v : Value} {l : List Tok} (h : TR w v l) (hk : ∀ p : Addr, (w.cell? p).isSome = true → w'.cell? p = w.cell? p) : TR w' v l := by
  rcases h with h | ⟨h, off, cap, e, hc, hm⟩
  · exact .inl h
  · refine .inr ⟨h, off, cap, e, hc, fun i t hi => ?_⟩
    obtain ⟨a, b, c⟩ := hm i t hi
    exact ⟨(hk _ (by rw [a]; rfl)).trans a, (hk _ (by rw [b]; rfl)).trans b, (hk _ (by rw [c]; rfl)).trans c⟩
theorem TR.below {w w' : World} {v : Value} {l : List Tok} (h : TR w v l) (hb : Below w.heap.size w w') : TR w' v l :=
  h.keep fun p hp => by
    obtain ⟨u, hu⟩ := Option.isSome_iff_exists.1 hp
    exact hb.cell (World.block_lt_of_cell? w p hu)
theorem TR.drewN {w : World} {v : Value} {l : List Tok} (h : TR w v l) (n : Nat) : TR (w.drewN n) v l := h.keep fun p _ => by cases p; simp [go_sem]
theorem TR.form {w : World} {v : Value} {l : List Tok} (h : TR w v l) : ∃ a cap, v = .slice a l.length cap := by
  rcases h with ⟨A, cap, rfl, rfl⟩ | ⟨_, _, _, rfl, _⟩
  · exact ⟨_, _, rfl⟩
  · exact ⟨_, _, rfl⟩
/-- two lists alike: with places, or without -/
def Alike (pl : Bool) (a b : List Tok) : Prop := a.length = b.length ∧ ∀ (i : Nat) (x y : Tok), a[i]? = some x → b[i]? = some y → x.1 = y.1 ∧ x.2.1 = y.2.1 ∧ (pl = true → x.2.2 = y.2.2)
theorem Alike.refl (pl : Bool) (a : List Tok) : Alike pl a a := ⟨rfl, fun i x y h1 h2 => by rw [h1] at h2; cases h2; exact ⟨rfl, rfl, fun _ => rfl⟩⟩

set_option maxHeartbeats 1000000 in
set_option maxRecDepth 100000 in
theorem same_yes (v1 v2 : Value) (l1 l2 : List Tok) (pl : Bool) (w : World) (h1 : TR w v1 l1) (h2 : TR w v2 l2) (hl : l1.length ≤ 1099511627776) (he : Alike pl l1 l2) :
    Calls Tryz.prog 15 #[v1, v2, .bool pl] w fun e w' => e = .returned (.bool true) ∧ ∃ n, w' = w.drewN n := by
  obtain ⟨hlen, hel⟩ := he
  by_cases hm0 : l1 = []
  · subst hm0
    obtain rfl := List.eq_nil_of_length_eq_zero hlen.symm
    obtain ⟨a1, c1, rfl⟩ := h1.form
    obtain ⟨a2, c2, rfl⟩ := h2.form
    clear h1 h2 hel hlen
    go_enter Tryz.func15, Tryz.ntmps15
    go_wp2
    go_loop [7] (fun i => i = .int .i64 0) (fun _ => 0)
    case atStart => rfl
    case round =>
      subst hrel
      go_wp2
      go_ret
      exact ⟨rfl, 0, rfl⟩
  · rcases h1 with ⟨_, _, _, e⟩ | ⟨p1, o1, c1, rfl, hc1, hm1⟩
    · exact absurd e hm0
    · rcases h2 with ⟨_, _, _, e⟩ | ⟨p2, o2, c2, rfl, hc2, hm2⟩
      · subst e; exact absurd (List.eq_nil_of_length_eq_zero hlen) hm0
      · clear hm0
        have H1 := Lib.hid hm1
        have H2 := Lib.hid hm2
        have HE := Lib.hid hel
        rw [← hlen] at hc2
        rw [← hlen]
        have HL := Lib.hid hlen
        clear hm1 hm2 hel hlen
        go_enter Tryz.func15, Tryz.ntmps15
        go_wp2
        go_loopw [7] (fun i wr => ∃ k n : Nat, k ≤ l1.length ∧ i = .int .i64 k ∧ wr = w.drewN n) (fun i _ => l1.length - (intOf i).toNat)
        case atStart => exact ⟨0, 0, Nat.zero_le _, rfl, rfl⟩
        case round =>
          obtain ⟨k, n, hk, rfl, rfl⟩ := hrel
          by_cases hlt : k < l1.length
          · have b1 : k < l1.length := hlt
            have b2 : k < l2.length := by rw [← HL.out]; exact hlt
            obtain ⟨x1, x2, x3⟩ := H1.out k l1[k] (List.getElem?_eq_getElem b1)
            obtain ⟨y1, y2, y3⟩ := H2.out k l2[k] (List.getElem?_eq_getElem b2)
            obtain ⟨z1, z2, z3⟩ := HE.out k l1[k] l2[k] (List.getElem?_eq_getElem b1) (List.getElem?_eq_getElem b2)
            rw [← z1] at y1
            rw [← z2] at y2
            generalize l1[k].1 = kd at *
            generalize l1[k].2.1 = bd at *
            cases pl with
            | true =>
              rw [← z3 rfl] at y3
              generalize l1[k].2.2 = ad at *
              clear z1 z2 z3 b1 b2
              go_wp2
              go_quiet (fail)
              go_wp2
              go_roundw
              case rel => exact ⟨k + 1, _, by omega, by go_num, rfl⟩
              case measure => simp [intOf]; omega
            | false =>
              clear z1 z2 z3 x3 y3 b1 b2
              go_wp2
              go_quiet (fail)
              go_wp2
              go_roundw
              case rel => exact ⟨k + 1, _, by omega, by go_num, rfl⟩
              case measure => simp [intOf]; omega
          · go_wp2
            go_ret
            exact ⟨rfl, _, rfl⟩
end Go.Proofs.YtgnpkpboilnijaaGreatDoor
