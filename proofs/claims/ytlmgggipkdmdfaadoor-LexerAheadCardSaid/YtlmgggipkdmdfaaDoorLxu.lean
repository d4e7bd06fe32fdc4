/- Lists of tokens as slices read them; what the document's Same tells of two that are alike. Condition: none. -/
import Derived.Test.YtlmgggipkdmdfaaDoorLxs
import Derived.WalkMore
import Derived.BigQuiet
import Derived.OwnWalk
import Derived.Deep.QuietTactic
namespace Go.Proofs.YtlmgggipkdmdfaaDoor
open Go.ChangeShapes Go.WideShapes Go.ChangeAt Go.RowKit
set_option linter.unusedVariables false
set_option linter.unusedSimpArgs false

/-- v is a slice of tokens that reads as l -/
def TR (w : World) (v : Value) (l : List Tok) : Prop :=
  (∃ A cap, v = .slice A 0 cap ∧ l = []) ∨
  ∃ h off cap, v = .slice (some ⟨h, off, none⟩) l.length cap ∧ l.length ≤ cap ∧ ∀ (i : Nat) (t : Tok), l[i]? = some t →
    w.cell? ⟨h, off + i * 3, none⟩ = some (.int .i64 t.1) ∧ w.cell? ⟨h, off + i * 3 + 1, none⟩ = some (.string t.2.1) ∧ w.cell? ⟨h, off + i * 3 + 2, none⟩ = some (.int .i64 t.2.2)
theorem tokRow_get (l : List Tok) : ∀ (i : Nat) (t : Tok), l[i]? = some t → (tokRow l)[i * 3]? = some (.int .i64 t.1) ∧ (tokRow l)[i * 3 + 1]? = some (.string t.2.1) ∧ (tokRow l)[i * 3 + 2]? = some (.int .i64 t.2.2) := by
  induction l with
  | nil => intro i t h; simp at h
  | cons x r ih =>
    intro i t h
    cases i with
    | zero => simp at h; subst h; exact ⟨rfl, rfl, rfl⟩
    | succ i =>
      have h' : r[i]? = some t := by simpa using h
      obtain ⟨a, b, c⟩ := ih i t h'
      have e : tokRow (x :: r) = Value.int .i64 x.1 :: Value.string x.2.1 :: Value.int .i64 x.2.2 :: tokRow r := rfl
      rw [e, show (i + 1) * 3 = i * 3 + 1 + 1 + 1 by omega]
      exact ⟨by simpa using a, by simpa using b, by simpa using c⟩
theorem TR.own {w : World} {B : Nat} {v : Value} {l : List Tok} (h : w.ownsRow B 30 3 v l.length (tokRow l)) : TR w v l := by
  rcases h.2 with ⟨rfl, hz⟩ | ⟨g, cap, cur, rfl, hb, hh, hc, hm, hs, ht⟩
  · exact .inl ⟨none, 0, rfl, List.eq_nil_of_length_eq_zero hz⟩
  · refine .inr ⟨g, 0, cap, rfl, hc, fun i t hi => ?_⟩
    obtain ⟨a, b, c⟩ := tokRow_get l i t hi
    have hcell := h.cells (g := g) rfl
    have e1 := hcell _ _ a
    have e2 := hcell _ _ b
    have e3 := hcell _ _ c
    rw [Addr.add_lit, Nat.zero_add] at e1 e2 e3
    rw [Nat.zero_add]
    exact ⟨e1, e2, e3⟩
theorem TR.keep {w w' : World} {v : Value} {l : List Tok} (h : TR w v l) (hk : ∀ p : Addr, (w.cell? p).isSome = true → w'.cell? p = w.cell? p) : TR w' v l := by
  rcases h with h | ⟨h, off, cap, e, hc, hm⟩
  · exact .inl h
  · refine .inr ⟨h, off, cap, e, hc, fun i t hi => ?_⟩
    obtain ⟨a, b, c⟩ := hm i t hi
    exact ⟨(hk _ (by rw [a]; rfl)).trans a, (hk _ (by rw [b]; rfl)).trans b, (hk _ (by rw [c]; rfl)).trans c⟩
theorem TR.below {w w' : World} {v : Value} {l : List Tok} (h : TR w v l) (hb : Below w.heap.size w w') : TR w' v l :=
  h.keep fun p hp => by
    obtain ⟨u, hu⟩ := Option.isSome_iff_exists.1 hp
    exact hb.cell (World.block_lt_of_cell? w p hu)
theorem TR.drewN {w : World} {v : Value} {l : List Tok} (h : TR w v l) (n : Nat) : TR (w.drewN n) v l := h.keep fun p _ => by cases p; simp [go_sem]
theorem TR.form {w : World} {v : Value} {l : List Tok} (h : TR w v l) : ∃ a cap, v = .slice a l.length cap := by
  rcases h with ⟨A, cap, rfl, rfl⟩ | ⟨_, _, _, rfl, _⟩
  · exact ⟨_, _, rfl⟩
  · exact ⟨_, _, rfl⟩
/-- two lists alike: with places, or without -/
def Alike (pl : Bool) (a b : List Tok) : Prop := a.length = b.length ∧ ∀ (i : Nat) (x y : Tok), a[i]? = some x → b[i]? = some y → x.1 = y.1 ∧ x.2.1 = y.2.1 ∧ (pl = true → x.2.2 = y.2.2)
theorem Alike.refl (pl : Bool) (a : List Tok) : Alike pl a a := ⟨rfl, fun i x y h1 h2 => by rw [h1] at h2; cases h2; exact ⟨rfl, rfl, fun _ => rfl⟩⟩

set_option maxHeartbeats 1000000 in
set_option maxRecDepth 100000 in
theorem same_yes (v1 v2 : Value) (l1 l2 : List Tok) (pl : Bool) (w : World) (h1 : TR w v1 l1) (h2 : TR w v2 l2) (hl : l1.length ≤ 1099511627776) (he : Alike pl l1 l2) :
    Calls Tryd.prog 11 #[v1, v2, .bool pl] w fun e w' => e = .returned (.bool true) ∧ ∃ n, w' = w.drewN n := by
  obtain ⟨hlen, hel⟩ := he
  by_cases hm0 : l1 = []
  · subst hm0
    obtain rfl := List.eq_nil_of_length_eq_zero hlen.symm
    obtain ⟨a1, c1, rfl⟩ := h1.form
    obtain ⟨a2, c2, rfl⟩ := h2.form
    clear h1 h2 hel hlen
    go_enter Tryd.func11, Tryd.ntmps11
    go_wp2
    go_loop [7] (fun i => i = .int .i64 0) (fun _ => 0)
    case atStart => rfl
    case round =>
      subst hrel
      go_wp2
      go_ret
      exact ⟨rfl, 0, rfl⟩
  · rcases h1 with ⟨_, _, _, e⟩ | ⟨p1, o1, c1, rfl, hc1, hm1⟩
    · exact absurd e hm0
    · rcases h2 with ⟨_, _, _, e⟩ | ⟨p2, o2, c2, rfl, hc2, hm2⟩
      · subst e; exact absurd (List.eq_nil_of_length_eq_zero hlen) hm0
      · clear hm0
        have H1 := Lib.hid hm1
        have H2 := Lib.hid hm2
        have HE := Lib.hid hel
        rw [← hlen] at hc2
        rw [← hlen]
        have HL := Lib.hid hlen
        clear hm1 hm2 hel hlen
        go_enter Tryd.func11, Tryd.ntmps11
        go_wp2
        go_loopw [7] (fun i wr => ∃ k n : Nat, k ≤ l1.length ∧ i = .int .i64 k ∧ wr = w.drewN n) (fun i _ => l1.length - (intOf i).toNat)
        case atStart => exact ⟨0, 0, Nat.zero_le _, rfl, rfl⟩
        case round =>
          obtain ⟨k, n, hk, rfl, rfl⟩ := hrel
          by_cases hlt : k < l1.length
          · have b1 : k < l1.length := hlt
            have b2 : k < l2.length := by rw [← HL.out]; exact hlt
            obtain ⟨x1, x2, x3⟩ := H1.out k l1[k] (List.getElem?_eq_getElem b1)
            obtain ⟨y1, y2, y3⟩ := H2.out k l2[k] (List.getElem?_eq_getElem b2)
            obtain ⟨z1, z2, z3⟩ := HE.out k l1[k] l2[k] (List.getElem?_eq_getElem b1) (List.getElem?_eq_getElem b2)
            rw [← z1] at y1
            rw [← z2] at y2
            generalize l1[k].1 = kd at *
            generalize l1[k].2.1 = bd at *
            cases pl with
            | true =>
              rw [← z3 rfl] at y3
              generalize l1[k].2.2 = ad at *
              clear z1 z2 z3 b1 b2
              go_wp2
              go_quiet (fail)
              go_wp2
              go_roundw
              case rel => exact ⟨k + 1, _, by omega, by go_num, rfl⟩
              case measure => simp [intOf]; omega
            | false =>
              clear z1 z2 z3 x3 y3 b1 b2
              go_wp2
              go_quiet (fail)
              go_wp2
              go_roundw
              case rel => exact ⟨k + 1, _, by omega, by go_num, rfl⟩
              case measure => simp [intOf]; omega
          · go_wp2
            go_ret
            exact ⟨rfl, _, rfl⟩
end Go.Proofs.YtlmgggipkdmdfaaDoor
