/- The document's own 'Same' at layer 2 tells true of two lists of messages that read alike. -/
import Derived.Test.YthajnfmbgmmncaaFrf
namespace Go.Proofs.Ythajnfmbgmmncaa
open Go.ChangeShapes Go.WideShapes Go.ChangeAt Go.RowKit
set_option linter.unusedVariables false

/-- v is a slice of messages that reads as ms -/
def MR (w : World) (v : Value) (ms : List Msg) : Prop :=
  (∃ A cap, v = .slice A 0 cap ∧ ms = []) ∨
  ∃ h off cap, v = .slice (some ⟨h, off, none⟩) ms.length cap ∧ ms.length ≤ cap ∧ ∀ (i : Nat) (m : Msg), ms[i]? = some m → w.cell? ⟨h, off + i * 2, none⟩ = some (u8 m.1) ∧ w.cell? ⟨h, off + i * 2 + 1, none⟩ = some (.string (ba m.2))

theorem allCells_get (ms : List Msg) : ∀ (i : Nat) (m : Msg), ms[i]? = some m → (allCells ms)[i * 2]? = some (u8 m.1) ∧ (allCells ms)[i * 2 + 1]? = some (.string (ba m.2)) := by
  induction ms with
  | nil => intro i m h; simp at h
  | cons x r ih =>
    intro i m h
    cases i with
    | zero => simp at h; subst h; exact ⟨rfl, rfl⟩
    | succ i =>
      have h' : r[i]? = some m := by simpa using h
      obtain ⟨a, b⟩ := ih i m h'
      have e : allCells (x :: r) = u8 x.1 :: Value.string (ba x.2) :: allCells r := rfl
      rw [e, show (i + 1) * 2 = i * 2 + 1 + 1 by omega]
      exact ⟨by simpa using a, by simpa using b⟩
theorem MR.own {w : World} {B : Nat} {v : Value} {ms : List Msg} (h : Msgs w B v ms) : MR w v ms := by
  rcases h.2 with ⟨rfl, hz⟩ | ⟨g, cap, cur, rfl, hb, hh, hc, hm, hs, ht⟩
  · exact .inl ⟨_, _, rfl, List.eq_nil_of_length_eq_zero hz⟩
  · refine .inr ⟨g, 0, cap, rfl, hc, fun i m hi => ?_⟩
    obtain ⟨a, b⟩ := allCells_get ms i m hi
    have hcell := h.cells (g := g) rfl
    have e1 := hcell _ _ a
    have e2 := hcell _ _ b
    rw [Addr.add_lit, Nat.zero_add] at e1 e2
    rw [Nat.zero_add]
    exact ⟨e1, e2⟩
theorem MR.keep {w w' : World} {v : Value} {ms : List Msg} (h : MR w v ms) (hk : ∀ p : Addr, (w.cell? p).isSome = true → w'.cell? p = w.cell? p) : MR w' v ms := by
  rcases h with h | ⟨h, off, cap, e, hc, hm⟩
  · exact .inl h
  · refine .inr ⟨h, off, cap, e, hc, fun i m hi => ?_⟩
    obtain ⟨a, b⟩ := hm i m hi
    exact ⟨(hk _ (by rw [a]; rfl)).trans a, (hk _ (by rw [b]; rfl)).trans b⟩
theorem MR.form {w : World} {v : Value} {ms : List Msg} (h : MR w v ms) : ∃ a cap, v = .slice a ms.length cap := by
  rcases h with ⟨A, cap, rfl, rfl⟩ | ⟨_, _, _, rfl, _⟩
  · exact ⟨_, _, rfl⟩
  · exact ⟨_, _, rfl⟩

set_option maxHeartbeats 400000 in
theorem same_eq (v1 v2 : Value) (ms : List Msg) (w : World) (h1 : MR w v1 ms) (h2 : MR w v2 ms) (hl : ms.length ≤ 1099511627776) :
    Calls Try.prog 13 #[v1, v2] w fun e w' => e = .returned (.bool true) ∧ ∃ n, w' = w.drewN n := by
  by_cases hm0 : ms = []
  · subst hm0
    obtain ⟨a1, c1, rfl⟩ := h1.form
    obtain ⟨a2, c2, rfl⟩ := h2.form
    clear h1 h2
    go_enter Try.func13, Try.ntmps13
    go_wp2
    go_loop [5] (fun i => i = .int .i64 0) (fun _ => 0)
    case atStart => rfl
    case round =>
      subst hrel
      go_wp2
      go_ret
      exact ⟨rfl, 0, rfl⟩
  · rcases h1 with ⟨_, _, _, e⟩ | ⟨p1, o1, c1, rfl, hc1, hm1⟩
    · exact absurd e hm0
    · rcases h2 with ⟨_, _, _, e⟩ | ⟨p2, o2, c2, rfl, hc2, hm2⟩
      · exact absurd e hm0
      · clear hm0
        have H1 := Lib.hid hm1
        have H2 := Lib.hid hm2
        clear hm1 hm2
        go_enter Try.func13, Try.ntmps13
        go_wp2
        go_loopw [5] (fun i wr => ∃ k n : Nat, k ≤ ms.length ∧ i = .int .i64 k ∧ wr = w.drewN n) (fun i _ => ms.length - (intOf i).toNat)
        case atStart => exact ⟨0, 0, Nat.zero_le _, rfl, rfl⟩
        case round =>
          obtain ⟨k, n, hk, rfl, rfl⟩ := hrel
          by_cases hlt : k < ms.length
          · obtain ⟨x1, x2⟩ := H1.out k ms[k] (List.getElem?_eq_getElem hlt)
            obtain ⟨y1, y2⟩ := H2.out k ms[k] (List.getElem?_eq_getElem hlt)
            unfold u8 at x1 y1
            generalize ms[k].1.toNat = kd at *
            generalize ba ms[k].2 = bd at *
            go_wp2
            go_quiet (fail)
            go_wp2
            go_roundw
            case rel => exact ⟨k + 1, _, by omega, by go_num, rfl⟩
            case measure => simp [intOf]; omega
          · go_wp2
            go_ret
            exact ⟨rfl, _, rfl⟩
end Go.Proofs.Ythajnfmbgmmncaa
