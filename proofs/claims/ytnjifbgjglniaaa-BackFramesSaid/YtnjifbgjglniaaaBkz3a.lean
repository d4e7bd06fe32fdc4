/- The document's reader of layer 2, fed the bytes of what can be told: the messages that it finds. Condition: at most 1000 tells. -/
import Derived.Test.YtnjifbgjglniaaaBkz2
import Derived.Test.YtnjifbgjglniaaaBkf3
namespace Go.Proofs.Ytnjifbgjglniaaa.BK
open Go.Proofs.Ytnjifbgjglniaaa
open Go.ChangeShapes Go.WideShapes Go.ChangeAt Go.RowKit
set_option linter.unusedVariables false
set_option linter.unusedSimpArgs false
set_option maxRecDepth 100000

theorem allCells_get (ms : List Msg) : ∀ (i : Nat) (m : Msg), ms[i]? = some m → (allCells ms)[i * 2]? = some (u8 m.1) ∧ (allCells ms)[i * 2 + 1]? = some (.string (ba m.2)) := by
  induction ms with
  | nil => intro i m h; simp at h
  | cons x r ih =>
    intro i m h
    cases i with
    | zero => simp at h; subst h; exact ⟨rfl, rfl⟩
    | succ i =>
      have h' : r[i]? = some m := by simpa using h
      obtain ⟨a, b⟩ := ih i m h'
      have e : allCells (x :: r) = u8 x.1 :: Value.string (ba x.2) :: allCells r := rfl
      rw [e, show (i + 1) * 2 = i * 2 + 1 + 1 by omega]
      exact ⟨by simpa using a, by simpa using b⟩
/-- v is a slice of messages that reads as ms -/
def MQ (w : World) (v : Value) (ms : List Msg) : Prop :=
  ∃ A cap, v = .slice A ms.length cap ∧ ms.length ≤ cap ∧ (ms ≠ [] → ∃ h, A = some ⟨h, 0, none⟩ ∧ h < w.heap.size ∧ ∀ (i : Nat) (m : Msg), ms[i]? = some m → w.cell? ⟨h, i * 2, none⟩ = some (u8 m.1) ∧ w.cell? ⟨h, i * 2 + 1, none⟩ = some (.string (ba m.2)))
theorem MQ.own {w : World} {B : Nat} {v : Value} {ms : List Msg} (h : Msgs w B v ms) : MQ w v ms := by
  rcases h.2 with ⟨rfl, hz⟩ | ⟨g, cap, cur, rfl, hb, hh, hc, hm, hs, ht⟩
  · have := List.eq_nil_of_length_eq_zero hz
    subst this
    exact ⟨_, _, rfl, Nat.le_refl _, fun h => absurd rfl h⟩
  · refine ⟨_, cap, rfl, hc, fun _ => ⟨g, rfl, (Array.getElem?_eq_some_iff.1 hh).1, fun i m hi => ?_⟩⟩
    obtain ⟨a, b⟩ := allCells_get ms i m hi
    have hcell := h.cells (g := g) rfl
    have e1 := hcell _ _ a
    have e2 := hcell _ _ b
    rw [Addr.add_lit, Nat.zero_add] at e1 e2
    exact ⟨e1, e2⟩
theorem MQ.below {w w' : World} {v : Value} {ms : List Msg} (h : MQ w v ms) (hb : Below w.heap.size w w') : MQ w' v ms := by
  obtain ⟨A, cap, e, h1, h2⟩ := h
  refine ⟨A, cap, e, h1, fun hn => ?_⟩
  obtain ⟨g, e2, hg, hx⟩ := h2 hn
  refine ⟨g, e2, Nat.lt_of_lt_of_le hg hb.size, fun i m hi => ?_⟩
  obtain ⟨a, b⟩ := hx i m hi
  exact ⟨by rw [(bcell hb).1 _ _ hg]; exact a, by rw [(bcell hb).1 _ _ hg]; exact b⟩
theorem kind_ne {t : Tell} (h : RightP t) : t.kind ≠ 0 := by
  intro e
  obtain ⟨d, hd⟩ := h.1.kind
  rw [e] at hd
  rw [show kd 0 = none from by decide] at hd
  cases hd
/-- what the reader tells -/
def FeP (g : Nat) (ms : List Msg) (w : World) (e : Ending) (w' : World) : Prop :=
  ∃ v, e = .returned (.tuple #[v, .int .i64 0]) ∧ MQ w' v ms ∧ w'.cell? ⟨g, 0, none⟩ = some (.string ⟨#[]⟩) ∧ w.grownBy w' (some g)
theorem feed_right (l : List Tell) (hl : l.length ≤ 1000) (hr : ∀ t ∈ l, RightP t) (g : Nat) (w : World) (h : RRd w g [] false 0) :
    Calls Try.prog 19 #[.pointer (some ⟨g, 0, none⟩), .string (ba (allL (msgsOf l)))] w (FeP g (msgsOf l) w) := by
  have hz : (allL (msgsOf l)).length ≤ 4097000 := by
    have h1 := allL_len (msgsOf l)
    have h2 : (msgsOf l).length ≤ 1000 := by simp only [msgsOf, List.length_map]; omega
    have h3 := Nat.mul_le_mul_right 4097 h2
    omega
  obtain ⟨f, hf⟩ := feed_all (msgsOf l) (fun m hm => by
    obtain ⟨t, ht, rfl⟩ := List.mem_map.1 hm
    exact ⟨(hr t ht).2, kind_ne (hr t ht)⟩)
  refine (rfeed_ok g (ba (allL (msgsOf l))) w [] false h (by rw [ba_size]; simp; omega)).mono ?_
  rintro e w' ⟨v, he, hm, hb, hg⟩
  rw [List.nil_append, ba_list, hf] at he hm hb
  exact ⟨v, he, MQ.own hm, hb.cell 0, hg⟩
theorem grown_bel {w0 w w' : World} {g : Nat} (h : Below w0.heap.size w0 w) (k : w.grownBy w' (some g)) (hg : w0.heap.size ≤ g) : Below w0.heap.size w0 w' :=
  ⟨k.os.trans h.os, k.tape.trans h.tape, k.output.trans h.output, Nat.le_trans h.size k.size, fun i hi => (k.block i (Nat.lt_of_lt_of_le hi h.size) (fun e => by injection e with e; omega)).trans (h.block i hi)⟩
end Go.Proofs.Ytnjifbgjglniaaa.BK
