/- Package expiry's order: its keys; a row of entries copied. Conditions: how many. -/
import Derived.Test.YtfilmbeoggmglaaExh
namespace Go.Proofs.Ytfilmbeoggmglaa.EX
open Go.ChangeShapes Go.WideShapes Go.ChangeAt Go.RowKit
open Go.Proofs.Ytfilmbeoggmglaa.SL Go.Proofs.Ytfilmbeoggmglaa.RW
set_option maxRecDepth 100000
set_option linter.unusedVariables false
set_option linter.unusedSimpArgs false

/-- v reads as these entries -/
def RE (w : World) (v : Value) (l : List Et) : Prop :=
  (∃ a c, v = .slice a 0 c ∧ l = []) ∨ ∃ g cap, v = .slice (some ⟨g, 0, none⟩) l.length cap ∧ ∀ (i : Nat) (e : Et), l[i]? = some e → w.cell? ⟨g, i * 3, none⟩ = some (.string e.1) ∧ w.cell? ⟨g, i * 3 + 1, none⟩ = some (.int .i64 e.2.1) ∧ w.cell? ⟨g, i * 3 + 2, none⟩ = some (.int .i64 e.2.2)
theorem EQ.re {B : Nat} {w : World} {v : Value} {l : List Et} (h : EQ B w v l) : RE w v l := by
  rcases h.inv with ⟨rfl, rfl⟩ | ⟨g, cap, rfl, _⟩
  · exact .inl ⟨none, 0, rfl, rfl⟩
  · exact .inr ⟨g, cap, rfl, fun i e hi => h.cells i e hi⟩
theorem EQ.re_take {B g n cap : Nat} {w : World} {l : List Et} (h : EQ B w (.slice (some ⟨g, 0, none⟩) n cap) l) (c : Nat) (hc : c ≤ l.length) : RE w (.slice (some ⟨g, 0, none⟩) c cap) (l.take c) :=
  .inr ⟨g, cap, by rw [List.length_take, Nat.min_eq_left hc], fun i e hi => h.cells i e (by rw [List.getElem?_take] at hi; split at hi; exact hi; cases hi)⟩
theorem RE.below {w w' : World} {v : Value} {l : List Et} (h : RE w v l) (hb : Below w.heap.size w w') : RE w' v l := by
  rcases h with h | ⟨g, cap, h1, h2⟩
  · exact .inl h
  · refine .inr ⟨g, cap, h1, fun i e hi => ?_⟩
    obtain ⟨a, b, c⟩ := h2 i e hi
    have hg := World.block_lt_of_cell? _ _ a
    exact ⟨(hb.cell (p := ⟨g, i * 3, none⟩) hg).trans a, (hb.cell (p := ⟨g, i * 3 + 1, none⟩) hg).trans b, (hb.cell (p := ⟨g, i * 3 + 2, none⟩) hg).trans c⟩
theorem RE.form {w : World} {v : Value} {l : List Et} (h : RE w v l) : ∃ a c, v = .slice a l.length c := by
  rcases h with ⟨a, c, rfl, rfl⟩ | ⟨g, cap, rfl, _⟩
  · exact ⟨_, _, rfl⟩
  · exact ⟨_, _, rfl⟩
theorem RE.inv {w : World} {v : Value} {l : List Et} (h : RE w v l) (hp : 0 < l.length) : ∃ g cap, v = .slice (some ⟨g, 0, none⟩) l.length cap ∧ ∀ (i : Nat) (e : Et), l[i]? = some e → w.cell? ⟨g, i * 3, none⟩ = some (.string e.1) ∧ w.cell? ⟨g, i * 3 + 1, none⟩ = some (.int .i64 e.2.1) ∧ w.cell? ⟨g, i * 3 + 2, none⟩ = some (.int .i64 e.2.2) := by
  rcases h with ⟨_, _, _, rfl⟩ | h
  · simp at hp
  · exact h
def keysT (l : List Et) : List ByteArray := l.map (·.1)
def KeyP (d : List ByteArray) (w : World) (e : Ending) (w' : World) : Prop := ∃ u, e = .returned u ∧ OT w.heap.size w' u d ∧ Below w.heap.size w w'
set_option maxHeartbeats 4000000 in
theorem okeys_any (w : World) (ob cap : Nat) (v : Value) (l : List Et) (h : w.cell? ⟨ob, 0, none⟩ = some v) (hv : RE w v l) (hl : l.length ≤ 1000000) :
    Calls Try.prog 65 #[.slice (some ⟨ob, 0, none⟩) 1 cap] w (KeyP (keysT l) w) := by
  have HV := Lib.hid hv
  have HL := Lib.hid hl
  obtain ⟨va, vc, rfl⟩ := hv.form
  have HC := Lib.hid h
  have HOB := Lib.hid (World.block_lt_of_cell? _ _ h)
  clear hv hl h
  go_enter Try.func65, Try.ntmps65
  go_wp2
  go_loopg [3, 10] 1 (fun gk u3 u10 wx => ∃ i : Nat, u10 = .int .i64 (i : Int) ∧ i + gk = 1 ∧ OT w.heap.size wx u3 (if i = 0 then [] else keysT l) ∧ Below w.heap.size w wx)
  case atStart => exact ⟨0, rfl, rfl, OT.nil _ _, Below.refl _ _⟩
  case round =>
    obtain ⟨i, rfl, hi, hot, hbel⟩ := hrel
    have HOT := Lib.hid hot
    have HBE := Lib.hid hbel
    cases gk with
    | zero =>
      have hi1 : i = 1 := by omega
      subst hi1
      have HFIN : Hid (KeyP (keysT l) w (.returned u3) wr) := Lib.hid ⟨u3, rfl, by simpa using hot, hbel⟩
      clear hot hbel hi
      go_wp2
      go_ret
      exact HFIN.out
    | succ gk1 =>
      have hi0 : i = 0 := by omega
      subst hi0
      have hg1 : gk1 = 0 := by omega
      subst hg1
      have c0 := (hbel.cell (p := ⟨ob, 0, none⟩) HOB.out).trans HC.out
      have HOT0 : Hid (OT w.heap.size wr u3 []) := Lib.hid (by simpa using hot)
      clear hot hbel hi HOT
      go_wp2
      go_loopg [3, 16] l.length (fun gk u3 u16 wx => ∃ j : Nat, u16 = .int .i64 (j : Int) ∧ j + gk = l.length ∧ OT w.heap.size wx u3 (keysT (l.take j)) ∧ Below w.heap.size w wx)
      case atStart => exact ⟨0, rfl, by omega, HOT0.out, HBE.out⟩
      case round =>
        obtain ⟨j, rfl, hj, hot, hbel⟩ := hrel
        have HOT := Lib.hid hot
        have HB := Lib.hid hbel
        cases gk with
        | zero =>
          have hjl : j = l.length := by omega
          have HFIN : Hid (OT w.heap.size wr u3 (if 0 + 1 = 0 then [] else keysT l)) := Lib.hid (by rw [hjl, List.take_of_length_le (Nat.le_refl _)] at hot; simpa using hot)
          have l1 : ¬ ((j : Int) < (l.length : Int)) := by omega
          clear hot hbel hj hjl
          go_wp2
          go_roundg 0
          case measure => exact Nat.lt_succ_self _
          case rel => exact ⟨0 + 1, rfl, rfl, HFIN.out, HB.out⟩
        | succ gko =>
          have hlt : j < l.length := by omega
          obtain ⟨g, cp, he, hx⟩ := (HV.out.below hbel).inv (by omega)
          injection he with e1 _ e2
          subst e1 e2
          obtain ⟨e, he⟩ : ∃ e, l[j] = e := ⟨_, rfl⟩
          have hje : l[j]? = some e := by rw [List.getElem?_eq_getElem hlt, he]
          obtain ⟨x0, x1, x2⟩ := hx j e hje
          have l0 : (0 : Int) ≤ (j : Int) := by omega
          have l1 : (j : Int) < (l.length : Int) := by omega
          obtain ⟨j1, hj1⟩ : ∃ j1, j + 1 = j1 := ⟨_, rfl⟩
          have wk : IntKind.i64.wrap ((j : Int) + 1) = (j1 : Int) := by rw [show (j : Int) + 1 = (j1 : Int) by omega]; exact IntWalk.i64_in _ (by have := HL.out; omega)
          have HJ : Hid (j1 + gko = l.length) := Lib.hid (by omega)
          have HK : Hid (keysT (l.take j1) = keysT (l.take j) ++ [e.1]) := Lib.hid (by rw [← hj1, List.take_add_one, hje]; unfold keysT; simp)
          have HJL : Hid (j ≤ l.length) := Lib.hid (by omega)
          have HWS : Hid (w.heap.size ≤ wr.heap.size) := Lib.hid hbel.size
          clear hot hbel hj hlt hx he hje hj1
          obtain ⟨ek, ea, es⟩ := e
          simp only at x0 x1 x2 HK
          go_wp2_with (at_builtin; refine wpList_app_text w.heap.size u3 (keysT (l.take j)) ek (wr.heap.size + 1) rfl _ _ rfl rfl (HOT.out.below (((Below.refl _ _).alloc (Nat.le_refl _) _).alloc (by simp) _)) rfl (Bk.new1 _ _ _ _) (by have := HL.out; have := HJL.out; unfold keysT; rw [List.length_map, List.length_take]; omega) (by have := HWS.out; simp; omega) ?_; intro g9 cap9 w9 o9 gr9)
          have hbl9 : Below w.heap.size w w9 := ((HB.out.alloc HWS.out _).alloc (by have := HWS.out; simp; omega) _).grown gr9 (by have := HWS.out; simp; omega) (fun k hk => (World.ownsRow.lt HOT.out k hk).1)
          have ho9 : OT w.heap.size w9 (.slice (some ⟨g9, 0, none⟩) ((keysT (l.take j)).length + 1) cap9) (keysT (l.take j1)) := by rw [HK.out]; exact o9
          have HO9 := Lib.hid ho9
          have HB9 := Lib.hid hbl9
          clear o9 gr9 hbl9 ho9
          go_wp2
          go_roundg gko
          case measure => exact Nat.lt_succ_self _
          case rel => exact ⟨j1, rfl, HJ.out, HO9.out, HB9.out⟩
end Go.Proofs.Ytfilmbeoggmglaa.EX
