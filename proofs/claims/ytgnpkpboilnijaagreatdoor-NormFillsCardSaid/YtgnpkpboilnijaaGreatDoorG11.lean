/- What package lexer's Show answers. Conditions: the word of bytealg, how many tokens, how long their texts.
   The statements of tokens in plain words; what holds of the memory while lists are put together; what package lexer's with answers. Condition: none.
   What package lexer's Split answers. Conditions: how many tokens, how long their texts.
   What the document's own double and Show at layer 4 answer. Conditions: how many tokens, how long their texts. -/
import Derived.Test.YtgnpkpboilnijaaGreatDoorG9
import Derived.Test.YtgnpkpboilnijaaGreatDoorG10
import Derived.WalkMore
import Derived.BigQuiet
import Derived.OwnWalk
import Derived.Deep.LoopGhost
import Derived.Deep.QuietTactic
import Derived.Deep.AppendLies
set_option linter.unusedSimpArgs false
set_option linter.unusedVariables false
namespace Go.Proofs.YtgnpkpboilnijaaGreatDoor
open Go.ChangeShapes Go.WideShapes Go.ChangeAt Go.RowKit
set_option maxRecDepth 100000
set_option linter.unusedVariables false
set_option linter.unusedSimpArgs false

theorem IsB.below {B b : Nat} {l : Tx} {w w2 : World} (h : IsB B b l w) (hb : Below w.heap.size w w2) : IsB B b l w2 := by
  have key : ∀ p, Lib.BuilderAt 60 5 B b p (Lib.byteCells l) w → Lib.BuilderAt 60 5 B b p (Lib.byteCells l) w2 := by
    rintro p h
    have hlt := h.lt
    obtain ⟨hB, v, hbk, hown, hne⟩ := h
    exact ⟨hB, v, by rw [hb.block _ hlt]; exact hbk, ownsRow_below hown hb, hne⟩
  rcases h with h | h
  · exact .inl (key _ h)
  · exact .inr (key _ h)
theorem kept_cell {w w2 : World} {b k : Nat} {o : Obj} (h : Lib.OthersKept 5 (some b) w w2) (hk : w.heap[k]? = some o) (hb : k ≠ b) (ho : ∀ c fz, o ≠ .cells c 5 fz) : w2.heap[k]? = some o :=
  h k o hk (fun e => hb (Option.some.inj e)) ho
/-- what holds while Show goes on -/
structure ShI (l : List Tok) (k : Nat) (m : Int) (w wr : World) : Prop where
  bel : Below w.heap.size w wr
  lt : w.heap.size < wr.heap.size
  wd : Wd m wr
  bld : IsB w.heap.size w.heap.size (showL (l.take k)) wr
theorem ShI.step {l : List Tok} {k : Nat} {m : Int} {w wr w2 : World} (h : ShI l k m w wr) (b : Below wr.heap.size wr w2) : ShI l k m w w2 :=
  ⟨h.bel.trans (b.mono (Nat.le_of_lt h.lt)), Nat.lt_of_lt_of_le h.lt b.size, h.wd.below b, h.bld.below b⟩
theorem cells_tok {w2 : World} {g : Nat} {a : Int} {s : ByteArray} {c : Int} (h : w2.heap[g]? = some (.cells #[.int .i64 a, .string s, .int .i64 c] 35 (0, 0))) :
    w2.cell? ⟨g, 0, none⟩ = some (.int .i64 a) ∧ w2.cell? ⟨g, 1, none⟩ = some (.string s) ∧ w2.cell? ⟨g, 2, none⟩ = some (.int .i64 c) := by
  refine ⟨?_, ?_, ?_⟩ <;> rw [Lib.cell_of_heap h] <;> rfl
theorem block_tok (w : World) (a : Int) (s : ByteArray) (c : Int) : (w.alloc (.cells #[.int .i64 a, .string s, .int .i64 c] 35)).heap[w.heap.size]? = some (.cells #[.int .i64 a, .string s, .int .i64 c] 35 (0, 0)) := by
  show (w.heap.push _)[w.heap.size]? = _; simp
theorem take_showL {l : List Tok} {k : Nat} (hk : k < l.length) : showL (l.take (k + 1)) = showL (l.take k) ++ (if k = 0 then [] else [32]) ++ shownL l[k] := by
  rw [List.take_add_one, List.getElem?_eq_getElem hk, Option.toList_some, show_snoc]
  congr 2
  by_cases h0 : k = 0
  · subst h0; simp
  · rw [if_neg h0, if_neg]
    intro he
    have := congrArg List.length he
    rw [List.length_take, List.length_nil] at this
    omega
theorem take_size {l : List Tok} (hl : l.length ≤ 65536) (hz : ∀ t ∈ l, t.2.1.size ≤ 65536) (k : Nat) : (showL (l.take k)).length ≤ 68719476736 := by
  have h1 := show_size (l.take k) 65536 fun t h => hz t (List.mem_of_mem_take h)
  have h2 : (l.take k).length ≤ 65536 := by rw [List.length_take]; omega
  have h3 := Nat.mul_le_mul_right (2 * 65536 + 3) h2
  omega
set_option maxHeartbeats 2000000 in
set_option maxRecDepth 100000 in
theorem show_any (v : Value) (l : List Tok) (m : Int) (w : World) (hl : l.length ≤ 65536) (hz : ∀ t ∈ l, t.2.1.size ≤ 65536) (h : TR w v l) (hm : Wd m w) :
    Calls Tryz.prog 23 #[v] w fun e w' => e = .returned (.string ⟨(showL l).toArray⟩) ∧ Below w.heap.size w w' := by
  have hst : ShI l 0 m w (w.alloc (.cells #[.pointer none, .slice none 0 0] 60)) := by
    have b : Below w.heap.size w (w.alloc (.cells #[.pointer none, .slice none 0 0] 60)) := (Below.refl _ _).alloc (Nat.le_refl _) _
    exact ⟨b, by simp, hm.below b, Lib.fresh_isBuilder _ _ w⟩
  have HS := Lib.hid hst
  have HM := Lib.hid hm
  have HSZ := Lib.hid (take_size hl hz)
  have HZ := Lib.hid hz
  have hf : ∃ a cap, v = .slice a l.length cap ∧ (l.length = 0 ∨ ∃ g off, a = some ⟨g, off, none⟩ ∧ l.length ≤ cap ∧ ∀ k (hk : k < l.length), w.cell? ⟨g, off + k * 3, none⟩ = some (.int .i64 l[k].1) ∧ w.cell? ⟨g, off + k * 3 + 1, none⟩ = some (.string l[k].2.1) ∧ w.cell? ⟨g, off + k * 3 + 2, none⟩ = some (.int .i64 l[k].2.2)) := by
    rcases h with ⟨A, cap, rfl, rfl⟩ | ⟨g, off, cap, rfl, hc, hx⟩
    · exact ⟨_, _, rfl, .inl rfl⟩
    · exact ⟨_, _, rfl, .inr ⟨g, off, rfl, hc, fun k hk => hx k l[k] (List.getElem?_eq_getElem hk)⟩⟩
  obtain ⟨a, cap, rfl, hx⟩ := hf
  have HX := Lib.hid hx
  clear hst hz h hm hx
  go_enter Tryz.func23, Tryz.ntmps23
  go_wp2
  go_loopw [8] (fun i wr => ∃ k : Nat, k ≤ l.length ∧ i = .int .i64 k ∧ ShI l k m w wr) (fun i _ => l.length - (intOf i).toNat)
  case atStart => exact ⟨0, Nat.zero_le _, rfl, HS.out⟩
  case round =>
    obtain ⟨k, hk, rfl, hI⟩ := hrel
    clear HS
    have HI := Lib.hid hI
    by_cases hlt : k < l.length
    · rcases HX.out with h0 | ⟨g, off, rfl, hcap, hx⟩
      · omega
      · obtain ⟨x1, x2, x3⟩ := hx k hlt
        have hsh := shown_any l[k]
        have hzk := HZ.out l[k] (List.getElem_mem hlt)
        have HT := Lib.hid (take_showL hlt)
        have hg : g < w.heap.size := World.block_lt_of_cell? w _ x1
        rw [← hI.bel.cell (p := ⟨g, off + k * 3, none⟩) hg] at x1
        rw [← hI.bel.cell (p := ⟨g, off + k * 3 + 1, none⟩) hg] at x2
        rw [← hI.bel.cell (p := ⟨g, off + k * 3 + 2, none⟩) hg] at x3
        clear hx hI hg
        generalize hT : l[k] = t at *
        clear hT
        obtain ⟨kd, tx, ta⟩ := t
        have hsh2 : ∀ w1, Wd m w1 → Calls Tryz.prog 37 #[.agg #[.int .i64 kd, .string tx, .int .i64 ta]] w1 fun e w' => e = .returned (.string ⟨(shownL (kd, tx, ta)).toArray⟩) ∧ Below w1.heap.size w1 w' := fun w1 h1 => hsh m w1 (by simp only at hzk ⊢; omega) h1
        have HSH := Lib.hid hsh2
        have hz2 := shown_size (kd, tx, ta)
        have HZ2 := Lib.hid (show (shownL (kd, tx, ta)).length ≤ 140000 by simp only at hzk hz2; omega)
        clear hsh hsh2 hzk hz2
        simp only at x1 x2 x3
        have hbt : Below wr.heap.size wr (wr.alloc (.cells #[.int .i64 kd, .string tx, .int .i64 ta] 35)) := (Below.refl _ _).alloc (Nat.le_refl _) _
        have HI1 := Lib.hid (HI.out.step hbt)
        have HB1 := Lib.hid (block_tok wr kd tx ta)
        clear hbt
        by_cases h0 : k = 0
        · subst h0
          have ht : showL (l.take 1) = showL (l.take 0) ++ shownL (kd, tx, ta) := by have := HT.out; rw [if_pos rfl, List.append_nil] at this; exact this
          have HT0 := Lib.hid ht
          simp only [Nat.zero_mul, Nat.add_zero] at x1 x2 x3
          have hws : ∀ w1, IsB w.heap.size w.heap.size (showL (l.take 0)) w1 → w.heap.size < w1.heap.size → Calls Tryz.prog 36 #[.pointer (some ⟨w.heap.size, 0, none⟩), .string ⟨(shownL (kd, tx, ta)).toArray⟩] w1 fun e w' => e = .returned (.tuple #[.int .i64 (⟨(shownL (kd, tx, ta)).toArray⟩ : ByteArray).size, .nilIface]) ∧ (AtB w.heap.size w.heap.size (showL (l.take 0) ++ shownL (kd, tx, ta)) w' ∧ Below w.heap.size w1 w' ∧ Lib.OthersKept 5 (some w.heap.size) w1 w') := by
            intro w1 h1 h2
            refine wstr_any w.heap.size w.heap.size _ ⟨(shownL (kd, tx, ta)).toArray⟩ w1 h1 ?_ (Nat.le_of_lt h2)
            have e1 := HSZ.out 0
            have e2 := HZ2.out
            show (showL (l.take 0)).length + (shownL (kd, tx, ta)).toArray.size ≤ _
            rw [List.size_toArray]
            try rw [List.length_append, List.length_singleton]
            omega
          have HWS := Lib.hid hws
          clear hws
          clear HT ht
          go_wp2_with (first
            | (go_at_call 37; (with_reducible refine (HSH.out _ HI1.out.wd).mono ?_); rintro e w3 ⟨rfl, hb3⟩; have hx3 := cells_tok ((hb3.block _ (Array.getElem?_eq_some_iff.1 HB1.out).1).trans HB1.out); have HI3 := Lib.hid (HI1.out.step hb3); clear hb3)
            | (go_at_call 36; (with_reducible refine (HWS.out _ HI3.out.bld HI3.out.lt).mono ?_); rintro e w4 ⟨rfl, hA, hb4, hk4⟩; have HA4 := Lib.hid hA; have HB4 := Lib.hid hb4; clear hA hb4 hk4))
          go_roundw
          case measure => simp [intOf]; omega
          case rel =>
            have hbl := HI3.out.bel.trans HB4.out
            exact ⟨1, by omega, rfl, ⟨hbl, Nat.lt_of_lt_of_le HI3.out.lt HB4.out.size, HM.out.below hbl, .inr (by rw [HT0.out]; exact HA4.out)⟩⟩
        · have ht : showL (l.take (k + 1)) = showL (l.take k) ++ [32] ++ shownL (kd, tx, ta) := by have := HT.out; rw [if_neg h0] at this; exact this
          have HT0 := Lib.hid ht
          have hpos : (0 : Int) < (k : Int) := by omega
          have hws : ∀ w1, IsB w.heap.size w.heap.size (showL (l.take k) ++ [32]) w1 → w.heap.size < w1.heap.size → Calls Tryz.prog 36 #[.pointer (some ⟨w.heap.size, 0, none⟩), .string ⟨(shownL (kd, tx, ta)).toArray⟩] w1 fun e w' => e = .returned (.tuple #[.int .i64 (⟨(shownL (kd, tx, ta)).toArray⟩ : ByteArray).size, .nilIface]) ∧ (AtB w.heap.size w.heap.size (showL (l.take k) ++ [32] ++ shownL (kd, tx, ta)) w' ∧ Below w.heap.size w1 w' ∧ Lib.OthersKept 5 (some w.heap.size) w1 w') := by
            intro w1 h1 h2
            refine wstr_any w.heap.size w.heap.size _ ⟨(shownL (kd, tx, ta)).toArray⟩ w1 h1 ?_ (Nat.le_of_lt h2)
            have e1 := HSZ.out k
            have e2 := HZ2.out
            show (showL (l.take k) ++ [32]).length + (shownL (kd, tx, ta)).toArray.size ≤ _
            rw [List.size_toArray]
            try rw [List.length_append, List.length_singleton]
            omega
          have HWS := Lib.hid hws
          clear hws
          have hwb : ∀ w1, IsB w.heap.size w.heap.size (showL (l.take k)) w1 → w.heap.size < w1.heap.size → Calls Tryz.prog 35 #[.pointer (some ⟨w.heap.size, 0, none⟩), .int .u8 32] w1 fun e w' => e = .returned .nilIface ∧ (AtB w.heap.size w.heap.size (showL (l.take k) ++ [32]) w' ∧ Below w.heap.size w1 w' ∧ Lib.OthersKept 5 (some w.heap.size) w1 w') := by
            intro w1 h1 h2
            have e1 := HSZ.out k
            exact wbyte_any w.heap.size w.heap.size _ 32 w1 h1 (by omega) (Nat.le_of_lt h2)
          have HWB := Lib.hid hwb
          clear hwb
          clear HT ht h0
          go_wp2_with (first
            | (go_at_call 35; (with_reducible refine (HWB.out _ HI1.out.bld HI1.out.lt).mono ?_); rintro e w2 ⟨rfl, hA, hb2, hk2⟩; have hb2t := kept_cell hk2 HB1.out (by have := HI.out.lt; omega) (by intro c fz hc; injection hc with _ h2 _; exact absurd h2 (by decide)); have hx2 := cells_tok hb2t; have HB2T := Lib.hid hb2t; have HI2 := Lib.hid (show IsB w.heap.size w.heap.size (showL (l.take k) ++ [32]) w2 from .inr hA); have HB2 := Lib.hid (HI1.out.bel.trans hb2); have HL2 := Lib.hid (Nat.lt_of_lt_of_le HI1.out.lt hb2.size); clear hA hb2 hk2 hb2t)
            | (go_at_call 37; (with_reducible refine (HSH.out _ (HM.out.below HB2.out)).mono ?_); rintro e w3 ⟨rfl, hb3⟩; have HI3 := Lib.hid (HI2.out.below hb3); have HB3 := Lib.hid (HB2.out.trans (hb3.mono (Nat.le_of_lt HL2.out))); have HL3 := Lib.hid (Nat.lt_of_lt_of_le HL2.out hb3.size); clear hb3)
            | (go_at_call 36; (with_reducible refine (HWS.out _ HI3.out HL3.out).mono ?_); rintro e w4 ⟨rfl, hA, hb4, hk4⟩; have HA4 := Lib.hid hA; have HB4 := Lib.hid hb4; clear hA hb4 hk4))
          go_roundw
          case measure => simp [intOf]; omega
          case rel =>
            have hbl := HB3.out.trans HB4.out
            exact ⟨k + 1, by omega, by go_num, ⟨hbl, Nat.lt_of_lt_of_le HL3.out HB4.out.size, HM.out.below hbl, .inr (by rw [HT0.out]; exact HA4.out)⟩⟩
    · have hkl : k = l.length := by omega
      subst hkl
      have hsb := HI.out.bld
      rw [List.take_length] at hsb
      have HSB := Lib.hid hsb
      clear hsb
      go_wp2_with (go_at_call 38; (with_reducible refine (Tryz.Builder_String_any w.heap.size w.heap.size _ _ HSB.out (Nat.le_of_lt HI.out.lt)).mono ?_); rintro e w5 ⟨rfl, hb5⟩)
      go_ret
      exact ⟨rfl, HI.out.bel.trans hb5⟩
end Go.Proofs.YtgnpkpboilnijaaGreatDoor
namespace Go.Proofs.YtgnpkpboilnijaaGreatDoor
open Go.ChangeShapes Go.WideShapes Go.ChangeAt Go.RowKit
set_option maxRecDepth 100000
set_option linter.unusedVariables false
set_option linter.unusedSimpArgs false

def isSemi (t : Tok) : Bool := t.1 == 5 && t.2.1.toList == [59]
def addL (als : List (List Tok)) (one : List Tok) : List (List Tok) := if one = [] then als else als ++ [one]
/-- the lists between Signs ; -/
def spF : List Tok → List Tok → List (List Tok) → List (List Tok)
  | [], one, als => addL als one
  | t :: r, one, als => if isSemi t = true then spF r [] (addL als one) else spF r (one ++ [t]) als
def splitL (l : List Tok) : List (List Tok) := spF l [] []
theorem own_kind {w : World} {B z n : Nat} {e : TypeId} {v : Value} {xs : List Value} (h : w.ownsRow B e z v n xs) : ∀ g, v.ownBlock = some g → g < w.heap.size ∧ ∃ c fz, w.heap[g]? = some (.cells c e fz) := by
  intro g hg
  rcases h.2 with ⟨rfl, _⟩ | ⟨g', cap, cur, rfl, _, hgg, _⟩
  · simp [Value.ownBlock] at hg
  · simp [Value.ownBlock] at hg
    subst hg
    exact ⟨(Array.getElem?_eq_some_iff.1 hgg).1, cur, _, hgg⟩
theorem own_apart {w : World} {B z n B2 z2 n2 : Nat} {e e2 : TypeId} {v v2 : Value} {xs xs2 : List Value} (h : w.ownsRow B e z v n xs) (h2 : w.ownsRow B2 e2 z2 v2 n2 xs2) (he : e ≠ e2) : v.ownBlock = none ∨ v.ownBlock ≠ v2.ownBlock := by
  cases hv : v.ownBlock with
  | none => exact .inl rfl
  | some g =>
    right
    intro hh
    obtain ⟨_, c, fz, h1⟩ := own_kind h g hv
    obtain ⟨_, c2, fz2, h3⟩ := own_kind h2 g hh.symm
    rw [h1] at h3
    injection h3 with h3
    injection h3 with _ h4 _
    exact he h4
/-- lists that are put together: als are whole, one is being made -/
structure SpI (w0 : World) (als : List (List Tok)) (one : List Tok) (va vo : Value) (w : World) : Prop where
  bel : Below w0.heap.size w0 w
  all : ∃ vs : List Value, vs.length = als.length ∧ w.ownsRow w0.heap.size 22 1 va als.length vs ∧
    ∀ (i : Nat) (u : Value) (l : List Tok), vs[i]? = some u → als[i]? = some l → w.ownsRow w0.heap.size 35 3 u l.length (tokRow l) ∧ (u.ownBlock = none ∨ u.ownBlock ≠ vo.ownBlock)
  one : w.ownsRow w0.heap.size 35 3 vo one.length (tokRow one)
theorem SpI.start (w : World) : SpI w [] [] (.slice none 0 0) (.slice none 0 0) w :=
  ⟨Below.refl _ _, ⟨[], rfl, World.ownsRow_nil _ _ _ _, fun i u l h => by simp at h⟩, World.ownsRow_nil _ _ _ _⟩
theorem SpI.step {w0 w w2 : World} {als : List (List Tok)} {one : List Tok} {va vo : Value} (h : SpI w0 als one va vo w) (b : Below w.heap.size w w2) : SpI w0 als one va vo w2 := by
  obtain ⟨vs, h1, h2, h3⟩ := h.all
  exact ⟨h.bel.trans (b.mono h.bel.size), ⟨vs, h1, ownsRow_below h2 b, fun i u l hu hl => ⟨ownsRow_below (h3 i u l hu hl).1 b, (h3 i u l hu hl).2⟩⟩, ownsRow_below h.one b⟩
theorem SpI.token {w0 w w2 : World} {als : List (List Tok)} {one : List Tok} {va vo : Value} (h : SpI w0 als one va vo w) (t : Tok) (g cap H : Nat) (hown : w2.ownsRow w0.heap.size 35 3 (.slice (some ⟨g, 0, none⟩) (one.length + 1) cap) (one.length + 1) (tokRow one ++ tokCells t))
    (hg : w.grownBy w2 vo.ownBlock) (hat : vo.ownBlock = some g ∨ g = H) (hH : H = w.heap.size) : SpI w0 als (one ++ [t]) va (.slice (some ⟨g, 0, none⟩) (one.length + 1) cap) w2 := by
  obtain ⟨vs, h1, h2, h3⟩ := h.all
  refine ⟨h.bel.grown hg h.bel.size fun k hk => (World.ownsRow.lt h.one k hk).1, ⟨vs, h1, h2.kept hg (own_apart h2 h.one (by decide)), fun i u l hu hl => ?_⟩, ?_⟩
  · obtain ⟨a, b⟩ := h3 i u l hu hl
    refine ⟨a.kept hg b, ?_⟩
    rcases hat with e | e
    · rw [e] at b; exact b
    · right
      intro hh
      have := (own_kind a g hh).1
      omega
  · rw [List.length_append, List.length_singleton, show tokRow (one ++ [t]) = tokRow one ++ tokCells t by simp [tokRow]]
    exact hown
theorem SpI.list {w0 w w2 : World} {als : List (List Tok)} {one : List Tok} {va vo v9 : Value} (h : SpI w0 als one va vo w) (vs : List Value) (h1 : vs.length = als.length) (h2 : w.ownsRow w0.heap.size 22 1 va als.length vs)
    (h3 : ∀ (i : Nat) (u : Value) (l : List Tok), vs[i]? = some u → als[i]? = some l → w.ownsRow w0.heap.size 35 3 u l.length (tokRow l) ∧ (u.ownBlock = none ∨ u.ownBlock ≠ vo.ownBlock))
    (hown : w2.ownsRow w0.heap.size 22 1 v9 (als.length + 1) (vs ++ [vo]))
    (hg : w.grownBy w2 va.ownBlock) : SpI w0 (als ++ [one]) [] v9 (.slice none 0 0) w2 := by
  refine ⟨h.bel.grown hg h.bel.size fun k hk => (World.ownsRow.lt h2 k hk).1, ⟨vs ++ [vo], by simp [h1], by rw [List.length_append, List.length_singleton]; exact hown, fun i u l hu hl => ?_⟩, World.ownsRow_nil _ _ _ _⟩
  have key : ∀ u : Value, u.ownBlock = none ∨ u.ownBlock ≠ (Value.slice none 0 0).ownBlock := fun u => by
    cases e : u.ownBlock with
    | none => exact .inl rfl
    | some g => right; simp [Value.ownBlock]
  by_cases hi : i < als.length
  · rw [List.getElem?_append_left (by omega)] at hu
    rw [List.getElem?_append_left hi] at hl
    exact ⟨(h3 i u l hu hl).1.kept hg (own_apart (h3 i u l hu hl).1 h2 (by decide)), key u⟩
  · rw [List.getElem?_append_right (by omega)] at hu hl
    have hz : i - als.length = 0 := by
      have := (List.getElem?_eq_some_iff.1 hl).1
      simp at this; omega
    rw [h1] at hu
    rw [hz] at hu hl
    simp at hu hl
    subst hu hl
    exact ⟨h.one.kept hg (own_apart h.one h2 (by decide)), key vo⟩
theorem SpI.forms {w0 w : World} {als : List (List Tok)} {one : List Tok} {va vo : Value} (h : SpI w0 als one va vo w) : (∃ a c, va = .slice a als.length c) ∧ ∃ a c, vo = .slice a one.length c := by
  obtain ⟨vs, h1, h2, h3⟩ := h.all
  constructor
  · rcases h2.2 with ⟨rfl, hz⟩ | ⟨g, cap, cur, rfl, _⟩
    · exact ⟨none, 0, by rw [hz]⟩
    · exact ⟨_, _, rfl⟩
  · rcases h.one.2 with ⟨rfl, hz⟩ | ⟨g, cap, cur, rfl, _⟩
    · exact ⟨none, 0, by rw [hz]⟩
    · exact ⟨_, _, rfl⟩
theorem info23 : (Tryz.prog.info? 22).map (fun i => (i.zero, i.size, i.bytes)) = some (some (.slice none 0 0), 1, 24) := by kernel_rfl
end Go.Proofs.YtgnpkpboilnijaaGreatDoor
namespace Go.Proofs.YtgnpkpboilnijaaGreatDoor
open Go.ChangeShapes Go.WideShapes Go.ChangeAt Go.RowKit
set_option maxRecDepth 100000
set_option linter.unusedVariables false
set_option linter.unusedSimpArgs false

/-- v is a slice of lists of tokens that reads as als -/
def LLR (w : World) (v : Value) (als : List (List Tok)) : Prop :=
  (∃ A cap, v = .slice A 0 cap ∧ als = []) ∨
  ∃ h off cap, v = .slice (some ⟨h, off, none⟩) als.length cap ∧ als.length ≤ cap ∧ ∀ (i : Nat) (l : List Tok), als[i]? = some l → ∃ u, w.cell? ⟨h, off + i, none⟩ = some u ∧ TR w u l
theorem LLR.of {w0 w : World} {als : List (List Tok)} {one : List Tok} {va vo : Value} (h : SpI w0 als one va vo w) : LLR w va als := by
  obtain ⟨vs, h1, h2, h3⟩ := h.all
  rcases h2.2 with ⟨rfl, hz⟩ | ⟨g, cap, cur, rfl, hb, hh, hc, hm, hs, ht⟩
  · exact .inl ⟨none, 0, rfl, List.eq_nil_of_length_eq_zero hz⟩
  · refine .inr ⟨g, 0, cap, rfl, hc, fun i l hi => ?_⟩
    have hlt := (List.getElem?_eq_some_iff.1 hi).1
    have hu : vs[i]? = some vs[i] := List.getElem?_eq_getElem (by omega)
    refine ⟨vs[i], ?_, TR.own (h3 i _ l hu hi).1⟩
    have e1 := h2.cells (g := g) rfl i _ hu
    rw [Addr.add_lit, Nat.zero_add] at e1
    rw [Nat.zero_add]; exact e1
theorem LLR.keep {w w' : World} {v : Value} {l : List (List Tok)} (h : LLR w v l) (hk : ∀ p : Addr, (w.cell? p).isSome = true → w'.cell? p = w.cell? p) : LLR w' v l := by
  rcases h with h | ⟨h, off, cap, e, hc, hm⟩
  · exact .inl h
  · refine .inr ⟨h, off, cap, e, hc, fun i t hi => ?_⟩
    obtain ⟨u, a, b⟩ := hm i t hi
    exact ⟨u, (hk _ (by rw [a]; rfl)).trans a, b.keep hk⟩
theorem LLR.below {w w' : World} {v : Value} {l : List (List Tok)} (h : LLR w v l) (hb : Below w.heap.size w w') : LLR w' v l :=
  h.keep fun p hp => by
    obtain ⟨u, hu⟩ := Option.isSome_iff_exists.1 hp
    exact hb.cell (World.block_lt_of_cell? w p hu)
theorem LLR.drewN {w : World} {v : Value} {l : List (List Tok)} (h : LLR w v l) (n : Nat) : LLR (w.drewN n) v l := h.keep fun p _ => by cases p; simp [go_sem]
theorem LLR.form {w : World} {v : Value} {l : List (List Tok)} (h : LLR w v l) : ∃ a cap, v = .slice a l.length cap := by
  rcases h with ⟨A, cap, rfl, rfl⟩ | ⟨_, _, _, rfl, _⟩
  · exact ⟨_, _, rfl⟩
  · exact ⟨_, _, rfl⟩
theorem add_le (als : List (List Tok)) (one : List Tok) : (addL als one).length ≤ als.length + 1 := by unfold addL; split <;> simp
theorem spF_le : ∀ (l : List Tok) (one : List Tok) (als : List (List Tok)), (spF l one als).length ≤ als.length + l.length + 1 := by
  intro l
  induction l with
  | nil => intro one als; exact add_le als one
  | cons t r ih =>
    intro one als
    rw [spF]
    split
    · have := ih [] (addL als one); have := add_le als one; simp only [List.length_cons]; omega
    · have := ih (one ++ [t]) als; simp only [List.length_cons]; omega
theorem tr_cells {w : World} {v : Value} {l : List Tok} (h : TR w v l) : ∃ a cap, v = .slice a l.length cap ∧ (l.length = 0 ∨ ∃ g off, a = some ⟨g, off, none⟩ ∧ l.length ≤ cap ∧ ∀ k (hk : k < l.length), w.cell? ⟨g, off + k * 3, none⟩ = some (.int .i64 l[k].1) ∧ w.cell? ⟨g, off + k * 3 + 1, none⟩ = some (.string l[k].2.1) ∧ w.cell? ⟨g, off + k * 3 + 2, none⟩ = some (.int .i64 l[k].2.2)) := by
  rcases h with ⟨A, cap, rfl, rfl⟩ | ⟨g, off, cap, rfl, hc, hx⟩
  · exact ⟨_, _, rfl, .inl rfl⟩
  · exact ⟨_, _, rfl, .inr ⟨g, off, rfl, hc, fun k hk => hx k l[k] (List.getElem?_eq_getElem hk)⟩⟩
theorem Below.tok2 {w w2 : World} (hb : Below w.heap.size w w2) (tx : ByteArray) (t : Tok) : Below w.heap.size w ((w2.setCell ⟨w.heap.size, 1, none⟩ (.string tx)).alloc (.cells #[.int .i64 t.1, .string t.2.1, .int .i64 t.2.2] 35)) :=
  (hb.setCell (p := ⟨w.heap.size, 1, none⟩) (Nat.le_refl _) _).alloc (by have := hb.size; simpa using this) _
theorem tok_cells1 (w : World) (n : Nat) (t : Tok) (hn : w.heap.size = n) : ∀ (j : Nat) (u : Value), (tokCells t)[j]? = some u → (w.alloc (.cells #[.int .i64 t.1, .string t.2.1, .int .i64 t.2.2] 35)).cell? ((⟨n, 0, none⟩ : Addr).add j) = some u := by
  subst hn; exact tok_cells w t
def SplP (w : World) (R : List (List Tok)) (e : Ending) (w' : World) : Prop := ∃ v, e = .returned v ∧ LLR w' v R ∧ Below w.heap.size w w'
end Go.Proofs.YtgnpkpboilnijaaGreatDoor
namespace Go.Proofs.YtgnpkpboilnijaaGreatDoor
open Go.ChangeShapes Go.WideShapes Go.ChangeAt Go.RowKit
set_option maxRecDepth 100000
set_option linter.unusedVariables false
set_option linter.unusedSimpArgs false

abbrev bb (l : Tx) : ByteArray := ⟨l.toArray⟩
theorem bb_app (a b : Tx) : bb a ++ bb b = bb (a ++ b) := by apply ByteArray.ext; simp
theorem bb_size (a : Tx) : (bb a).size = a.length := by show a.toArray.size = _; simp
theorem ext_one (s : ByteArray) (k : Nat) (hk : k < s.size) : s.extract k (k + 1) = bb [s.data.toList[k]'hk] := by
  apply ByteArray.ext
  apply Array.ext'
  rw [ByteArray.data_extract, Array.toList_extract]
  have h2 : k < s.data.toList.length := hk
  rw [List.extract_eq_take_drop, show k + 1 - k = 1 by omega, List.drop_eq_getElem_cons h2]
  simp
theorem dbl_take (q : UInt8) (l : Tx) (k : Nat) (hk : k < l.length) : dblL q (l.take (k + 1)) = dblL q (l.take k) ++ (if l[k] = q then [q, q] else [l[k]]) := by
  have e : l.take (k + 1) = l.take k ++ [l[k]] := by rw [List.take_add_one, List.getElem?_eq_getElem hk]; rfl
  rw [e]
  simp only [dblL, List.flatMap_append, List.flatMap_cons, List.flatMap_nil, List.append_nil]
set_option maxHeartbeats 1000000 in
theorem double_any (q : UInt8) (s : ByteArray) (w : World) (hs : s.size ≤ 1048576) :
    Calls Tryz.prog 40 #[.string s, .string (bb [q])] w fun e w' => e = .returned (.string (bb (quoL q s.data.toList))) ∧ w' = w := by
  have hQ : (bb [q]).size = 1 := rfl
  have hsz : ∀ k, (bb (q :: dblL q (s.data.toList.take k))).size ≤ 2097160 := by
    intro k
    have h1 := dbl_size q (s.data.toList.take k)
    have h2 : (s.data.toList.take k).length ≤ s.size := by rw [List.length_take]; exact Nat.min_le_right _ _
    rw [bb_size, List.length_cons]; omega
  have HSZ := Lib.hid hsz
  have hstep : ∀ k (hk : k < s.size), (if s.data.toList[k]'hk = q then (bb (q :: dblL q (s.data.toList.take k)) ++ bb [q]) ++ s.extract k (k + 1) else bb (q :: dblL q (s.data.toList.take k)) ++ s.extract k (k + 1)) = bb (q :: dblL q (s.data.toList.take (k + 1))) := by
    intro k hk
    rw [ext_one s k hk, dbl_take q _ k hk]
    by_cases h : s.data.toList[k]'hk = q
    · rw [if_pos h, if_pos h, bb_app, bb_app, h]; congr 1; simp
    · rw [if_neg h, if_neg h, bb_app]; congr 1
  have HST := Lib.hid hstep
  have hend : bb (q :: dblL q (s.data.toList.take s.size)) ++ bb [q] = bb (quoL q s.data.toList) := by
    have : s.data.toList.take s.size = s.data.toList := List.take_length
    rw [this, bb_app]; rfl
  have HEN := Lib.hid hend
  have h0 : bb [q] = bb (q :: dblL q (s.data.toList.take 0)) := by simp [dblL]
  have H0 := Lib.hid h0
  have hone : ∀ k (hk : k < s.size), (s.extract k (k + 1)).size = 1 ∧ ((s.data.toList[k]'hk = q ∧ ((s.extract k (k + 1)).toList == (bb [q]).toList) = true) ∨ (s.data.toList[k]'hk ≠ q ∧ ((s.extract k (k + 1)).toList == (bb [q]).toList) = false)) := by
    intro k hk
    rw [ext_one s k hk]
    refine ⟨rfl, ?_⟩
    by_cases h : s.data.toList[k]'hk = q
    · left; exact ⟨h, by rw [h]; simp⟩
    · right
      refine ⟨h, ?_⟩
      rw [beq_eq_false_iff_ne]
      intro hh
      rw [ByteArray.toList_eq, ByteArray.toList_eq] at hh
      simp at hh
      exact h hh
  have HON := Lib.hid hone
  clear hsz hstep hend h0 hone
  generalize hq : bb [q] = Q at *
  have HQQ := Lib.hid hq
  clear hq
  have hQ2 : Q.size ≤ 10 := by omega
  go_enter Tryz.func40, Tryz.ntmps40
  go_wp2
  go_loop [5, 6] (fun u5 u6 => ∃ k : Nat, k ≤ s.size ∧ u6 = .int .i64 k ∧ u5 = .string (bb (q :: dblL q (s.data.toList.take k)))) (fun _ u6 => s.size - (intOf u6).toNat)
  case atStart => exact ⟨0, Nat.zero_le _, rfl, by rw [← H0.out]⟩
  case round =>
    obtain ⟨k, hk, rfl, rfl⟩ := hrel
    have ht := HSZ.out k
    by_cases hlt : k < s.size
    · obtain ⟨h1, h2⟩ := HON.out k hlt
      have hst := HST.out k hlt
      have l0 : (0 : Int) ≤ (k : Int) := by omega
      obtain ⟨b, hb⟩ : ∃ b, k + 1 = b := ⟨_, rfl⟩
      have cw : IntKind.i64.wrap ((k : Int) + 1) = (b : Int) := by rw [show (k : Int) + 1 = (b : Int) by omega]; exact IntWalk.i64_in _ (by omega)
      have l1 : (k : Int) ≤ (b : Int) := by omega
      have l2 : (b : Int) ≤ (s.size : Int) := by omega
      rw [hb] at hst h1 h2
      have HBK := Lib.hid hb
      have hkb : k < b := by omega
      have hbs : b ≤ s.size := by omega
      clear hb
      rcases h2 with ⟨h2, h3⟩ | ⟨h2, h3⟩
      · rw [if_pos h2] at hst
        have HX := Lib.hid hst
        clear hst h2
        generalize bb (q :: dblL q (s.data.toList.take k)) = T at *
        go_wp2
        go_round
        case rel => exact ⟨b, hbs, rfl, by rw [HX.out]⟩
        case measure => simp [intOf]; omega
      · rw [if_neg h2] at hst
        have HX := Lib.hid hst
        clear hst h2
        generalize bb (q :: dblL q (s.data.toList.take k)) = T at *
        go_wp2
        go_round
        case rel => exact ⟨b, hbs, rfl, by rw [HX.out]⟩
        case measure => simp [intOf]; omega
    · have hkl : k = s.size := by omega
      subst hkl
      have HX := Lib.hid HEN.out
      generalize bb (q :: dblL q (s.data.toList.take s.size)) = T at *
      go_wp2
      go_ret
      exact ⟨by rw [HX.out]; rfl, rfl⟩
set_option maxHeartbeats 2000000 in
set_option maxRecDepth 100000 in
theorem rshow_any (v : Value) (l : List Tok) (w : World) (hl : l.length ≤ 65536) (hz : ∀ t ∈ l, t.2.1.size ≤ 65536) (h : TR w v l) :
    Calls Tryz.prog 25 #[v] w fun e w' => e = .returned (.string (bb (showL l))) ∧ w' = w := by
  obtain ⟨a, cap, rfl, hx⟩ := tr_cells h
  have HX := Lib.hid hx
  have HZ := Lib.hid hz
  have HSZ := Lib.hid (take_size hl hz)
  clear h hx hz
  go_enter Tryz.func25, Tryz.ntmps25
  go_wp2
  go_loop [3, 4] (fun u3 u4 => ∃ k : Nat, k ≤ l.length ∧ u4 = .int .i64 k ∧ u3 = .string (bb (showL (l.take k)))) (fun _ u4 => l.length - (intOf u4).toNat)
  case atStart => exact ⟨0, Nat.zero_le _, rfl, rfl⟩
  case round =>
    obtain ⟨k, hk, rfl, rfl⟩ := hrel
    by_cases hlt : k < l.length
    · rcases HX.out with h0 | ⟨g, off, rfl, hcap, hx⟩
      · omega
      · obtain ⟨x1, x2, x3⟩ := hx k hlt
        have hzk := HZ.out l[k] (List.getElem_mem hlt)
        have ht := take_showL hlt
        have hT1 : (bb (showL (l.take k))).size ≤ 68719476736 := by rw [bb_size]; exact HSZ.out k
        have hsh := shown_size l[k]
        clear hx
        generalize hT : l[k] = t at *
        clear hT
        obtain ⟨kd, tx, ta⟩ := t
        simp only at x1 x2 x3 hzk hsh
        have hu : ∃ U : ByteArray, U.size ≤ 68719476740 ∧ bb (showL (l.take (k + 1))) = U ++ bb (shownL (kd, tx, ta)) ∧ ((k = 0 ∧ U = bb (showL (l.take k))) ∨ ((0 : Int) < (k : Int) ∧ U = bb (showL (l.take k)) ++ bb [32])) := by
          by_cases h0 : k = 0
          · exact ⟨bb (showL (l.take k)), by omega, by rw [ht, if_pos h0, List.append_nil, bb_app], .inl ⟨h0, rfl⟩⟩
          · refine ⟨bb (showL (l.take k)) ++ bb [32], ?_, by rw [ht, if_neg h0, bb_app, bb_app], .inr ⟨by omega, rfl⟩⟩
            rw [bb_app, bb_size, List.length_append]
            have := HSZ.out k
            simp only [List.length_singleton]; omega
        obtain ⟨U, hU, hN, hc⟩ := hu
        have HN := Lib.hid hN
        have hdo := fun q w1 => double_any q tx w1 (by omega)
        have HD := Lib.hid hdo
        clear ht hN hdo
        have hk2 : (kd = 2 ∧ shownL (kd, tx, ta) = quoL 34 tx.data.toList) ∨ ((kd == (2 : Int)) = false ∧ kd = 3 ∧ shownL (kd, tx, ta) = quoL 39 tx.data.toList) ∨ ((kd == (2 : Int)) = false ∧ (kd == (3 : Int)) = false ∧ bb (shownL (kd, tx, ta)) = tx) := by
          by_cases h2 : kd = 2
          · left; exact ⟨h2, by unfold shownL; rw [if_pos h2]⟩
          · right
            by_cases h3 : kd = 3
            · left; exact ⟨by rw [beq_eq_false_iff_ne]; exact h2, h3, by unfold shownL; rw [if_neg h2, if_pos h3]⟩
            · right; exact ⟨by rw [beq_eq_false_iff_ne]; exact h2, by rw [beq_eq_false_iff_ne]; exact h3, by unfold shownL; rw [if_neg h2, if_neg h3]⟩
        rcases hc with ⟨rfl, hc⟩ | ⟨hk0, hc⟩
        · subst hc
          generalize bb (showL (l.take 0)) = T at *
          simp only [Nat.zero_mul, Nat.add_zero] at x1 x2 x3
          rcases hk2 with ⟨rfl, h3⟩ | ⟨h1, rfl, h3⟩ | ⟨h1, h2, h3⟩
          · have HS := Lib.hid h3
            have hqs := quo_size 34 tx.data.toList
            have hQ : (bb (quoL 34 tx.data.toList)).size ≤ 140000 := by rw [bb_size]; have : tx.data.toList.length = tx.size := rfl; omega
            have hd2 := HD.out 34
            rw [← HS.out] at hQ hd2
            clear h3 hsh hqs
            have HRL := Lib.hid (show bb (showL (l.take 1)) = T ++ bb (shownL (2, tx, ta)) from HN.out)
            generalize bb (shownL (2, tx, ta)) = QQ at *
            have HD2 := Lib.hid hd2
            clear hd2
            go_wp2_with (go_at_call 40; (with_reducible refine (HD2.out _).mono ?_); rintro e w1 ⟨rfl, hw⟩; obtain rfl := hw.symm)
            go_round
            case rel => exact ⟨1, by omega, by go_num, by rw [HRL.out]⟩
            case measure => simp [intOf]; omega
          · have HS := Lib.hid h3
            have hqs := quo_size 39 tx.data.toList
            have hQ : (bb (quoL 39 tx.data.toList)).size ≤ 140000 := by rw [bb_size]; have : tx.data.toList.length = tx.size := rfl; omega
            have hd2 := HD.out 39
            rw [← HS.out] at hQ hd2
            clear h3 hsh hqs
            have HRL := Lib.hid (show bb (showL (l.take 1)) = T ++ bb (shownL (3, tx, ta)) from HN.out)
            generalize bb (shownL (3, tx, ta)) = QQ at *
            have HD2 := Lib.hid hd2
            clear hd2
            go_wp2_with (go_at_call 40; (with_reducible refine (HD2.out _).mono ?_); rintro e w1 ⟨rfl, hw⟩; obtain rfl := hw.symm)
            go_round
            case rel => exact ⟨1, by omega, by go_num, by rw [HRL.out]⟩
            case measure => simp [intOf]; omega
          · have HS := Lib.hid h3
            have HKK := Lib.hid (And.intro h1 h2)
            clear h3 hsh
            go_wp2
            go_round
            case rel => exact ⟨1, by omega, by go_num, by rw [HN.out, HS.out]⟩
            case measure => simp [intOf]; omega
        · subst hc
          generalize bb (showL (l.take k)) = T at *
          rcases hk2 with ⟨rfl, h3⟩ | ⟨h1, rfl, h3⟩ | ⟨h1, h2, h3⟩
          · have HS := Lib.hid h3
            have hqs := quo_size 34 tx.data.toList
            have hQ : (bb (quoL 34 tx.data.toList)).size ≤ 140000 := by rw [bb_size]; have : tx.data.toList.length = tx.size := rfl; omega
            have hd2 := HD.out 34
            rw [← HS.out] at hQ hd2
            clear h3 hsh hqs
            have HRL := Lib.hid (show bb (showL (l.take (k + 1))) = T ++ bb [32] ++ bb (shownL (2, tx, ta)) from HN.out)
            generalize bb (shownL (2, tx, ta)) = QQ at *
            have HD2 := Lib.hid hd2
            clear hd2
            go_wp2_with (go_at_call 40; (with_reducible refine (HD2.out _).mono ?_); rintro e w1 ⟨rfl, hw⟩; obtain rfl := hw.symm)
            go_round
            case rel => exact ⟨k + 1, by omega, by go_num, by rw [HRL.out]⟩
            case measure => simp [intOf]; omega
          · have HS := Lib.hid h3
            have hqs := quo_size 39 tx.data.toList
            have hQ : (bb (quoL 39 tx.data.toList)).size ≤ 140000 := by rw [bb_size]; have : tx.data.toList.length = tx.size := rfl; omega
            have hd2 := HD.out 39
            rw [← HS.out] at hQ hd2
            clear h3 hsh hqs
            have HRL := Lib.hid (show bb (showL (l.take (k + 1))) = T ++ bb [32] ++ bb (shownL (3, tx, ta)) from HN.out)
            generalize bb (shownL (3, tx, ta)) = QQ at *
            have HD2 := Lib.hid hd2
            clear hd2
            go_wp2_with (go_at_call 40; (with_reducible refine (HD2.out _).mono ?_); rintro e w1 ⟨rfl, hw⟩; obtain rfl := hw.symm)
            go_round
            case rel => exact ⟨k + 1, by omega, by go_num, by rw [HRL.out]⟩
            case measure => simp [intOf]; omega
          · have HS := Lib.hid h3
            have HKK := Lib.hid (And.intro h1 h2)
            clear h3 hsh
            go_wp2
            go_round
            case rel => exact ⟨k + 1, by omega, by go_num, by rw [HN.out, HS.out]⟩
            case measure => simp [intOf]; omega
    · have hkl : k = l.length := by omega
      subst hkl
      go_wp2
      go_ret
      exact ⟨by first | rfl | (rw [List.take_length]; rfl), rfl⟩
end Go.Proofs.YtgnpkpboilnijaaGreatDoor
