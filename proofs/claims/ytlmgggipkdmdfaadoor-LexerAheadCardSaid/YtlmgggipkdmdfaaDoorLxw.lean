/- What package lexer's Show answers. Conditions: the word of bytealg, how many tokens, how long their texts. -/
import Derived.Test.YtlmgggipkdmdfaaDoorLxv
import Derived.Test.YtlmgggipkdmdfaaDoorLxt
import Derived.WalkMore
import Derived.BigQuiet
import Derived.OwnWalk
import Derived.Deep.LoopGhost
import Derived.Deep.QuietTactic
namespace Go.Proofs.YtlmgggipkdmdfaaDoor
open Go.ChangeShapes Go.WideShapes Go.ChangeAt Go.RowKit
set_option linter.unusedVariables false
set_option linter.unusedSimpArgs false

theorem IsB.below {B b : Nat} {l : Tx} {w w2 : World} (h : IsB B b l w) (hb : Below w.heap.size w w2) : IsB B b l w2 := by
  have key : ∀ p, Lib.BuilderAt 49 5 B b p (Lib.byteCells l) w → Lib.BuilderAt 49 5 B b p (Lib.byteCells l) w2 := by
    rintro p h
    have hlt := h.lt
    obtain ⟨hB, v, hbk, hown, hne⟩ := h
    exact ⟨hB, v, by rw [hb.block _ hlt]; exact hbk, ownsRow_below hown hb, hne⟩
  rcases h with h | h
  · exact .inl (key _ h)
  · exact .inr (key _ h)
theorem kept_cell {w w2 : World} {b k : Nat} {o : Obj} (h : Lib.OthersKept 5 (some b) w w2) (hk : w.heap[k]? = some o) (hb : k ≠ b) (ho : ∀ c fz, o ≠ .cells c 5 fz) : w2.heap[k]? = some o :=
  h k o hk (fun e => hb (Option.some.inj e)) ho
/-- what holds while Show goes on -/
structure ShI (l : List Tok) (k : Nat) (m : Int) (w wr : World) : Prop where
  bel : Below w.heap.size w wr
  lt : w.heap.size < wr.heap.size
  wd : Wd m wr
  bld : IsB w.heap.size w.heap.size (showL (l.take k)) wr
theorem ShI.step {l : List Tok} {k : Nat} {m : Int} {w wr w2 : World} (h : ShI l k m w wr) (b : Below wr.heap.size wr w2) : ShI l k m w w2 :=
  ⟨h.bel.trans (b.mono (Nat.le_of_lt h.lt)), Nat.lt_of_lt_of_le h.lt b.size, h.wd.below b, h.bld.below b⟩
theorem cells_tok {w2 : World} {g : Nat} {a : Int} {s : ByteArray} {c : Int} (h : w2.heap[g]? = some (.cells #[.int .i64 a, .string s, .int .i64 c] 30 (0, 0))) :
    w2.cell? ⟨g, 0, none⟩ = some (.int .i64 a) ∧ w2.cell? ⟨g, 1, none⟩ = some (.string s) ∧ w2.cell? ⟨g, 2, none⟩ = some (.int .i64 c) := by
  refine ⟨?_, ?_, ?_⟩ <;> rw [Lib.cell_of_heap h] <;> rfl
theorem block_tok (w : World) (a : Int) (s : ByteArray) (c : Int) : (w.alloc (.cells #[.int .i64 a, .string s, .int .i64 c] 30)).heap[w.heap.size]? = some (.cells #[.int .i64 a, .string s, .int .i64 c] 30 (0, 0)) := by
  show (w.heap.push _)[w.heap.size]? = _; simp
theorem take_showL {l : List Tok} {k : Nat} (hk : k < l.length) : showL (l.take (k + 1)) = showL (l.take k) ++ (if k = 0 then [] else [32]) ++ shownL l[k] := by
  rw [List.take_add_one, List.getElem?_eq_getElem hk, Option.toList_some, show_snoc]
  congr 2
  by_cases h0 : k = 0
  · subst h0; simp
  · rw [if_neg h0, if_neg]
    intro he
    have := congrArg List.length he
    rw [List.length_take, List.length_nil] at this
    omega
theorem take_size {l : List Tok} (hl : l.length ≤ 65536) (hz : ∀ t ∈ l, t.2.1.size ≤ 65536) (k : Nat) : (showL (l.take k)).length ≤ 68719476736 := by
  have h1 := show_size (l.take k) 65536 fun t h => hz t (List.mem_of_mem_take h)
  have h2 : (l.take k).length ≤ 65536 := by rw [List.length_take]; omega
  have h3 := Nat.mul_le_mul_right (2 * 65536 + 3) h2
  omega
set_option maxHeartbeats 2000000 in
set_option maxRecDepth 100000 in
theorem show_any (v : Value) (l : List Tok) (m : Int) (w : World) (hl : l.length ≤ 65536) (hz : ∀ t ∈ l, t.2.1.size ≤ 65536) (h : TR w v l) (hm : Wd m w) :
    Calls Tryd.prog 14 #[v] w fun e w' => e = .returned (.string ⟨(showL l).toArray⟩) ∧ Below w.heap.size w w' := by
  have hst : ShI l 0 m w (w.alloc (.cells #[.pointer none, .slice none 0 0] 49)) := by
    have b : Below w.heap.size w (w.alloc (.cells #[.pointer none, .slice none 0 0] 49)) := (Below.refl _ _).alloc (Nat.le_refl _) _
    exact ⟨b, by simp, hm.below b, Lib.fresh_isBuilder _ _ w⟩
  have HS := Lib.hid hst
  have HM := Lib.hid hm
  have HSZ := Lib.hid (take_size hl hz)
  have HZ := Lib.hid hz
  have hf : ∃ a cap, v = .slice a l.length cap ∧ (l.length = 0 ∨ ∃ g off, a = some ⟨g, off, none⟩ ∧ l.length ≤ cap ∧ ∀ k (hk : k < l.length), w.cell? ⟨g, off + k * 3, none⟩ = some (.int .i64 l[k].1) ∧ w.cell? ⟨g, off + k * 3 + 1, none⟩ = some (.string l[k].2.1) ∧ w.cell? ⟨g, off + k * 3 + 2, none⟩ = some (.int .i64 l[k].2.2)) := by
    rcases h with ⟨A, cap, rfl, rfl⟩ | ⟨g, off, cap, rfl, hc, hx⟩
    · exact ⟨_, _, rfl, .inl rfl⟩
    · exact ⟨_, _, rfl, .inr ⟨g, off, rfl, hc, fun k hk => hx k l[k] (List.getElem?_eq_getElem hk)⟩⟩
  obtain ⟨a, cap, rfl, hx⟩ := hf
  have HX := Lib.hid hx
  clear hst hz h hm hx
  go_enter Tryd.func14, Tryd.ntmps14
  go_wp2
  go_loopw [8] (fun i wr => ∃ k : Nat, k ≤ l.length ∧ i = .int .i64 k ∧ ShI l k m w wr) (fun i _ => l.length - (intOf i).toNat)
  case atStart => exact ⟨0, Nat.zero_le _, rfl, HS.out⟩
  case round =>
    obtain ⟨k, hk, rfl, hI⟩ := hrel
    clear HS
    have HI := Lib.hid hI
    by_cases hlt : k < l.length
    · rcases HX.out with h0 | ⟨g, off, rfl, hcap, hx⟩
      · omega
      · obtain ⟨x1, x2, x3⟩ := hx k hlt
        have hsh := shown_any l[k]
        have hzk := HZ.out l[k] (List.getElem_mem hlt)
        have HT := Lib.hid (take_showL hlt)
        have hg : g < w.heap.size := World.block_lt_of_cell? w _ x1
        rw [← hI.bel.cell (p := ⟨g, off + k * 3, none⟩) hg] at x1
        rw [← hI.bel.cell (p := ⟨g, off + k * 3 + 1, none⟩) hg] at x2
        rw [← hI.bel.cell (p := ⟨g, off + k * 3 + 2, none⟩) hg] at x3
        clear hx hI hg
        generalize hT : l[k] = t at *
        clear hT
        obtain ⟨kd, tx, ta⟩ := t
        have hsh2 : ∀ w1, Wd m w1 → Calls Tryd.prog 23 #[.agg #[.int .i64 kd, .string tx, .int .i64 ta]] w1 fun e w' => e = .returned (.string ⟨(shownL (kd, tx, ta)).toArray⟩) ∧ Below w1.heap.size w1 w' := fun w1 h1 => hsh m w1 (by simp only at hzk ⊢; omega) h1
        have HSH := Lib.hid hsh2
        have hz2 := shown_size (kd, tx, ta)
        have HZ2 := Lib.hid (show (shownL (kd, tx, ta)).length ≤ 140000 by simp only at hzk hz2; omega)
        clear hsh hsh2 hzk hz2
        simp only at x1 x2 x3
        have hbt : Below wr.heap.size wr (wr.alloc (.cells #[.int .i64 kd, .string tx, .int .i64 ta] 30)) := (Below.refl _ _).alloc (Nat.le_refl _) _
        have HI1 := Lib.hid (HI.out.step hbt)
        have HB1 := Lib.hid (block_tok wr kd tx ta)
        clear hbt
        by_cases h0 : k = 0
        · subst h0
          have ht : showL (l.take 1) = showL (l.take 0) ++ shownL (kd, tx, ta) := by have := HT.out; rw [if_pos rfl, List.append_nil] at this; exact this
          have HT0 := Lib.hid ht
          simp only [Nat.zero_mul, Nat.add_zero] at x1 x2 x3
          have hws : ∀ w1, IsB w.heap.size w.heap.size (showL (l.take 0)) w1 → w.heap.size < w1.heap.size → Calls Tryd.prog 22 #[.pointer (some ⟨w.heap.size, 0, none⟩), .string ⟨(shownL (kd, tx, ta)).toArray⟩] w1 fun e w' => e = .returned (.tuple #[.int .i64 (⟨(shownL (kd, tx, ta)).toArray⟩ : ByteArray).size, .nilIface]) ∧ (AtB w.heap.size w.heap.size (showL (l.take 0) ++ shownL (kd, tx, ta)) w' ∧ Below w.heap.size w1 w' ∧ Lib.OthersKept 5 (some w.heap.size) w1 w') := by
            intro w1 h1 h2
            refine wstr_any w.heap.size w.heap.size _ ⟨(shownL (kd, tx, ta)).toArray⟩ w1 h1 ?_ (Nat.le_of_lt h2)
            have e1 := HSZ.out 0
            have e2 := HZ2.out
            show (showL (l.take 0)).length + (shownL (kd, tx, ta)).toArray.size ≤ _
            rw [List.size_toArray]
            try rw [List.length_append, List.length_singleton]
            omega
          have HWS := Lib.hid hws
          clear hws
          clear HT ht
          go_wp2_with (first
            | (go_at_call 23; (with_reducible refine (HSH.out _ HI1.out.wd).mono ?_); rintro e w3 ⟨rfl, hb3⟩; have hx3 := cells_tok ((hb3.block _ (Array.getElem?_eq_some_iff.1 HB1.out).1).trans HB1.out); have HI3 := Lib.hid (HI1.out.step hb3); clear hb3)
            | (go_at_call 22; (with_reducible refine (HWS.out _ HI3.out.bld HI3.out.lt).mono ?_); rintro e w4 ⟨rfl, hA, hb4, hk4⟩; have HA4 := Lib.hid hA; have HB4 := Lib.hid hb4; clear hA hb4 hk4))
          go_roundw
          case measure => simp [intOf]; omega
          case rel =>
            have hbl := HI3.out.bel.trans HB4.out
            exact ⟨1, by omega, rfl, ⟨hbl, Nat.lt_of_lt_of_le HI3.out.lt HB4.out.size, HM.out.below hbl, .inr (by rw [HT0.out]; exact HA4.out)⟩⟩
        · have ht : showL (l.take (k + 1)) = showL (l.take k) ++ [32] ++ shownL (kd, tx, ta) := by have := HT.out; rw [if_neg h0] at this; exact this
          have HT0 := Lib.hid ht
          have hpos : (0 : Int) < (k : Int) := by omega
          have hws : ∀ w1, IsB w.heap.size w.heap.size (showL (l.take k) ++ [32]) w1 → w.heap.size < w1.heap.size → Calls Tryd.prog 22 #[.pointer (some ⟨w.heap.size, 0, none⟩), .string ⟨(shownL (kd, tx, ta)).toArray⟩] w1 fun e w' => e = .returned (.tuple #[.int .i64 (⟨(shownL (kd, tx, ta)).toArray⟩ : ByteArray).size, .nilIface]) ∧ (AtB w.heap.size w.heap.size (showL (l.take k) ++ [32] ++ shownL (kd, tx, ta)) w' ∧ Below w.heap.size w1 w' ∧ Lib.OthersKept 5 (some w.heap.size) w1 w') := by
            intro w1 h1 h2
            refine wstr_any w.heap.size w.heap.size _ ⟨(shownL (kd, tx, ta)).toArray⟩ w1 h1 ?_ (Nat.le_of_lt h2)
            have e1 := HSZ.out k
            have e2 := HZ2.out
            show (showL (l.take k) ++ [32]).length + (shownL (kd, tx, ta)).toArray.size ≤ _
            rw [List.size_toArray]
            try rw [List.length_append, List.length_singleton]
            omega
          have HWS := Lib.hid hws
          clear hws
          have hwb : ∀ w1, IsB w.heap.size w.heap.size (showL (l.take k)) w1 → w.heap.size < w1.heap.size → Calls Tryd.prog 21 #[.pointer (some ⟨w.heap.size, 0, none⟩), .int .u8 32] w1 fun e w' => e = .returned .nilIface ∧ (AtB w.heap.size w.heap.size (showL (l.take k) ++ [32]) w' ∧ Below w.heap.size w1 w' ∧ Lib.OthersKept 5 (some w.heap.size) w1 w') := by
            intro w1 h1 h2
            have e1 := HSZ.out k
            exact wbyte_any w.heap.size w.heap.size _ 32 w1 h1 (by omega) (Nat.le_of_lt h2)
          have HWB := Lib.hid hwb
          clear hwb
          clear HT ht h0
          go_wp2_with (first
            | (go_at_call 21; (with_reducible refine (HWB.out _ HI1.out.bld HI1.out.lt).mono ?_); rintro e w2 ⟨rfl, hA, hb2, hk2⟩; have hb2t := kept_cell hk2 HB1.out (by have := HI.out.lt; omega) (by intro c fz hc; injection hc with _ h2 _; exact absurd h2 (by decide)); have hx2 := cells_tok hb2t; have HB2T := Lib.hid hb2t; have HI2 := Lib.hid (show IsB w.heap.size w.heap.size (showL (l.take k) ++ [32]) w2 from .inr hA); have HB2 := Lib.hid (HI1.out.bel.trans hb2); have HL2 := Lib.hid (Nat.lt_of_lt_of_le HI1.out.lt hb2.size); clear hA hb2 hk2 hb2t)
            | (go_at_call 23; (with_reducible refine (HSH.out _ (HM.out.below HB2.out)).mono ?_); rintro e w3 ⟨rfl, hb3⟩; have HI3 := Lib.hid (HI2.out.below hb3); have HB3 := Lib.hid (HB2.out.trans (hb3.mono (Nat.le_of_lt HL2.out))); have HL3 := Lib.hid (Nat.lt_of_lt_of_le HL2.out hb3.size); clear hb3)
            | (go_at_call 22; (with_reducible refine (HWS.out _ HI3.out HL3.out).mono ?_); rintro e w4 ⟨rfl, hA, hb4, hk4⟩; have HA4 := Lib.hid hA; have HB4 := Lib.hid hb4; clear hA hb4 hk4))
          go_roundw
          case measure => simp [intOf]; omega
          case rel =>
            have hbl := HB3.out.trans HB4.out
            exact ⟨k + 1, by omega, by go_num, ⟨hbl, Nat.lt_of_lt_of_le HL3.out HB4.out.size, HM.out.below hbl, .inr (by rw [HT0.out]; exact HA4.out)⟩⟩
    · have hkl : k = l.length := by omega
      subst hkl
      have hsb := HI.out.bld
      rw [List.take_length] at hsb
      have HSB := Lib.hid hsb
      clear hsb
      go_wp2_with (go_at_call 24; (with_reducible refine (Tryd.Builder_String_any w.heap.size w.heap.size _ _ HSB.out (Nat.le_of_lt HI.out.lt)).mono ?_); rintro e w5 ⟨rfl, hb5⟩)
      go_ret
      exact ⟨rfl, HI.out.bel.trans hb5⟩
end Go.Proofs.YtlmgggipkdmdfaaDoor
