/- What package lexer's Split answers. Conditions: how many tokens, how long their texts. -/
import Derived.Test.YtlmgggipkdmdfaaDoorLxx
namespace Go.Proofs.YtlmgggipkdmdfaaDoor
open Go.ChangeShapes Go.WideShapes Go.ChangeAt Go.RowKit
set_option linter.unusedVariables false
set_option linter.unusedSimpArgs false

/-- v is a slice of lists of tokens that reads as als -/
def LLR (w : World) (v : Value) (als : List (List Tok)) : Prop :=
  (∃ A cap, v = .slice A 0 cap ∧ als = []) ∨
  ∃ h off cap, v = .slice (some ⟨h, off, none⟩) als.length cap ∧ als.length ≤ cap ∧ ∀ (i : Nat) (l : List Tok), als[i]? = some l → ∃ u, w.cell? ⟨h, off + i, none⟩ = some u ∧ TR w u l
theorem LLR.of {w0 w : World} {als : List (List Tok)} {one : List Tok} {va vo : Value} (h : SpI w0 als one va vo w) : LLR w va als := by
  obtain ⟨vs, h1, h2, h3⟩ := h.all
  rcases h2.2 with ⟨rfl, hz⟩ | ⟨g, cap, cur, rfl, hb, hh, hc, hm, hs, ht⟩
  · exact .inl ⟨none, 0, rfl, List.eq_nil_of_length_eq_zero hz⟩
  · refine .inr ⟨g, 0, cap, rfl, hc, fun i l hi => ?_⟩
    have hlt := (List.getElem?_eq_some_iff.1 hi).1
    have hu : vs[i]? = some vs[i] := List.getElem?_eq_getElem (by omega)
    refine ⟨vs[i], ?_, TR.own (h3 i _ l hu hi).1⟩
    have e1 := h2.cells (g := g) rfl i _ hu
    rw [Addr.add_lit, Nat.zero_add] at e1
    rw [Nat.zero_add]; exact e1
theorem LLR.keep {w w' : World} {v : Value} {l : List (List Tok)} (h : LLR w v l) (hk : ∀ p : Addr, (w.cell? p).isSome = true → w'.cell? p = w.cell? p) : LLR w' v l := by
  rcases h with h | ⟨h, off, cap, e, hc, hm⟩
  · exact .inl h
  · refine .inr ⟨h, off, cap, e, hc, fun i t hi => ?_⟩
    obtain ⟨u, a, b⟩ := hm i t hi
    exact ⟨u, (hk _ (by rw [a]; rfl)).trans a, b.keep hk⟩
theorem LLR.below {w w' : World} {v : Value} {l : List (List Tok)} (h : LLR w v l) (hb : Below w.heap.size w w') : LLR w' v l :=
  h.keep fun p hp => by
    obtain ⟨u, hu⟩ := Option.isSome_iff_exists.1 hp
    exact hb.cell (World.block_lt_of_cell? w p hu)
theorem LLR.drewN {w : World} {v : Value} {l : List (List Tok)} (h : LLR w v l) (n : Nat) : LLR (w.drewN n) v l := h.keep fun p _ => by cases p; simp [go_sem]
theorem LLR.form {w : World} {v : Value} {l : List (List Tok)} (h : LLR w v l) : ∃ a cap, v = .slice a l.length cap := by
  rcases h with ⟨A, cap, rfl, rfl⟩ | ⟨_, _, _, rfl, _⟩
  · exact ⟨_, _, rfl⟩
  · exact ⟨_, _, rfl⟩
theorem add_le (als : List (List Tok)) (one : List Tok) : (addL als one).length ≤ als.length + 1 := by unfold addL; split <;> simp
theorem spF_le : ∀ (l : List Tok) (one : List Tok) (als : List (List Tok)), (spF l one als).length ≤ als.length + l.length + 1 := by
  intro l
  induction l with
  | nil => intro one als; exact add_le als one
  | cons t r ih =>
    intro one als
    rw [spF]
    split
    · have := ih [] (addL als one); have := add_le als one; simp only [List.length_cons]; omega
    · have := ih (one ++ [t]) als; simp only [List.length_cons]; omega
theorem tr_cells {w : World} {v : Value} {l : List Tok} (h : TR w v l) : ∃ a cap, v = .slice a l.length cap ∧ (l.length = 0 ∨ ∃ g off, a = some ⟨g, off, none⟩ ∧ l.length ≤ cap ∧ ∀ k (hk : k < l.length), w.cell? ⟨g, off + k * 3, none⟩ = some (.int .i64 l[k].1) ∧ w.cell? ⟨g, off + k * 3 + 1, none⟩ = some (.string l[k].2.1) ∧ w.cell? ⟨g, off + k * 3 + 2, none⟩ = some (.int .i64 l[k].2.2)) := by
  rcases h with ⟨A, cap, rfl, rfl⟩ | ⟨g, off, cap, rfl, hc, hx⟩
  · exact ⟨_, _, rfl, .inl rfl⟩
  · exact ⟨_, _, rfl, .inr ⟨g, off, rfl, hc, fun k hk => hx k l[k] (List.getElem?_eq_getElem hk)⟩⟩
theorem Below.tok2 {w w2 : World} (hb : Below w.heap.size w w2) (tx : ByteArray) (t : Tok) : Below w.heap.size w ((w2.setCell ⟨w.heap.size, 1, none⟩ (.string tx)).alloc (.cells #[.int .i64 t.1, .string t.2.1, .int .i64 t.2.2] 30)) :=
  (hb.setCell (p := ⟨w.heap.size, 1, none⟩) (Nat.le_refl _) _).alloc (by have := hb.size; simpa using this) _
theorem tok_cells1 (w : World) (n : Nat) (t : Tok) (hn : w.heap.size = n) : ∀ (j : Nat) (u : Value), (tokCells t)[j]? = some u → (w.alloc (.cells #[.int .i64 t.1, .string t.2.1, .int .i64 t.2.2] 30)).cell? ((⟨n, 0, none⟩ : Addr).add j) = some u := by
  subst hn; exact tok_cells w t
def SplP (w : World) (R : List (List Tok)) (e : Ending) (w' : World) : Prop := ∃ v, e = .returned v ∧ LLR w' v R ∧ Below w.heap.size w w'
set_option maxHeartbeats 2000000 in
set_option maxRecDepth 100000 in
theorem split_any (v : Value) (l : List Tok) (w : World) (hl : l.length ≤ 65000) (hz : ∀ t ∈ l, t.2.1.size ≤ 65536) (h : TR w v l) (R : List (List Tok)) (hR : R = splitL l) :
    Calls Tryd.prog 12 #[v] w (SplP w R) := by
  obtain ⟨i30, hi30, hz30, hs30, hb30⟩ := i30_parts
  have HS := Lib.hid (SpI.start w)
  have HZ := Lib.hid hz
  have HE := Lib.hid hR
  obtain ⟨a, cap, rfl, hx⟩ := tr_cells h
  have HX := Lib.hid hx
  clear hz h hx hR
  go_enter Tryd.func12, Tryd.ntmps12
  go_wp2
  go_loopg [3, 4, 9] l.length (fun g u3 u4 u9 wx => ∃ (k : Nat) (als : List (List Tok)) (one : List Tok), u9 = .int .i64 (k : Int) ∧ k + g = l.length ∧ SpI w als one u3 u4 wx ∧ als.length ≤ k ∧ one.length ≤ k ∧ R = spF (l.drop k) one als)
  case atStart => exact ⟨0, [], [], rfl, by omega, HS.out, Nat.le_refl _, Nat.le_refl _, HE.out⟩
  case round =>
    obtain ⟨k, als, one, rfl, hkg, hI, hak, hok, hv⟩ := hrel
    clear HS HE
    have HI := Lib.hid hI
    have HV := Lib.hid hv
    clear hv hI
    cases gk with
    | zero =>
      have hkl : k = l.length := by omega
      have hlt : ¬ ((k : Int) < (l.length : Int)) := by omega
      have hw := with_any w als one _ _ wr HI.out (by omega)
      have hR2 : R = addL als one := by rw [HV.out, hkl, List.drop_length]; rfl
      have HW := Lib.hid hw
      have HR2 := Lib.hid hR2
      clear hw hR2 HV hkl
      go_wp2_with (go_at_call 19; (with_reducible refine HW.out.mono ?_); rintro e w2 ⟨v9, rfl, h9⟩)
      go_ret
      exact ⟨v9, rfl, by rw [HR2.out]; exact LLR.of h9, h9.bel⟩
    | succ g =>
      have hlt : k < l.length := by omega
      have hlt2 : (k : Int) < (l.length : Int) := by omega
      rcases HX.out with h0 | ⟨gb, off, rfl, hcap, hx⟩
      · omega
      · obtain ⟨x1, x2, x3⟩ := hx k hlt
        have hzk := HZ.out l[k] (List.getElem_mem hlt)
        have hgb : gb < w.heap.size := World.block_lt_of_cell? w _ x1
        rw [← HI.out.bel.cell (p := ⟨gb, off + k * 3, none⟩) hgb] at x1
        rw [← HI.out.bel.cell (p := ⟨gb, off + k * 3 + 1, none⟩) hgb] at x2
        rw [← HI.out.bel.cell (p := ⟨gb, off + k * 3 + 2, none⟩) hgb] at x3
        have hd : l.drop k = l[k] :: l.drop (k + 1) := List.drop_eq_getElem_cons hlt
        rw [hd, spF] at HV
        clear hx hgb hd
        generalize hT : l[k] = t at *
        clear hT
        obtain ⟨kd, tx, ta⟩ := t
        simp only at x1 x2 x3 hzk
        have HB1 := Lib.hid (block_tok wr kd tx ta)
        have hb1 : Below wr.heap.size wr (wr.alloc (.cells #[.int .i64 kd, .string tx, .int .i64 ta] 30)) := (Below.refl _ _).alloc (Nat.le_refl _) _
        have HBL1 := Lib.hid hb1
        have hlt1 : wr.heap.size < (wr.alloc (.cells #[.int .i64 kd, .string tx, .int .i64 ta] 30)).heap.size := by simp
        have HLT1 := Lib.hid hlt1
        clear hb1 hlt1
        by_cases hs : isSemi (kd, tx, ta) = true
        · rw [if_pos hs] at HV
          have hs2 : kd = 5 ∧ (tx.toList == [59]) = true := by
            unfold isSemi at hs
            simp only [Bool.and_eq_true, beq_iff_eq] at hs
            exact ⟨hs.1, by rw [beq_iff_eq]; exact hs.2⟩
          obtain ⟨rfl, hs3⟩ := hs2
          have hw := with_any w als one _ _ _ (HI.out.step HBL1.out) (by omega)
          have HW := Lib.hid hw
          clear hw hs
          go_wp2_with (go_at_call 19; (with_reducible refine HW.out.mono ?_); rintro e w2 ⟨v9, rfl, h9⟩)
          go_roundg g
          case measure => exact Nat.lt_succ_self _
          case rel => exact ⟨k + 1, addL als one, [], by go_num, by omega, h9, by have := add_le als one; omega, Nat.zero_le _, HV.out⟩
        · rw [if_neg hs] at HV
          have hcl := fun w1 => clone_any tx w1 (by omega)
          have HCL := Lib.hid hcl
          have HZK := Lib.hid hzk
          have hkd : (kd == (5 : Int)) = false ∨ ((kd == (5 : Int)) = true ∧ (tx.toList == [59]) = false) := by
            unfold isSemi at hs
            simp only [Bool.and_eq_true, beq_iff_eq, not_and] at hs
            by_cases h5 : kd = 5
            · right
              exact ⟨by rw [beq_iff_eq]; exact h5, by rw [beq_eq_false_iff_ne]; exact hs h5⟩
            · left
              rw [beq_eq_false_iff_ne]; exact h5
          clear hs hcl hzk
          rcases hkd with h5 | ⟨h5, h6⟩
          all_goals
            go_wp2_with (first
              | (go_at_call 20; (with_reducible refine (HCL.out _).mono ?_); rintro e w2 ⟨rfl, hb2⟩; have hblk := (hb2.block _ HLT1.out).trans HB1.out; have hx2 := cells_tok hblk; have hfr := Lib.frozen_of_heap hblk 1; have HB2 := Lib.hid (HBL1.out.trans (hb2.mono (Nat.le_of_lt HLT1.out))); have HL2 := Lib.hid (Nat.lt_of_lt_of_le HLT1.out hb2.size); clear hb2 hblk)
              | (at_builtin; go_must (
                 refine wpList_append_lies _ rfl _ _ 23 rfl w.heap.size 30 i30 (.agg #[.int .i64 0, .string ByteArray.empty, .int .i64 0]) 3 32 und23 hi30 hz30 hs30 hb30 rfl (by decide) u4 one.length (tokRow one) rfl (SpI.one (HI.out.step (Below.tok2 HB2.out tx (kd, tx, ta)))) ⟨w2.heap.size, 0, none⟩ 1 1 (tokCells (kd, tx, ta)) rfl rfl ?c1 ?c2 (by decide) ?c3 ?c4 ?c5 (w2.heap.size + 1) ?c6 ?_
                 case c1 => exact tok_cells1 _ _ (kd, tx, ta) (by simp)
                 case c2 => exact tok_one _
                 case c3 => unfold maxLen; omega
                 case c4 => omega
                 case c5 => have := HI.out.bel.size; have := HL2.out; simp; omega
                 case c6 => simp
                 intro g9 cap9 w9 hown9 hgr9 hat9 hlt9)))
            go_roundg g
            case measure => exact Nat.lt_succ_self _
            case rel => exact ⟨k + 1, als, one ++ [(kd, tx, ta)], by go_num, by omega, SpI.token (HI.out.step (Below.tok2 HB2.out tx (kd, tx, ta))) (kd, tx, ta) g9 cap9 (w2.heap.size + 1) hown9 hgr9 hat9 (by simp), by omega, by rw [List.length_append, List.length_singleton]; omega, HV.out⟩
end Go.Proofs.YtlmgggipkdmdfaaDoor
