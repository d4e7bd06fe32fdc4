/- What the document's own Split at layer 4 answers. Conditions: how many tokens. -/
import Derived.Test.YtlmgggipkdmdfaaDoorLxy
namespace Go.Proofs.YtlmgggipkdmdfaaDoor
open Go.ChangeShapes Go.WideShapes Go.ChangeAt Go.RowKit
set_option linter.unusedVariables false
set_option linter.unusedSimpArgs false

theorem SpI.reset {w0 w : World} {als : List (List Tok)} {va vo : Value} (h : SpI w0 als [] va vo w) : SpI w0 als [] va (.slice none 0 0) w := by
  obtain ⟨vs, h1, h2, h3⟩ := h.all
  refine ⟨h.bel, ⟨vs, h1, h2, fun i u l hu hl => ⟨(h3 i u l hu hl).1, ?_⟩⟩, World.ownsRow_nil _ _ _ _⟩
  cases e : u.ownBlock with
  | none => exact .inl rfl
  | some g => right; simp [Value.ownBlock]
theorem two_alloc (w : World) (n : Nat) (vo : Value) (hn : w.heap.size = n) : ∀ (j : Nat) (u : Value), [vo][j]? = some u → (w.alloc (.cells #[vo] 23)).cell? ((⟨n, 0, none⟩ : Addr).add j) = some u := by
  subst hn
  intro j u hj
  match j, hj with
  | 0, hj => simp at hj; subst hj; simp [Addr.add]
set_option maxHeartbeats 2000000 in
set_option maxRecDepth 100000 in
theorem rsplit_any (v : Value) (l : List Tok) (w : World) (hl : l.length ≤ 65000) (h : TR w v l) (R : List (List Tok)) (hR : R = splitL l) :
    Calls Tryd.prog 13 #[v] w (SplP w R) := by
  obtain ⟨i30, hi30, hz30, hs30, hb30⟩ := i30_parts
  obtain ⟨i23, hi23, hz23, hs23, hb23⟩ := info_parts info23
  have HS := Lib.hid (SpI.start w)
  have HE := Lib.hid hR
  obtain ⟨a, cap, rfl, hx⟩ := tr_cells h
  have HX := Lib.hid hx
  clear h hx hR
  go_enter Tryd.func13, Tryd.ntmps13
  go_wp2
  go_loopg [3, 4, 5] (l.length + 1) (fun g u3 u4 u5 wx => ∃ (k : Nat) (als : List (List Tok)) (one : List Tok), u5 = .int .i64 (k : Int) ∧ k + g = l.length + 1 ∧ SpI w als one u3 u4 wx ∧ als.length ≤ k ∧ one.length ≤ k ∧
    ((k ≤ l.length ∧ R = spF (l.drop k) one als) ∨ (l.length < k ∧ R = als)))
  case atStart => exact ⟨0, [], [], rfl, by omega, HS.out, Nat.le_refl _, Nat.le_refl _, .inl ⟨Nat.zero_le _, HE.out⟩⟩
  case round =>
    obtain ⟨k, als, one, rfl, hkg, hI, hak, hok, hv⟩ := hrel
    clear HS HE
    obtain ⟨ao, co, hvo⟩ := hI.forms.2
    have HI := Lib.hid hI
    cases gk with
    | zero =>
      have hkl : ¬ ((k : Int) ≤ (l.length : Int)) := by omega
      have hR2 : R = als := by
        rcases hv with ⟨e, _⟩ | ⟨_, e⟩
        · omega
        · exact e
      have HR2 := Lib.hid hR2
      clear hv hR2 hI
      go_wp2
      go_ret
      exact ⟨_, rfl, by rw [HR2.out]; exact LLR.of HI.out, HI.out.bel⟩
    | succ g =>
      have hle : (k : Int) ≤ (l.length : Int) := by omega
      have hv2 : R = spF (l.drop k) one als := by
        rcases hv with ⟨_, e⟩ | ⟨e, _⟩
        · exact e
        · omega
      clear hv hI
      have key : ∀ (c : Bool), True := fun _ => trivial
      by_cases hlt : k < l.length
      · have hlt2 : (k : Int) < (l.length : Int) := by omega
        rcases HX.out with h0 | ⟨gb, off, rfl, hcap, hx⟩
        · omega
        · obtain ⟨x1, x2, x3⟩ := hx k hlt
          have hgb : gb < w.heap.size := World.block_lt_of_cell? w _ x1
          rw [← HI.out.bel.cell (p := ⟨gb, off + k * 3, none⟩) hgb] at x1
          rw [← HI.out.bel.cell (p := ⟨gb, off + k * 3 + 1, none⟩) hgb] at x2
          rw [← HI.out.bel.cell (p := ⟨gb, off + k * 3 + 2, none⟩) hgb] at x3
          have hd : l.drop k = l[k] :: l.drop (k + 1) := List.drop_eq_getElem_cons hlt
          rw [hd, spF] at hv2
          clear hx hgb hd
          generalize hT : l[k] = t at *
          clear hT
          obtain ⟨kd, tx, ta⟩ := t
          simp only at x1 x2 x3
          by_cases hs : isSemi (kd, tx, ta) = true
          · rw [if_pos hs] at hv2
            have HV := Lib.hid hv2
            have hs2 : kd = 5 ∧ (tx.toList == [59]) = true := by
              unfold isSemi at hs
              simp only [Bool.and_eq_true, beq_iff_eq] at hs
              exact ⟨hs.1, by rw [beq_iff_eq]; exact hs.2⟩
            obtain ⟨rfl, hs3⟩ := hs2
            clear hs hv2
            subst hvo
            by_cases h0 : one = []
            · subst h0
              have hn : ¬ ((0 : Int) < (([] : List Tok).length : Int)) := by simp
              go_wp2
              go_roundg g
              case measure => exact Nat.lt_succ_self _
              case rel => exact ⟨k + 1, als, [], by go_num, by omega, SpI.reset HI.out, by omega, Nat.zero_le _, .inl ⟨by omega, HV.out⟩⟩
            · have hn : (0 : Int) < (one.length : Int) := by
                have : one.length ≠ 0 := fun e => h0 (List.eq_nil_of_length_eq_zero e)
                omega
              have e0 : addL als one = als ++ [one] := if_neg h0
              rw [e0] at HV
              have hI1 := HI.out.step ((Below.refl _ _).alloc (Nat.le_refl _) (.cells #[.slice ao one.length co] 23))
              have HI1 := Lib.hid hI1
              obtain ⟨vs, k1, k2, k3⟩ := hI1.all
              have HA := Lib.hid k2
              have HA1 := Lib.hid k1
              have HA3 := Lib.hid k3
              clear h0 hI1 k1 k2 k3 e0
              go_wp2_with (at_builtin; go_must (
                 refine wpList_append_lies _ rfl _ _ 31 rfl w.heap.size 23 i23 (.slice none 0 0) 1 24 und31 hi23 hz23 hs23 hb23 rfl (by decide) _ als.length vs rfl HA.out ⟨wr.heap.size, 0, none⟩ 1 1 [.slice ao one.length co] rfl rfl ?c1 ?c2 (by decide) ?c3 ?c4 ?c5 _ rfl ?_
                 case c1 => exact two_alloc _ _ _ rfl
                 case c2 => intro u hu; simp at hu; subst hu; rfl
                 case c3 => unfold maxLen; omega
                 case c4 => omega
                 case c5 => exact HI1.out.bel.size
                 intro g9 cap9 w9 hown9 hgr9 hat9 hlt9))
              go_roundg g
              case measure => exact Nat.lt_succ_self _
              case rel => exact ⟨k + 1, als ++ [one], [], by go_num, by omega, SpI.list HI1.out vs HA1.out HA.out HA3.out hown9 hgr9, by rw [List.length_append, List.length_singleton]; omega, Nat.zero_le _, .inl ⟨by omega, HV.out⟩⟩
          · rw [if_neg hs] at hv2
            have HV := Lib.hid hv2
            clear hv2
            have hkd : (kd != (5 : Int)) = true ∨ (kd = 5 ∧ (tx.toList == [59]) = false) := by
              unfold isSemi at hs
              simp only [Bool.and_eq_true, beq_iff_eq, not_and] at hs
              by_cases h5 : kd = 5
              · right
                exact ⟨h5, by rw [beq_eq_false_iff_ne]; exact hs h5⟩
              · left
                rw [bne_iff_ne]; exact h5
            clear hs hvo
            rcases hkd with h5 | ⟨rfl, h6⟩
            · go_wp2_with (at_builtin; go_must (
                 refine wpList_append_lies _ rfl _ _ 23 rfl w.heap.size 30 i30 (.agg #[.int .i64 0, .string ByteArray.empty, .int .i64 0]) 3 32 und23 hi30 hz30 hs30 hb30 rfl (by decide) u4 one.length (tokRow one) rfl (SpI.one (HI.out.step ((Below.refl _ _).alloc (Nat.le_refl _) _))) ⟨wr.heap.size, 0, none⟩ 1 1 (tokCells (kd, tx, ta)) rfl rfl ?c1 ?c2 (by decide) ?c3 ?c4 ?c5 (wr.heap.size + 1) ?c6 ?_
                 case c1 => exact tok_cells1 _ _ (kd, tx, ta) rfl
                 case c2 => exact tok_one _
                 case c3 => unfold maxLen; omega
                 case c4 => omega
                 case c5 => have := HI.out.bel.size; simp; omega
                 case c6 => simp
                 intro g9 cap9 w9 hown9 hgr9 hat9 hlt9))
              go_roundg g
              case measure => exact Nat.lt_succ_self _
              case rel => exact ⟨k + 1, als, one ++ [(kd, tx, ta)], by go_num, by omega, SpI.token (HI.out.step ((Below.refl _ _).alloc (Nat.le_refl _) _)) (kd, tx, ta) g9 cap9 (wr.heap.size + 1) hown9 hgr9 hat9 (by simp), by omega, by rw [List.length_append, List.length_singleton]; omega, .inl ⟨by omega, HV.out⟩⟩
            · go_wp2_with (at_builtin; go_must (
                 refine wpList_append_lies _ rfl _ _ 23 rfl w.heap.size 30 i30 (.agg #[.int .i64 0, .string ByteArray.empty, .int .i64 0]) 3 32 und23 hi30 hz30 hs30 hb30 rfl (by decide) u4 one.length (tokRow one) rfl (SpI.one (HI.out.step ((Below.refl _ _).alloc (Nat.le_refl _) _))) ⟨wr.heap.size, 0, none⟩ 1 1 (tokCells (5, tx, ta)) rfl rfl ?c1 ?c2 (by decide) ?c3 ?c4 ?c5 (wr.heap.size + 1) ?c6 ?_
                 case c1 => exact tok_cells1 _ _ (5, tx, ta) rfl
                 case c2 => exact tok_one _
                 case c3 => unfold maxLen; omega
                 case c4 => omega
                 case c5 => have := HI.out.bel.size; simp; omega
                 case c6 => simp
                 intro g9 cap9 w9 hown9 hgr9 hat9 hlt9))
              go_roundg g
              case measure => exact Nat.lt_succ_self _
              case rel => exact ⟨k + 1, als, one ++ [(5, tx, ta)], by go_num, by omega, SpI.token (HI.out.step ((Below.refl _ _).alloc (Nat.le_refl _) _)) (5, tx, ta) g9 cap9 (wr.heap.size + 1) hown9 hgr9 hat9 (by simp), by omega, by rw [List.length_append, List.length_singleton]; omega, .inl ⟨by omega, HV.out⟩⟩
      · have hlt2 : ¬ ((k : Int) < (l.length : Int)) := by omega
        have hd : l.drop k = [] := List.drop_eq_nil_of_le (by omega)
        rw [hd, spF] at hv2
        have HV := Lib.hid hv2
        clear hv2 hd
        subst hvo
        by_cases h0 : one = []
        · subst h0
          have hn : ¬ ((0 : Int) < (([] : List Tok).length : Int)) := by simp
          go_wp2
          go_roundg g
          case measure => exact Nat.lt_succ_self _
          case rel => exact ⟨k + 1, als, [], by go_num, by omega, SpI.reset HI.out, by omega, Nat.zero_le _, .inr ⟨by omega, HV.out⟩⟩
        · have hn : (0 : Int) < (one.length : Int) := by
            have : one.length ≠ 0 := fun e => h0 (List.eq_nil_of_length_eq_zero e)
            omega
          have e0 : addL als one = als ++ [one] := if_neg h0
          rw [e0] at HV
          have hI1 := HI.out.step ((Below.refl _ _).alloc (Nat.le_refl _) (.cells #[.slice ao one.length co] 23))
          have HI1 := Lib.hid hI1
          obtain ⟨vs, k1, k2, k3⟩ := hI1.all
          have HA := Lib.hid k2
          have HA1 := Lib.hid k1
          have HA3 := Lib.hid k3
          clear h0 hI1 k1 k2 k3 e0
          go_wp2_with (at_builtin; go_must (
             refine wpList_append_lies _ rfl _ _ 31 rfl w.heap.size 23 i23 (.slice none 0 0) 1 24 und31 hi23 hz23 hs23 hb23 rfl (by decide) _ als.length vs rfl HA.out ⟨wr.heap.size, 0, none⟩ 1 1 [.slice ao one.length co] rfl rfl ?c1 ?c2 (by decide) ?c3 ?c4 ?c5 _ rfl ?_
             case c1 => exact two_alloc _ _ _ rfl
             case c2 => intro u hu; simp at hu; subst hu; rfl
             case c3 => unfold maxLen; omega
             case c4 => omega
             case c5 => exact HI1.out.bel.size
             intro g9 cap9 w9 hown9 hgr9 hat9 hlt9))
          go_roundg g
          case measure => exact Nat.lt_succ_self _
          case rel => exact ⟨k + 1, als ++ [one], [], by go_num, by omega, SpI.list HI1.out vs HA1.out HA.out HA3.out hown9 hgr9, by rw [List.length_append, List.length_singleton]; omega, Nat.zero_le _, .inr ⟨by omega, HV.out⟩⟩
end Go.Proofs.YtlmgggipkdmdfaaDoor
