/- What the document's own Tokens at layer 5 answers. Conditions: how many tokens, how long their texts. -/
import Derived.Test.YtgnpkpboilnijaaGreatDoorG20
import Derived.Test.YtgnpkpboilnijaaGreatDoorG17
set_option linter.unusedSimpArgs false
set_option linter.unusedVariables false
namespace Go.Proofs.YtgnpkpboilnijaaGreatDoor
open Go.ChangeShapes Go.WideShapes Go.ChangeAt Go.RowKit
set_option maxRecDepth 100000
set_option linter.unusedVariables false
set_option linter.unusedSimpArgs false

theorem norm_not (t : Tok) (h : t.1 ≠ 4) : normT t = t := if_neg h
theorem norm_none (kd ta : Int) (tx : ByteArray) (h : tx.size = 0) : normT (kd, tx, ta) = (kd, tx, ta) := by
  have hx : tx = ⟨#[]⟩ := by
    apply ByteArray.ext
    exact Array.eq_empty_of_size_eq_zero h
  subst hx
  unfold normT
  split
  · rename_i h4
    cases h4
    rfl
  · rfl
set_option maxHeartbeats 4000000 in
theorem rtokens_any (v : Value) (l : List Tok) (w : World) (hl : l.length ≤ 65536) (hz : ∀ t ∈ l, t.2.1.size ≤ 65536) (h : TR w v l) :
    Calls Tryz.prog 12 #[v] w fun e w' => e = .returned (.string (bb (showL (tokensL l)))) ∧ Below w.heap.size w w' := by
  obtain ⟨i30, hi30, hz30, hs30, hb30⟩ := i30_parts
  obtain ⟨a, cap, rfl, hx⟩ := tr_cells h
  obtain ⟨R, hR⟩ : ∃ R, unN l l.length = R := ⟨_, rfl⟩
  have hres : tokensL l = (l.take R).map normT := by unfold tokensL; rw [hR]
  rw [hres]
  have hRl : R ≤ l.length := by rw [← hR]; exact unN_le _ _
  have hsh := fun v' w1 (h1 : TR w1 v' ((l.take R).map normT)) => rshow_any v' ((l.take R).map normT) w1 (by rw [List.length_map, List.length_take]; omega) (fun t ht => by
    obtain ⟨u, hu, rfl⟩ := List.mem_map.1 ht
    exact Nat.le_trans (norm_size u) (hz u (List.mem_of_mem_take hu))) h1
  obtain ⟨X, hX⟩ : ∃ X, bb (showL ((l.take R).map normT)) = X := ⟨_, rfl⟩
  rw [hX] at hsh ⊢
  clear hX
  have HSH := Lib.hid hsh
  have HR := Lib.hid hR
  have HRL := Lib.hid hRl
  have HX := Lib.hid hx
  have HZ := Lib.hid hz
  clear hR hx h hsh hres hRl hz
  go_enter Tryz.func12, Tryz.ntmps12
  go_wp2
  go_loop [3] (fun u0 => ∃ n : Nat, n ≤ l.length ∧ u0 = .int .i64 (n : Int) ∧ unN l n = R) (fun u0 => (intOf u0).toNat)
  case atStart => exact ⟨l.length, Nat.le_refl _, rfl, HR.out⟩
  case round =>
    obtain ⟨n, hn, rfl, hv⟩ := hrel
    clear HR
    cases n with
    | zero =>
      have hRn : 0 = R := hv
      clear hv
      have hn0 : ¬ ((0 : Int) < ((0 : Nat) : Int)) := by omega
      clear hn
      subst hRn
      go_wp2
      go_loopg [4, 5] 0 (fun g u4 u5 wx => ∃ k : Nat, u5 = .int .i64 (k : Int) ∧ k + g = 0 ∧ RsI w ((l.take k).map normT) u4 wx)
      case atStart => exact ⟨0, rfl, by omega, by rw [List.take_zero]; exact ⟨Below.refl _ _, World.ownsRow_nil _ _ _ _⟩⟩
      case round =>
        obtain ⟨k, rfl, hkg, hI⟩ := hrel
        have HI := Lib.hid hI
        have hRL := HRL.out
        cases gk with
        | zero =>
          have hkl : ¬ ((k : Int) < ((0 : Nat) : Int)) := by omega
          have hkq : k = 0 := by omega
          rw [hkq] at hI
          have HTR := Lib.hid (TR.own hI.row)
          have HBE := Lib.hid hI.bel
          clear hI HI hkq
          go_wp2_with (go_at_call 25; (with_reducible refine (HSH.out _ _ HTR.out).mono ?_); rintro e w1 ⟨rfl, hw1⟩; obtain rfl := hw1.symm)
          go_ret
          exact ⟨rfl, HBE.out⟩
        | succ g =>
          omega
    | succ n =>
      rcases HX.out with h0 | ⟨gb, off, rfl, hcap, hx⟩
      · omega
      · obtain ⟨x1, x2, x3⟩ := hx n (by omega)
        rw [unN_step l n (by omega)] at hv
        obtain ⟨b, hb⟩ : ∃ b, n + 1 = b := ⟨_, rfl⟩
        rw [hb] at hv hn
        have HB := Lib.hid hb
        have cw : IntKind.i64.wrap ((b : Int) - 1) = (n : Int) := by rw [show (b : Int) - 1 = (n : Int) by omega]; exact IntWalk.i64_in _ (by omega)
        have l1 : (0 : Int) < (b : Int) := by omega
        have l2 : (n : Int) < (l.length : Int) := by omega
        have l3 : (0 : Int) ≤ (n : Int) := by omega
        rw [hb]
        clear hx x3
        have hnl : n < l.length := by omega
        have hsem : isSemi l[n] = (l[n].1 == 5 && l[n].2.1.toList == [59]) := rfl
        generalize l[n].1 = kd at *
        generalize l[n].2.1 = tx at *
        rw [hsem] at hv
        clear hsem
        by_cases h5 : kd = 5
        · subst h5
          cases h6 : (tx.toList == [59]) with
          | true =>
            rw [h6, if_pos (by rfl)] at hv
            have HV := Lib.hid hv
            clear hv hb
            go_wp2
            go_round
            case rel => exact ⟨n, by omega, rfl, HV.out⟩
            case measure => have := HB.out; show n < b; omega
          | false =>
            rw [h6, if_neg (by simp)] at hv
            have hRn : b = R := by omega
            clear hv hb
            clear hn
            subst hRn
            go_wp2
            go_loopg [4, 5] b (fun g u4 u5 wx => ∃ k : Nat, u5 = .int .i64 (k : Int) ∧ k + g = b ∧ RsI w ((l.take k).map normT) u4 wx)
            case atStart => exact ⟨0, rfl, by omega, by rw [List.take_zero]; exact ⟨Below.refl _ _, World.ownsRow_nil _ _ _ _⟩⟩
            case round =>
              obtain ⟨k, rfl, hkg, hI⟩ := hrel
              have HI := Lib.hid hI
              have hRL := HRL.out
              cases gk with
              | zero =>
                have hkl : ¬ ((k : Int) < ((b : Nat) : Int)) := by omega
                have hkq : k = b := by omega
                rw [hkq] at hI
                have HTR := Lib.hid (TR.own hI.row)
                have HBE := Lib.hid hI.bel
                clear hI HI hkq
                go_wp2_with (go_at_call 25; (with_reducible refine (HSH.out _ _ HTR.out).mono ?_); rintro e w1 ⟨rfl, hw1⟩; obtain rfl := hw1.symm)
                go_ret
                exact ⟨rfl, HBE.out⟩
              | succ g =>
                have hkl : (k : Int) < ((b : Nat) : Int) := by omega
                have hlt : k < l.length := by omega
                have hlt2 : (k : Int) < (l.length : Int) := by omega
                have hk0 : (0 : Int) ≤ (k : Int) := by omega
                obtain ⟨L, hL⟩ : ∃ L, (l.take k).map normT = L := ⟨_, rfl⟩
                have hLl : L.length = k := by rw [← hL, List.length_map, List.length_take]; omega
                have hnext : (l.take (k + 1)).map normT = L ++ [normT l[k]] := by
                  rw [List.take_add_one, List.getElem?_eq_getElem hlt, List.map_append, hL]; rfl
                rw [hL] at hI
                have hI' := Lib.hid hI
                clear HI hI hL
                have HI := hI'
                rcases HX.out with h0 | ⟨gb, off, hae, hcap, hx⟩
                · omega
                · cases hae
                  obtain ⟨x1, x2, x3⟩ := hx k hlt
                  have hzk := HZ.out l[k] (List.getElem_mem hlt)
                  have hgb : gb < w.heap.size := World.block_lt_of_cell? w _ x1
                  rw [← HI.out.bel.cell (p := ⟨gb, off + k * 3, none⟩) hgb] at x1
                  rw [← HI.out.bel.cell (p := ⟨gb, off + k * 3 + 1, none⟩) hgb] at x2
                  rw [← HI.out.bel.cell (p := ⟨gb, off + k * 3 + 2, none⟩) hgb] at x3
                  clear hx hgb
                  generalize hT : l[k] = t at *
                  clear hT
                  obtain ⟨kd9, tx9, ta9⟩ := t
                  simp only at x1 x2 x3 hzk
                  have HZK := Lib.hid hzk
                  clear hzk
                  have HI2 := Lib.hid (HI.out.step ((Below.refl _ _).alloc (Nat.le_refl _) (.cells #[.int .i64 kd9, .string tx9, .int .i64 ta9] 35)))
                  have HN := Lib.hid hnext
                  clear hnext
                  by_cases h4 : kd9 = 4
                  · by_cases h0 : tx9.size = 0
                    · have HK := Lib.hid (norm_none kd9 ta9 tx9 h0)
                      subst h4
                      have hem : (tx9.toList.isEmpty) = true := by
                        rw [List.isEmpty_iff]; exact List.eq_nil_of_length_eq_zero (by rw [Lib.toList_data]; exact h0)
                      clear h0
                      go_wp2_with (at_builtin; go_must (
                           refine wpList_append_own_wide _ rfl _ _ 22 rfl w.heap.size 35 i30 (.agg #[.int .i64 0, .string ByteArray.empty, .int .i64 0]) 3 32 und23 hi30 hz30 hs30 hb30 rfl (by decide) u4 L.length (tokRow L) rfl ((HI.out.row.alloc _).alloc _) ⟨wr.heap.size + 1, 0, none⟩ 1 1 (tokCells (4, tx9, ta9)) rfl rfl ?c1 ?c2 ?c3 ?c4 ?c5 ?_
                           case c1 => exact tok_cells2 wr _ (4, tx9, ta9)
                           case c2 => exact tok_one _
                           case c3 => unfold maxLen; omega
                           case c4 => omega
                           case c5 => have := HI.out.bel.size; simp; omega
                           intro v9 w9 hown9 hgr9 _))
                      have HI4 := HI.out.step (two_below wr (.cells #[.int .i64 4, .string tx9, .int .i64 ta9] 35) (.cells #[.int .i64 4, .string tx9, .int .i64 ta9] 35))
                      have HI5 := Lib.hid (HI4.more (4, tx9, ta9) hgr9 hown9)
                      clear HI4
                      go_roundg g
                      case measure => omega
                      case rel => exact ⟨k + 1, by go_num, by omega, by rw [HN.out, HK.out]; exact HI5.out⟩
                    · have hnm := fun w => rnumber_any tx9 w (by have := HZK.out; omega) (by omega)
                      obtain ⟨y, hy⟩ : ∃ y, bb (numL tx9.data.toList) = y := ⟨_, rfl⟩
                      rw [hy] at hnm
                      have HK := Lib.hid (show normT (kd9, tx9, ta9) = (4, y, ta9) by unfold normT; rw [if_pos h4, hy])
                      subst h4
                      have hem : (tx9.toList.isEmpty) = false := by
                        rw [Bool.eq_false_iff]
                        intro hh
                        rw [List.isEmpty_iff, Lib.toList_data] at hh
                        exact h0 (show tx9.data.toList.length = 0 by rw [hh]; rfl)
                      have HNM := Lib.hid hnm
                      clear h0 hnm hy
                      go_wp2_with (first
                        | (go_at_call 24; (with_reducible refine (HNM.out _).mono ?_); rintro e w1 ⟨rfl, hw1⟩; obtain rfl := hw1.symm)
                        | (at_builtin; go_must (
                             refine wpList_append_own_wide _ rfl _ _ 22 rfl w.heap.size 35 i30 (.agg #[.int .i64 0, .string ByteArray.empty, .int .i64 0]) 3 32 und23 hi30 hz30 hs30 hb30 rfl (by decide) u4 L.length (tokRow L) rfl ((HI.out.row.alloc _).alloc _) ⟨wr.heap.size + 1, 0, none⟩ 1 1 (tokCells (4, y, ta9)) rfl rfl ?c1 ?c2 ?c3 ?c4 ?c5 ?_
                             case c1 => exact tok_cells2 wr _ (4, y, ta9)
                             case c2 => exact tok_one _
                             case c3 => unfold maxLen; omega
                             case c4 => omega
                             case c5 => have := HI.out.bel.size; simp; omega
                             intro v9 w9 hown9 hgr9 _)))
                      have HI4 := HI.out.step (two_below wr (.cells #[.int .i64 4, .string y, .int .i64 ta9] 35) (.cells #[.int .i64 4, .string y, .int .i64 ta9] 35))
                      have HI5 := Lib.hid (HI4.more (4, y, ta9) hgr9 hown9)
                      clear HI4
                      go_roundg g
                      case measure => omega
                      case rel => exact ⟨k + 1, by go_num, by omega, by rw [HN.out, HK.out]; exact HI5.out⟩
                  · have n4 : (kd9 == (4 : Int)) = false := by rw [beq_eq_false_iff_ne]; exact h4
                    have HK := Lib.hid (norm_not (kd9, tx9, ta9) h4)
                    clear h4
                    go_wp2_with (at_builtin; go_must (
                         refine wpList_append_own_wide _ rfl _ _ 22 rfl w.heap.size 35 i30 (.agg #[.int .i64 0, .string ByteArray.empty, .int .i64 0]) 3 32 und23 hi30 hz30 hs30 hb30 rfl (by decide) u4 L.length (tokRow L) rfl ((HI.out.row.alloc _).alloc _) ⟨wr.heap.size + 1, 0, none⟩ 1 1 (tokCells (kd9, tx9, ta9)) rfl rfl ?c1 ?c2 ?c3 ?c4 ?c5 ?_
                         case c1 => exact tok_cells2 wr _ (kd9, tx9, ta9)
                         case c2 => exact tok_one _
                         case c3 => unfold maxLen; omega
                         case c4 => omega
                         case c5 => have := HI.out.bel.size; simp; omega
                         intro v9 w9 hown9 hgr9 _))
                    have HI4 := HI.out.step (two_below wr (.cells #[.int .i64 kd9, .string tx9, .int .i64 ta9] 35) (.cells #[.int .i64 kd9, .string tx9, .int .i64 ta9] 35))
                    have HI5 := Lib.hid (HI4.more (kd9, tx9, ta9) hgr9 hown9)
                    clear HI4
                    go_roundg g
                    case measure => omega
                    case rel => exact ⟨k + 1, by go_num, by omega, by rw [HN.out, HK.out]; exact HI5.out⟩
        · have n5 : (kd == (5 : Int)) = false := by rw [beq_eq_false_iff_ne]; exact h5
          rw [n5, if_neg (by simp)] at hv
          have hRn : b = R := by omega
          clear hv hb h5
          clear hn
          subst hRn
          go_wp2
          go_loopg [4, 5] b (fun g u4 u5 wx => ∃ k : Nat, u5 = .int .i64 (k : Int) ∧ k + g = b ∧ RsI w ((l.take k).map normT) u4 wx)
          case atStart => exact ⟨0, rfl, by omega, by rw [List.take_zero]; exact ⟨Below.refl _ _, World.ownsRow_nil _ _ _ _⟩⟩
          case round =>
            obtain ⟨k, rfl, hkg, hI⟩ := hrel
            have HI := Lib.hid hI
            have hRL := HRL.out
            cases gk with
            | zero =>
              have hkl : ¬ ((k : Int) < ((b : Nat) : Int)) := by omega
              have hkq : k = b := by omega
              rw [hkq] at hI
              have HTR := Lib.hid (TR.own hI.row)
              have HBE := Lib.hid hI.bel
              clear hI HI hkq
              go_wp2_with (go_at_call 25; (with_reducible refine (HSH.out _ _ HTR.out).mono ?_); rintro e w1 ⟨rfl, hw1⟩; obtain rfl := hw1.symm)
              go_ret
              exact ⟨rfl, HBE.out⟩
            | succ g =>
              have hkl : (k : Int) < ((b : Nat) : Int) := by omega
              have hlt : k < l.length := by omega
              have hlt2 : (k : Int) < (l.length : Int) := by omega
              have hk0 : (0 : Int) ≤ (k : Int) := by omega
              obtain ⟨L, hL⟩ : ∃ L, (l.take k).map normT = L := ⟨_, rfl⟩
              have hLl : L.length = k := by rw [← hL, List.length_map, List.length_take]; omega
              have hnext : (l.take (k + 1)).map normT = L ++ [normT l[k]] := by
                rw [List.take_add_one, List.getElem?_eq_getElem hlt, List.map_append, hL]; rfl
              rw [hL] at hI
              have hI' := Lib.hid hI
              clear HI hI hL
              have HI := hI'
              rcases HX.out with h0 | ⟨gb, off, hae, hcap, hx⟩
              · omega
              · cases hae
                obtain ⟨x1, x2, x3⟩ := hx k hlt
                have hzk := HZ.out l[k] (List.getElem_mem hlt)
                have hgb : gb < w.heap.size := World.block_lt_of_cell? w _ x1
                rw [← HI.out.bel.cell (p := ⟨gb, off + k * 3, none⟩) hgb] at x1
                rw [← HI.out.bel.cell (p := ⟨gb, off + k * 3 + 1, none⟩) hgb] at x2
                rw [← HI.out.bel.cell (p := ⟨gb, off + k * 3 + 2, none⟩) hgb] at x3
                clear hx hgb
                generalize hT : l[k] = t at *
                clear hT
                obtain ⟨kd9, tx9, ta9⟩ := t
                simp only at x1 x2 x3 hzk
                have HZK := Lib.hid hzk
                clear hzk
                have HI2 := Lib.hid (HI.out.step ((Below.refl _ _).alloc (Nat.le_refl _) (.cells #[.int .i64 kd9, .string tx9, .int .i64 ta9] 35)))
                have HN := Lib.hid hnext
                clear hnext
                by_cases h4 : kd9 = 4
                · by_cases h0 : tx9.size = 0
                  · have HK := Lib.hid (norm_none kd9 ta9 tx9 h0)
                    subst h4
                    have hem : (tx9.toList.isEmpty) = true := by
                      rw [List.isEmpty_iff]; exact List.eq_nil_of_length_eq_zero (by rw [Lib.toList_data]; exact h0)
                    clear h0
                    go_wp2_with (at_builtin; go_must (
                         refine wpList_append_own_wide _ rfl _ _ 22 rfl w.heap.size 35 i30 (.agg #[.int .i64 0, .string ByteArray.empty, .int .i64 0]) 3 32 und23 hi30 hz30 hs30 hb30 rfl (by decide) u4 L.length (tokRow L) rfl ((HI.out.row.alloc _).alloc _) ⟨wr.heap.size + 1, 0, none⟩ 1 1 (tokCells (4, tx9, ta9)) rfl rfl ?c1 ?c2 ?c3 ?c4 ?c5 ?_
                         case c1 => exact tok_cells2 wr _ (4, tx9, ta9)
                         case c2 => exact tok_one _
                         case c3 => unfold maxLen; omega
                         case c4 => omega
                         case c5 => have := HI.out.bel.size; simp; omega
                         intro v9 w9 hown9 hgr9 _))
                    have HI4 := HI.out.step (two_below wr (.cells #[.int .i64 4, .string tx9, .int .i64 ta9] 35) (.cells #[.int .i64 4, .string tx9, .int .i64 ta9] 35))
                    have HI5 := Lib.hid (HI4.more (4, tx9, ta9) hgr9 hown9)
                    clear HI4
                    go_roundg g
                    case measure => omega
                    case rel => exact ⟨k + 1, by go_num, by omega, by rw [HN.out, HK.out]; exact HI5.out⟩
                  · have hnm := fun w => rnumber_any tx9 w (by have := HZK.out; omega) (by omega)
                    obtain ⟨y, hy⟩ : ∃ y, bb (numL tx9.data.toList) = y := ⟨_, rfl⟩
                    rw [hy] at hnm
                    have HK := Lib.hid (show normT (kd9, tx9, ta9) = (4, y, ta9) by unfold normT; rw [if_pos h4, hy])
                    subst h4
                    have hem : (tx9.toList.isEmpty) = false := by
                      rw [Bool.eq_false_iff]
                      intro hh
                      rw [List.isEmpty_iff, Lib.toList_data] at hh
                      exact h0 (show tx9.data.toList.length = 0 by rw [hh]; rfl)
                    have HNM := Lib.hid hnm
                    clear h0 hnm hy
                    go_wp2_with (first
                      | (go_at_call 24; (with_reducible refine (HNM.out _).mono ?_); rintro e w1 ⟨rfl, hw1⟩; obtain rfl := hw1.symm)
                      | (at_builtin; go_must (
                           refine wpList_append_own_wide _ rfl _ _ 22 rfl w.heap.size 35 i30 (.agg #[.int .i64 0, .string ByteArray.empty, .int .i64 0]) 3 32 und23 hi30 hz30 hs30 hb30 rfl (by decide) u4 L.length (tokRow L) rfl ((HI.out.row.alloc _).alloc _) ⟨wr.heap.size + 1, 0, none⟩ 1 1 (tokCells (4, y, ta9)) rfl rfl ?c1 ?c2 ?c3 ?c4 ?c5 ?_
                           case c1 => exact tok_cells2 wr _ (4, y, ta9)
                           case c2 => exact tok_one _
                           case c3 => unfold maxLen; omega
                           case c4 => omega
                           case c5 => have := HI.out.bel.size; simp; omega
                           intro v9 w9 hown9 hgr9 _)))
                    have HI4 := HI.out.step (two_below wr (.cells #[.int .i64 4, .string y, .int .i64 ta9] 35) (.cells #[.int .i64 4, .string y, .int .i64 ta9] 35))
                    have HI5 := Lib.hid (HI4.more (4, y, ta9) hgr9 hown9)
                    clear HI4
                    go_roundg g
                    case measure => omega
                    case rel => exact ⟨k + 1, by go_num, by omega, by rw [HN.out, HK.out]; exact HI5.out⟩
                · have n4 : (kd9 == (4 : Int)) = false := by rw [beq_eq_false_iff_ne]; exact h4
                  have HK := Lib.hid (norm_not (kd9, tx9, ta9) h4)
                  clear h4
                  go_wp2_with (at_builtin; go_must (
                       refine wpList_append_own_wide _ rfl _ _ 22 rfl w.heap.size 35 i30 (.agg #[.int .i64 0, .string ByteArray.empty, .int .i64 0]) 3 32 und23 hi30 hz30 hs30 hb30 rfl (by decide) u4 L.length (tokRow L) rfl ((HI.out.row.alloc _).alloc _) ⟨wr.heap.size + 1, 0, none⟩ 1 1 (tokCells (kd9, tx9, ta9)) rfl rfl ?c1 ?c2 ?c3 ?c4 ?c5 ?_
                       case c1 => exact tok_cells2 wr _ (kd9, tx9, ta9)
                       case c2 => exact tok_one _
                       case c3 => unfold maxLen; omega
                       case c4 => omega
                       case c5 => have := HI.out.bel.size; simp; omega
                       intro v9 w9 hown9 hgr9 _))
                  have HI4 := HI.out.step (two_below wr (.cells #[.int .i64 kd9, .string tx9, .int .i64 ta9] 35) (.cells #[.int .i64 kd9, .string tx9, .int .i64 ta9] 35))
                  have HI5 := Lib.hid (HI4.more (kd9, tx9, ta9) hgr9 hown9)
                  clear HI4
                  go_roundg g
                  case measure => omega
                  case rel => exact ⟨k + 1, by go_num, by omega, by rw [HN.out, HK.out]; exact HI5.out⟩
end Go.Proofs.YtgnpkpboilnijaaGreatDoor
