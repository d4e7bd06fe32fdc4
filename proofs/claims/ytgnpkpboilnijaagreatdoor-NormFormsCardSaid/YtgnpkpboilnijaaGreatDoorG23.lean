/- What the document's own Fill at layer 5 answers. Conditions: how many tokens, how long their texts. -/
import Derived.Test.YtgnpkpboilnijaaGreatDoorG22
set_option linter.unusedSimpArgs false
set_option linter.unusedVariables false
namespace Go.Proofs.YtgnpkpboilnijaaGreatDoor
open Go.ChangeShapes Go.WideShapes Go.ChangeAt Go.RowKit
set_option maxRecDepth 100000
set_option linter.unusedVariables false
set_option linter.unusedSimpArgs false

/-- a slice of one-cell things reads as a list -/
def CR (w : World) (v : Value) (xs : List Value) : Prop :=
  (∃ a cap, v = .slice a 0 cap ∧ xs = []) ∨ ∃ g off cap, v = .slice (some ⟨g, off, none⟩) xs.length cap ∧ xs.length ≤ cap ∧ ∀ i x, xs[i]? = some x → w.cell? ⟨g, off + i, none⟩ = some x
theorem cr_cells {α : Type} (f : α → Value) {w : World} {v : Value} {l : List α} (h : CR w v (l.map f)) : ∃ a cap, v = .slice a l.length cap ∧ (l.length = 0 ∨ ∃ g off, a = some ⟨g, off, none⟩ ∧ l.length ≤ cap ∧ ∀ k (hk : k < l.length), w.cell? ⟨g, off + k, none⟩ = some (f l[k])) := by
  rcases h with ⟨A, cap, rfl, he⟩ | ⟨g, off, cap, rfl, hc, hx⟩
  · rw [List.map_eq_nil_iff] at he
    subst he
    exact ⟨_, _, rfl, .inl rfl⟩
  · rw [List.length_map] at hc ⊢
    exact ⟨_, _, rfl, .inr ⟨g, off, rfl, hc, fun k hk => hx k (f l[k]) (by rw [List.getElem?_map, List.getElem?_eq_getElem hk]; rfl)⟩⟩
/-- a token with its parameter's value -/
def fillT (n : Nat) (t : Tok) (args : List ByteArray) (null : List Bool) : Tok := if null.getD (n - 1) false = true then (1, ⟨#[110, 117, 108, 108]⟩, t.2.2) else (3, args.getD (n - 1) ⟨#[]⟩, t.2.2)
def fillA (l : List Tok) (args : List ByteArray) (null : List Bool) : List Tok × Int :=
  if args.length ≠ null.length then ([], 1) else match fillL l args null with | some r => (r, 0) | none => ([], 8)
def FillP (w : World) (r : List Tok × Int) (e : Ending) (w' : World) : Prop := ∃ v, e = .returned (.tuple #[v, .int .i64 r.2]) ∧ w'.ownsRow w.heap.size 35 3 v r.1.length (tokRow r.1) ∧ Below w.heap.size w w'
theorem fill_cons (t : Tok) (r : List Tok) (args : List ByteArray) (null : List Bool) : fillL (t :: r) args null = match parT t with | none => (fillL r args null).map (t :: ·) | some n => if n = 0 ∨ args.length < n then none else (fillL r args null).map (fillT n t args null :: ·) := by
  rw [fillL]
  cases parT t <;> rfl
theorem fill_more (o : Option (List Tok)) (acc : List Tok) (t : Tok) : (o.map (t :: ·)).map (acc ++ ·) = o.map ((acc ++ [t]) ++ ·) := by
  cases o with
  | none => rfl
  | some r => simp
theorem tok_kept {wr w2 : World} (t : Tok) (hb : Below (wr.alloc (.cells #[.int .i64 t.1, .string t.2.1, .int .i64 t.2.2] 35)).heap.size (wr.alloc (.cells #[.int .i64 t.1, .string t.2.1, .int .i64 t.2.2] 35)) w2) :
    w2.cell? ⟨wr.heap.size, 0, none⟩ = some (.int .i64 t.1) ∧ w2.cell? ⟨wr.heap.size, 1, none⟩ = some (.string t.2.1) ∧ w2.cell? ⟨wr.heap.size, 2, none⟩ = some (.int .i64 t.2.2) ∧
    w2.frozen? ⟨wr.heap.size, 0, none⟩ = false ∧ w2.frozen? ⟨wr.heap.size, 1, none⟩ = false ∧ w2.frozen? ⟨wr.heap.size, 2, none⟩ = false ∧ Below wr.heap.size wr w2 ∧ wr.heap.size < w2.heap.size := by
  have hs : wr.heap.size < (wr.alloc (.cells #[.int .i64 t.1, .string t.2.1, .int .i64 t.2.2] 35)).heap.size := by simp
  refine ⟨?_, ?_, ?_, ?_, ?_, ?_, ((Below.refl _ _).alloc (Nat.le_refl _) _).trans (hb.mono (by simp)), Nat.lt_of_lt_of_le hs hb.size⟩
  · rw [hb.cell (p := ⟨wr.heap.size, 0, none⟩) hs, World.cell?_alloc_mark]; rfl
  · rw [hb.cell (p := ⟨wr.heap.size, 1, none⟩) hs, World.cell?_alloc_mark]; rfl
  · rw [hb.cell (p := ⟨wr.heap.size, 2, none⟩) hs, World.cell?_alloc_mark]; rfl
  · rw [hb.frozen (p := ⟨wr.heap.size, 0, none⟩) hs, World.frozen?_alloc_mark]; rfl
  · rw [hb.frozen (p := ⟨wr.heap.size, 1, none⟩) hs, World.frozen?_alloc_mark]; rfl
  · rw [hb.frozen (p := ⟨wr.heap.size, 2, none⟩) hs, World.frozen?_alloc_mark]; rfl
set_option maxHeartbeats 4000000 in
theorem rfill_any (v va vn : Value) (l : List Tok) (args : List ByteArray) (null : List Bool) (w : World) (hl : l.length ≤ 65536) (hz : ∀ t ∈ l, t.2.1.size ≤ 65536) (h : TR w v l)
    (ha : CR w va (args.map .string)) (hn : CR w vn (null.map .bool)) (hla : args.length ≤ 65536) (hln : null.length ≤ 65536) :
    Calls Tryz.prog 14 #[v, va, vn] w (FillP w (fillA l args null)) := by
  obtain ⟨i30, hi30, hz30, hs30, hb30⟩ := i30_parts
  obtain ⟨a, cap, rfl, hx⟩ := tr_cells h
  obtain ⟨a1, cap1, rfl, hx1⟩ := cr_cells Value.string ha
  obtain ⟨a2, cap2, rfl, hx2⟩ := cr_cells Value.bool hn
  by_cases hq : args.length = null.length
  · have hres : fillA l args null = match fillL l args null with | some r => (r, 0) | none => ([], 8) := if_neg (fun h => h hq)
    rw [hres]
    obtain ⟨F, hF⟩ : ∃ F, fillL l args null = F := ⟨_, rfl⟩
    rw [hF]
    have hqn : ((args.length : Int) != (null.length : Int)) = false := by rw [hq]; simp
    have HF := Lib.hid hF
    have HX := Lib.hid hx
    have HX1 := Lib.hid hx1
    have HX2 := Lib.hid hx2
    have HZ := Lib.hid hz
    have HQ := Lib.hid hq
    clear hF hx hx1 hx2 h ha hn hz hq hres
    go_enter Tryz.func14, Tryz.ntmps14
    go_wp2
    go_loopg [8, 9] l.length (fun g u4 u5 wx => ∃ (k : Nat) (L : List Tok), u5 = .int .i64 (k : Int) ∧ k + g = l.length ∧ L.length = k ∧ RsI w L u4 wx ∧ F = (fillL (l.drop k) args null).map (L ++ ·))
    case atStart => exact ⟨0, [], rfl, by omega, rfl, ⟨Below.refl _ _, World.ownsRow_nil _ _ _ _⟩, by rw [List.drop_zero, HF.out]; simp⟩
    case round =>
      obtain ⟨k, L, rfl, hkg, hLl, hI, hv⟩ := hrel
      have HI := Lib.hid hI
      clear hI HF
      cases gk with
      | zero =>
        have hkl : ¬ ((k : Int) < (l.length : Int)) := by omega
        have hF2 : F = some L := by
          rw [hv, List.drop_of_length_le (by omega)]; simp [fillL]
        clear hv
        subst hF2
        go_wp2
        go_ret2
        exact ⟨_, rfl, HI.out.row, HI.out.bel⟩
      | succ g =>
        have hkl : (k : Int) < (l.length : Int) := by omega
        have hlt : k < l.length := by omega
        have hk0 : (0 : Int) ≤ (k : Int) := by omega
        rcases HX.out with h0 | ⟨gb, off, rfl, hcap, hx⟩
        · omega
        · obtain ⟨x1, x2, x3⟩ := hx k hlt
          have hzk := HZ.out l[k] (List.getElem_mem hlt)
          have hgb : gb < w.heap.size := World.block_lt_of_cell? w _ x1
          rw [← HI.out.bel.cell (p := ⟨gb, off + k * 3, none⟩) hgb] at x1
          rw [← HI.out.bel.cell (p := ⟨gb, off + k * 3 + 1, none⟩) hgb] at x2
          rw [← HI.out.bel.cell (p := ⟨gb, off + k * 3 + 2, none⟩) hgb] at x3
          rw [List.drop_eq_getElem_cons hlt, fill_cons] at hv
          clear hx hgb
          generalize hT : l[k] = t at *
          clear hT
          obtain ⟨kd9, tx9, ta9⟩ := t
          simp only at x1 x2 x3 hzk
          have hp := fun w1 => rparam_any kd9 ta9 tx9 w1 (by omega)
          unfold parI at hp
          cases hpt : parT (kd9, tx9, ta9) with
          | none =>
            rw [hpt] at hv hp
            simp only at hv hp
            rw [fill_more] at hv
            have HP := Lib.hid hp
            have HV := Lib.hid hv
            clear hp hv hpt hzk
            have m1 : ¬ ((args.length : Int) < -1) := by omega
            go_wp2_with (first
              | (go_at_call 28; (with_reducible refine (HP.out _).mono ?_); rintro e w2 ⟨rfl, hb9⟩; obtain ⟨c0, c1, c2, _, _, _, hb2, _⟩ := tok_kept (kd9, tx9, ta9) hb9; have HI3 := Lib.hid (HI.out.step hb2); clear hb9 hb2)
              | (at_builtin; go_must (
                 refine wpList_append_own_wide _ rfl _ _ 22 rfl w.heap.size 35 i30 (.agg #[.int .i64 0, .string ByteArray.empty, .int .i64 0]) 3 32 und23 hi30 hz30 hs30 hb30 rfl (by decide) u8 L.length (tokRow L) rfl (HI3.out.row.alloc _) ⟨w2.heap.size, 0, none⟩ 1 1 (tokCells (kd9, tx9, ta9)) rfl rfl ?c1 ?c2 ?c3 ?c4 ?c5 ?_
                 case c1 => exact tok_cells w2 (kd9, tx9, ta9)
                 case c2 => exact tok_one _
                 case c3 => unfold maxLen; omega
                 case c4 => omega
                 case c5 => have := HI3.out.bel.size; simp; omega
                 intro v9 w9 hown9 hgr9 _)))
            have HI4 := HI3.out.step ((Below.refl _ _).alloc (Nat.le_refl _) (.cells #[.int .i64 kd9, .string tx9, .int .i64 ta9] 35))
            have HI5 := Lib.hid (HI4.more (kd9, tx9, ta9) hgr9 hown9)
            clear HI4
            go_roundg g
            case measure => omega
            case rel => exact ⟨k + 1, L ++ [(kd9, tx9, ta9)], by go_num, by omega, by rw [List.length_append, hLl]; rfl, HI5.out, HV.out⟩
          | some n =>
            rw [hpt] at hv hp
            simp only at hv hp
            by_cases h0 : n = 0
            · have hF2 : F = none := by rw [hv, if_pos (.inl h0)]; rfl
              subst h0
              have HP := Lib.hid hp
              clear hp hv hpt hzk
              subst hF2
              go_wp2_with (go_at_call 28; (with_reducible refine (HP.out _).mono ?_); rintro e w2 ⟨rfl, hb9⟩; have HB9 := Lib.hid (HI.out.bel.trans ((((Below.refl _ _).alloc (Nat.le_refl _) _).trans (hb9.mono (by simp))).mono HI.out.bel.size)); clear hb9)
              go_ret2
              exact ⟨_, rfl, World.ownsRow_nil _ _ _ _, HB9.out⟩
            · by_cases hgt : args.length < n
              · have hF2 : F = none := by rw [hv, if_pos (.inr hgt)]; rfl
                have HP := Lib.hid hp
                have m0 : ((n : Int) == 0) = false := by rw [beq_eq_false_iff_ne]; omega
                have m1 : (args.length : Int) < (n : Int) := by omega
                clear hp hv hpt hzk hgt
                subst hF2
                go_wp2_with (go_at_call 28; (with_reducible refine (HP.out _).mono ?_); rintro e w2 ⟨rfl, hb9⟩; have HB9 := Lib.hid (HI.out.bel.trans ((((Below.refl _ _).alloc (Nat.le_refl _) _).trans (hb9.mono (by simp))).mono HI.out.bel.size)); clear hb9)
                go_ret2
                exact ⟨_, rfl, World.ownsRow_nil _ _ _ _, HB9.out⟩
              · rw [if_neg (fun h => h.elim h0 hgt), fill_more] at hv
                have hnl : n - 1 < null.length := by have := HQ.out; omega
                have hna : n - 1 < args.length := by omega
                obtain ⟨m, hm⟩ : ∃ m, n - 1 = m := ⟨_, rfl⟩
                have cw : IntKind.i64.wrap ((n : Int) - 1) = (m : Int) := by rw [show (n : Int) - 1 = (m : Int) by omega]; exact IntWalk.i64_in _ (by omega)
                have m0 : ((n : Int) == 0) = false := by rw [beq_eq_false_iff_ne]; omega
                have m1 : ¬ ((args.length : Int) < (n : Int)) := by omega
                have m2 : (0 : Int) < (n : Int) := by omega
                have m3 : (0 : Int) ≤ (m : Int) := by omega
                have m4 : (m : Int) < (null.length : Int) := by omega
                have m5 : (m : Int) < (args.length : Int) := by omega
                unfold fillT at hv
                rw [hm] at hv hnl hna
                rcases HX2.out with e2 | ⟨g2, off2, rfl, hc2, hy2⟩
                · omega
                · have hb := hy2 m hnl
                  have hg2 : g2 < w.heap.size := World.block_lt_of_cell? w _ hb
                  rw [List.getD_eq_getElem?_getD, List.getElem?_eq_getElem hnl] at hv
                  simp only [Option.getD_some] at hv
                  have HP := Lib.hid hp
                  clear hp hpt hzk hgt h0 hy2 hm
                  cases hbool : null[m] with
                  | true =>
                    rw [hbool] at hv hb
                    rw [if_pos rfl] at hv
                    have HV := Lib.hid hv
                    clear hv hbool
                    go_wp2_with (first
                      | (go_at_call 28; (with_reducible refine (HP.out _).mono ?_); rintro e w2 ⟨rfl, hb9⟩; obtain ⟨c0, c1, c2, f0, f1, f2, hb2, hsz9⟩ := tok_kept (kd9, tx9, ta9) hb9; have HI3 := Lib.hid (HI.out.step hb2); have HI6 := Lib.hid (HI.out.step (((hb2.setCell (p := ⟨wr.heap.size, 0, none⟩) (Nat.le_refl _) (.int .i64 1)).setCell (p := ⟨wr.heap.size, 1, none⟩) (Nat.le_refl _) (.string ⟨#[110, 117, 108, 108]⟩)).setCell (p := ⟨wr.heap.size, 2, none⟩) (Nat.le_refl _) (.int .i64 ta9))); clear hb9 hb2; have c9 := (HI3.out.bel.cell (p := ⟨g2, off2 + m, none⟩) hg2).trans hb)
                      | (at_builtin; go_must (
                         refine wpList_append_own_wide _ rfl _ _ 22 rfl w.heap.size 35 i30 (.agg #[.int .i64 0, .string ByteArray.empty, .int .i64 0]) 3 32 und23 hi30 hz30 hs30 hb30 rfl (by decide) u8 L.length (tokRow L) rfl (HI6.out.row.alloc _) ⟨w2.heap.size, 0, none⟩ 1 1 (tokCells (1, ⟨#[110, 117, 108, 108]⟩, ta9)) rfl rfl ?c1 ?c2 ?c3 ?c4 ?c5 ?_
                         case c1 => exact tok_cells1 _ _ (1, ⟨#[110, 117, 108, 108]⟩, ta9) (by simp)
                         case c2 => exact tok_one _
                         case c3 => unfold maxLen; omega
                         case c4 => omega
                         case c5 => have := HI3.out.bel.size; simp; omega
                         intro v9 w9 hown9 hgr9 _)))
                    have HI4 := HI6.out.step ((Below.refl _ _).alloc (Nat.le_refl _) (.cells #[.int .i64 1, .string ⟨#[110, 117, 108, 108]⟩, .int .i64 ta9] 35))
                    have HI5 := Lib.hid (HI4.more (1, ⟨#[110, 117, 108, 108]⟩, ta9) hgr9 hown9)
                    clear HI4
                    go_roundg g
                    case measure => omega
                    case rel => exact ⟨k + 1, L ++ [(1, ⟨#[110, 117, 108, 108]⟩, ta9)], by go_num, by omega, by rw [List.length_append, hLl]; rfl, HI5.out, HV.out⟩
                  | false =>
                    rw [hbool] at hv hb
                    rw [if_neg (by decide)] at hv
                    rcases HX1.out with e1 | ⟨g1, off1, rfl, hc1, hy1⟩
                    · omega
                    · have ha1 := hy1 m hna
                      have hg1 : g1 < w.heap.size := World.block_lt_of_cell? w _ ha1
                      rw [List.getD_eq_getElem?_getD, List.getElem?_eq_getElem hna] at hv
                      simp only [Option.getD_some] at hv
                      generalize args[m] = s3 at *
                      have HV := Lib.hid hv
                      clear hv hbool hy1
                      go_wp2_with ((go_at_call 28; (with_reducible refine (HP.out _).mono ?_); rintro e w2 ⟨rfl, hb9⟩; obtain ⟨c0, c1, c2, f0, f1, f2, hb2, hsz9⟩ := tok_kept (kd9, tx9, ta9) hb9; have HI3 := Lib.hid (HI.out.step hb2); have HI6 := Lib.hid (HI.out.step (((hb2.setCell (p := ⟨wr.heap.size, 0, none⟩) (Nat.le_refl _) (.int .i64 3)).setCell (p := ⟨wr.heap.size, 1, none⟩) (Nat.le_refl _) (.string s3)).setCell (p := ⟨wr.heap.size, 2, none⟩) (Nat.le_refl _) (.int .i64 ta9))); clear hb9 hb2; have c9 := (HI3.out.bel.cell (p := ⟨g2, off2 + m, none⟩) hg2).trans hb; have c8 := (HI3.out.bel.cell (p := ⟨g1, off1 + m, none⟩) hg1).trans ha1))
                      go_region
                      go_wp2_with ((at_builtin; go_must (
                           refine wpList_append_own_wide _ rfl _ _ 22 rfl w.heap.size 35 i30 (.agg #[.int .i64 0, .string ByteArray.empty, .int .i64 0]) 3 32 und23 hi30 hz30 hs30 hb30 rfl (by decide) u8 L.length (tokRow L) rfl (HI6.out.row.alloc _) ⟨w2.heap.size, 0, none⟩ 1 1 (tokCells (3, s3, ta9)) rfl rfl ?c1 ?c2 ?c3 ?c4 ?c5 ?_
                           case c1 => exact tok_cells1 _ _ (3, s3, ta9) (by simp)
                           case c2 => exact tok_one _
                           case c3 => unfold maxLen; omega
                           case c4 => omega
                           case c5 => have := HI3.out.bel.size; simp; omega
                           intro v9 w9 hown9 hgr9 _)))
                      have HI4 := HI6.out.step (((Below.refl _ _).alloc (Nat.le_refl _) (.cells #[.int .i64 3, .string s3, .int .i64 ta9] 35)).drew)
                      have HI5 := Lib.hid (HI4.more (3, s3, ta9) hgr9 hown9)
                      clear HI4
                      go_roundg g
                      case measure => omega
                      case rel => exact ⟨k + 1, L ++ [(3, s3, ta9)], by go_num, by omega, by rw [List.length_append, hLl]; rfl, HI5.out, HV.out⟩
  · have hres : fillA l args null = ([], 1) := if_pos hq
    rw [hres]
    have hqn : ((args.length : Int) != (null.length : Int)) = true := by rw [bne_iff_ne]; omega
    clear hx hx1 hx2 h ha hn hz hq hres
    go_enter Tryz.func14, Tryz.ntmps14
    go_wp2
    go_ret2
    exact ⟨_, rfl, World.ownsRow_nil _ _ _ _, Below.refl _ _⟩
end Go.Proofs.YtgnpkpboilnijaaGreatDoor
