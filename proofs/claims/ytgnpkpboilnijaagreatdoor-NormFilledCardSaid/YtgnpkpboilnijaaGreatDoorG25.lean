/- What package norm's Fill answers. Conditions: how many tokens, how long their texts, how many values. -/
import Derived.Test.YtgnpkpboilnijaaGreatDoorG24
import Derived.Laws.MakeOwn
set_option linter.unusedSimpArgs false
set_option linter.unusedVariables false
namespace Go.Proofs.YtgnpkpboilnijaaGreatDoor
open Go.ChangeShapes Go.WideShapes Go.ChangeAt Go.RowKit
set_option maxRecDepth 100000
set_option linter.unusedVariables false
set_option linter.unusedSimpArgs false

/-- a token in a block of the call's own -/
structure Box (w0 : World) (B : Nat) (t : Tok) (w : World) : Prop where
  bel : Below w0.heap.size w0 w
  lo : w0.heap.size ≤ B
  lt : B < w.heap.size
  c0 : w.cell? ⟨B, 0, none⟩ = some (.int .i64 t.1)
  c1 : w.cell? ⟨B, 1, none⟩ = some (.string t.2.1)
  c2 : w.cell? ⟨B, 2, none⟩ = some (.int .i64 t.2.2)
  f0 : w.frozen? ⟨B, 0, none⟩ = false
  f1 : w.frozen? ⟨B, 1, none⟩ = false
  f2 : w.frozen? ⟨B, 2, none⟩ = false
theorem Box.step {w0 w w2 : World} {B : Nat} {t : Tok} (h : Box w0 B t w) (b : Below w.heap.size w w2) : Box w0 B t w2 := by
  refine ⟨h.bel.trans (b.mono h.bel.size), h.lo, Nat.lt_of_lt_of_le h.lt b.size, ?_, ?_, ?_, ?_, ?_, ?_⟩
  · rw [b.cell (p := ⟨B, 0, none⟩) h.lt]; exact h.c0
  · rw [b.cell (p := ⟨B, 1, none⟩) h.lt]; exact h.c1
  · rw [b.cell (p := ⟨B, 2, none⟩) h.lt]; exact h.c2
  · rw [b.frozen (p := ⟨B, 0, none⟩) h.lt]; exact h.f0
  · rw [b.frozen (p := ⟨B, 1, none⟩) h.lt]; exact h.f1
  · rw [b.frozen (p := ⟨B, 2, none⟩) h.lt]; exact h.f2
theorem Box.new (w : World) (kd ta : Int) (tx : ByteArray) : Box w w.heap.size (kd, tx, ta) (w.alloc (.cells #[.int .i64 kd, .string tx, .int .i64 ta] 35)) :=
  ⟨(Below.refl _ _).alloc (Nat.le_refl _) _, Nat.le_refl _, by simp, by rw [World.cell?_alloc_mark]; rfl, by rw [World.cell?_alloc_mark]; rfl, by rw [World.cell?_alloc_mark]; rfl,
    by rw [World.frozen?_alloc_mark]; rfl, by rw [World.frozen?_alloc_mark]; rfl, by rw [World.frozen?_alloc_mark]; rfl⟩
theorem Box.kind {w0 w : World} {B : Nat} {t : Tok} (h : Box w0 B t w) (k : Int) : Box w0 B (k, t.2.1, t.2.2) (w.setCell ⟨B, 0, none⟩ (.int .i64 k)) :=
  ⟨h.bel.setCell h.lo _, h.lo, by simpa [World.setCell] using h.lt, World.cell?_setCell_same _ _ _ h.c0,
    by rw [World.cell?_setCell_other _ _ _ _ (by intro h2; simp only [Addr.mk.injEq] at h2; omega)]; exact h.c1,
    by rw [World.cell?_setCell_other _ _ _ _ (by intro h2; simp only [Addr.mk.injEq] at h2; omega)]; exact h.c2,
    by rw [World.frozen?_setCell]; exact h.f0, by rw [World.frozen?_setCell]; exact h.f1, by rw [World.frozen?_setCell]; exact h.f2⟩
theorem Box.text {w0 w : World} {B : Nat} {t : Tok} (h : Box w0 B t w) (s : ByteArray) : Box w0 B (t.1, s, t.2.2) (w.setCell ⟨B, 1, none⟩ (.string s)) :=
  ⟨h.bel.setCell h.lo _, h.lo, by simpa [World.setCell] using h.lt,
    by rw [World.cell?_setCell_other _ _ _ _ (by intro h2; simp only [Addr.mk.injEq] at h2; omega)]; exact h.c0,
    World.cell?_setCell_same _ _ _ h.c1,
    by rw [World.cell?_setCell_other _ _ _ _ (by intro h2; simp only [Addr.mk.injEq] at h2; omega)]; exact h.c2,
    by rw [World.frozen?_setCell]; exact h.f0, by rw [World.frozen?_setCell]; exact h.f1, by rw [World.frozen?_setCell]; exact h.f2⟩
theorem Box.drew {w0 w : World} {B : Nat} {t : Tok} (h : Box w0 B t w) : Box w0 B t w.drew := h.step (Below.drew (Below.refl _ _))
set_option maxHeartbeats 4000000 in
theorem fill_any (v va vn : Value) (l : List Tok) (args : List ByteArray) (null : List Bool) (w : World) (hl : l.length ≤ 65536) (hz : ∀ t ∈ l, t.2.1.size ≤ 65536) (h : TR w v l)
    (ha : CR w va (args.map .string)) (hn : CR w vn (null.map .bool)) (hla : args.length ≤ 65536) (hln : null.length ≤ 65536) (hza : ∀ s ∈ args, s.size ≤ 281474976710656) :
    Calls Tryz.prog 13 #[v, va, vn] w (FillP w (fillA l args null)) := by
  obtain ⟨i30, hi30, hz30, hs30, hb30⟩ := i30_parts
  obtain ⟨a, cap, rfl, hx⟩ := tr_cells h
  obtain ⟨a1, cap1, rfl, hx1⟩ := cr_cells Value.string ha
  obtain ⟨a2, cap2, rfl, hx2⟩ := cr_cells Value.bool hn
  by_cases hq : args.length = null.length
  · have hres : fillA l args null = match fillL l args null with | some r => (r, 0) | none => ([], 8) := if_neg (fun h => h hq)
    rw [hres]
    obtain ⟨F, hF⟩ : ∃ F, fillL l args null = F := ⟨_, rfl⟩
    rw [hF]
    have hqn : ((args.length : Int) != (null.length : Int)) = false := by rw [hq]; simp
    obtain ⟨w1, hmk, hown1, hgr1⟩ := run_make_own (P := Tryz.prog) w w.heap.size 22 35 i30 _ 3 und23 hi30 hz30 hs30 .i64 .i64 l.length (by rw [hb30]; omega) (by unfold maxLen; omega) (Nat.le_refl _)
    have HI0 := Lib.hid (⟨(Below.refl _ w).grown hgr1 (Nat.le_refl _) (fun k hk => by cases hk), hown1⟩ : RsI w [] _ w1)
    have HF := Lib.hid hF
    have HX := Lib.hid hx
    have HX1 := Lib.hid hx1
    have HX2 := Lib.hid hx2
    have HZ := Lib.hid hz
    have HZA := Lib.hid hza
    have HQ := Lib.hid hq
    clear hF hx hx1 hx2 h ha hn hz hq hres hown1 hgr1 hza
    go_enter Tryz.func13, Tryz.ntmps13
    go_wp2
    go_loopg [8, 23] l.length (fun g u8 u23 wx => ∃ (k : Nat) (L : List Tok), u23 = .int .i64 (k : Int) ∧ k + g = l.length ∧ L.length = k ∧ RsI w L u8 wx ∧ F = (fillL (l.drop k) args null).map (L ++ ·))
    case atStart => exact ⟨0, [], rfl, by omega, rfl, HI0.out, by rw [List.drop_zero, HF.out]; simp⟩
    case round =>
      obtain ⟨k, L, rfl, hkg, hLl, hI, hv⟩ := hrel
      have HI := Lib.hid hI
      clear hI HF hmk HI0
      cases gk with
      | zero =>
        have hkl : ¬ ((k : Int) < (l.length : Int)) := by omega
        have hF2 : F = some L := by
          rw [hv, List.drop_of_length_le (by omega)]; simp [fillL]
        clear hv
        subst hF2
        go_wp2
        go_ret2
        exact ⟨_, rfl, HI.out.row, HI.out.bel⟩
      | succ g =>
        have hkl : (k : Int) < (l.length : Int) := by omega
        have hlt : k < l.length := by omega
        have hk0 : (0 : Int) ≤ (k : Int) := by omega
        rcases HX.out with h0 | ⟨gb, off, rfl, hcap, hx⟩
        · omega
        · obtain ⟨x1, x2, x3⟩ := hx k hlt
          have hzk := HZ.out l[k] (List.getElem_mem hlt)
          have hgb : gb < w.heap.size := World.block_lt_of_cell? w _ x1
          rw [← HI.out.bel.cell (p := ⟨gb, off + k * 3, none⟩) hgb] at x1
          rw [← HI.out.bel.cell (p := ⟨gb, off + k * 3 + 1, none⟩) hgb] at x2
          rw [← HI.out.bel.cell (p := ⟨gb, off + k * 3 + 2, none⟩) hgb] at x3
          rw [List.drop_eq_getElem_cons hlt, fill_cons] at hv
          clear hx hgb
          generalize hT : l[k] = t at *
          clear hT
          obtain ⟨kd9, tx9, ta9⟩ := t
          simp only at x1 x2 x3 hzk
          have hp := fun w1 => nparam_any kd9 ta9 tx9 w1 (fun _ => by omega)
          cases hpt : parT (kd9, tx9, ta9) with
          | none =>
            rw [hpt] at hv hp
            simp only [Option.getD_none, Option.isSome_none] at hv hp
            rw [fill_more] at hv
            have hcn := fun w1 => clone_any tx9 w1 (by omega)
            have HCN := Lib.hid hcn
            have HP := Lib.hid hp
            have HV := Lib.hid hv
            clear hp hv hpt hzk hcn
            go_wp2_with (first
              | (go_at_call 26; (with_reducible refine (HP.out _).mono ?_); rintro e w2 ⟨rfl, hb9⟩; have BX2 := Lib.hid ((Box.new wr kd9 ta9 tx9).step hb9); clear hb9; have c0 := BX2.out.c0; have c1 := BX2.out.c1; have c2 := BX2.out.c2; have f0 := BX2.out.f0; have f1 := BX2.out.f1; have f2 := BX2.out.f2)
              | (go_at_call 27; (with_reducible refine (HCN.out _).mono ?_); rintro e w3 ⟨rfl, hb3⟩; have BX3 := Lib.hid (BX2.out.step hb3); clear hb3 c0 c1 c2 f0 f1 f2; have c0 := BX3.out.c0; have c1 := BX3.out.c1; have c2 := BX3.out.c2; have f0 := BX3.out.f0; have f1 := BX3.out.f1; have f2 := BX3.out.f2; have HI6 := Lib.hid (HI.out.step (BX3.out.text tx9).bel))
              | (at_builtin; go_must (
                   refine wpList_append_own_wide _ rfl _ _ 22 rfl w.heap.size 35 i30 (.agg #[.int .i64 0, .string ByteArray.empty, .int .i64 0]) 3 32 und23 hi30 hz30 hs30 hb30 rfl (by decide) u8 L.length (tokRow L) rfl (HI6.out.row.alloc _) ⟨w3.heap.size, 0, none⟩ 1 1 (tokCells (kd9, tx9, ta9)) rfl rfl ?c1 ?c2 ?c3 ?c4 ?c5 ?_
                   case c1 => exact tok_cells1 _ _ (kd9, tx9, ta9) (by simp)
                   case c2 => exact tok_one _
                   case c3 => unfold maxLen; omega
                   case c4 => omega
                   case c5 => have := HI6.out.bel.size; simp at this; simp; omega
                   intro v9 w9 hown9 hgr9 _)))
            have HI4 := HI6.out.step ((Below.refl _ _).alloc (Nat.le_refl _) (.cells #[.int .i64 kd9, .string tx9, .int .i64 ta9] 35))
            have HI5 := Lib.hid (HI4.more (kd9, tx9, ta9) hgr9 hown9)
            clear HI4
            go_roundg g
            case measure => omega
            case rel => exact ⟨k + 1, L ++ [(kd9, tx9, ta9)], by go_num, by omega, by rw [List.length_append, hLl]; rfl, HI5.out, HV.out⟩
          | some n =>
            rw [hpt] at hv hp
            simp only [Option.getD_some, Option.isSome_some] at hv hp
            by_cases h0 : n = 0
            · have hF2 : F = none := by rw [hv, if_pos (.inl h0)]; rfl
              subst h0
              have HP := Lib.hid hp
              clear hp hv hpt hzk
              subst hF2
              go_wp2_with (go_at_call 26; (with_reducible refine (HP.out _).mono ?_); rintro e w2 ⟨rfl, hb9⟩; have BX2 := Lib.hid ((Box.new wr kd9 ta9 tx9).step hb9); clear hb9; have c0 := BX2.out.c0; have c1 := BX2.out.c1; have c2 := BX2.out.c2; have f0 := BX2.out.f0; have f1 := BX2.out.f1; have f2 := BX2.out.f2; have HB9 := Lib.hid (HI.out.bel.trans (BX2.out.bel.mono HI.out.bel.size)))
              go_ret2
              exact ⟨_, rfl, World.ownsRow_nil _ _ _ _, HB9.out⟩
            · by_cases hgt : args.length < n
              · have hF2 : F = none := by rw [hv, if_pos (.inr hgt)]; rfl
                have HP := Lib.hid hp
                have m0 : ((n : Int) == 0) = false := by rw [beq_eq_false_iff_ne]; omega
                have m1 : (args.length : Int) < (n : Int) := by omega
                clear hp hv hpt hzk hgt
                subst hF2
                go_wp2_with (go_at_call 26; (with_reducible refine (HP.out _).mono ?_); rintro e w2 ⟨rfl, hb9⟩; have BX2 := Lib.hid ((Box.new wr kd9 ta9 tx9).step hb9); clear hb9; have c0 := BX2.out.c0; have c1 := BX2.out.c1; have c2 := BX2.out.c2; have f0 := BX2.out.f0; have f1 := BX2.out.f1; have f2 := BX2.out.f2; have HB9 := Lib.hid (HI.out.bel.trans (BX2.out.bel.mono HI.out.bel.size)))
                go_ret2
                exact ⟨_, rfl, World.ownsRow_nil _ _ _ _, HB9.out⟩
              · rw [if_neg (fun h => h.elim h0 hgt), fill_more] at hv
                have hnl : n - 1 < null.length := by have := HQ.out; omega
                have hna : n - 1 < args.length := by omega
                obtain ⟨m, hm⟩ : ∃ m, n - 1 = m := ⟨_, rfl⟩
                have cw : IntKind.i64.wrap ((n : Int) - 1) = (m : Int) := by rw [show (n : Int) - 1 = (m : Int) by omega]; exact IntWalk.i64_in _ (by omega)
                have m0 : ((n : Int) == 0) = false := by rw [beq_eq_false_iff_ne]; omega
                have m1 : ¬ ((args.length : Int) < (n : Int)) := by omega
                have m3 : (0 : Int) ≤ (m : Int) := by omega
                have m4 : (m : Int) < (null.length : Int) := by omega
                have m5 : (m : Int) < (args.length : Int) := by omega
                unfold fillT at hv
                rw [hm] at hv hnl hna
                rcases HX2.out with e2 | ⟨g2, off2, rfl, hc2, hy2⟩
                · omega
                · have hb := hy2 m hnl
                  have hg2 : g2 < w.heap.size := World.block_lt_of_cell? w _ hb
                  rw [List.getD_eq_getElem?_getD, List.getElem?_eq_getElem hnl] at hv
                  simp only [Option.getD_some] at hv
                  have HP := Lib.hid hp
                  clear hp hpt hzk hgt h0 hy2 hm
                  cases hbool : null[m] with
                  | true =>
                    rw [hbool] at hv hb
                    rw [if_pos rfl] at hv
                    have HCN := Lib.hid (fun w1 => clone_any (⟨#[110, 117, 108, 108]⟩ : ByteArray) w1 (by decide))
                    have HV := Lib.hid hv
                    clear hv hbool
                    go_wp2_with (first
                      | (go_at_call 26; (with_reducible refine (HP.out _).mono ?_); rintro e w2 ⟨rfl, hb9⟩; have BX2 := Lib.hid ((Box.new wr kd9 ta9 tx9).step hb9); clear hb9; have c0 := BX2.out.c0; have c1 := BX2.out.c1; have c2 := BX2.out.c2; have f0 := BX2.out.f0; have f1 := BX2.out.f1; have f2 := BX2.out.f2; have BX4 := Lib.hid ((BX2.out.kind 1).text ⟨#[110, 117, 108, 108]⟩); have c9 := ((HI.out.bel.trans (BX2.out.bel.mono HI.out.bel.size)).cell (p := ⟨g2, off2 + m, none⟩) hg2).trans hb)
                      | (go_at_call 27; (with_reducible refine (HCN.out _).mono ?_); rintro e w3 ⟨rfl, hb3⟩; have BX3 := Lib.hid (BX4.out.step hb3); clear hb3 c0 c1 c2 f0 f1 f2; have c0 := BX3.out.c0; have c1 := BX3.out.c1; have c2 := BX3.out.c2; have f0 := BX3.out.f0; have f1 := BX3.out.f1; have f2 := BX3.out.f2; have HI6 := Lib.hid (HI.out.step (BX3.out.text ⟨#[110, 117, 108, 108]⟩).bel))
                      | (at_builtin; go_must (
                           refine wpList_append_own_wide _ rfl _ _ 22 rfl w.heap.size 35 i30 (.agg #[.int .i64 0, .string ByteArray.empty, .int .i64 0]) 3 32 und23 hi30 hz30 hs30 hb30 rfl (by decide) u8 L.length (tokRow L) rfl (HI6.out.row.alloc _) ⟨w3.heap.size, 0, none⟩ 1 1 (tokCells (1, ⟨#[110, 117, 108, 108]⟩, ta9)) rfl rfl ?c1 ?c2 ?c3 ?c4 ?c5 ?_
                           case c1 => exact tok_cells1 _ _ (1, ⟨#[110, 117, 108, 108]⟩, ta9) (by simp)
                           case c2 => exact tok_one _
                           case c3 => unfold maxLen; omega
                           case c4 => omega
                           case c5 => have := HI6.out.bel.size; simp at this; simp; omega
                           intro v9 w9 hown9 hgr9 _)))
                    have HI4 := HI6.out.step ((Below.refl _ _).alloc (Nat.le_refl _) (.cells #[.int .i64 1, .string ⟨#[110, 117, 108, 108]⟩, .int .i64 ta9] 35))
                    have HI5 := Lib.hid (HI4.more (1, ⟨#[110, 117, 108, 108]⟩, ta9) hgr9 hown9)
                    clear HI4
                    go_roundg g
                    case measure => omega
                    case rel => exact ⟨k + 1, L ++ [(1, ⟨#[110, 117, 108, 108]⟩, ta9)], by go_num, by omega, by rw [List.length_append, hLl]; rfl, HI5.out, HV.out⟩
                  | false =>
                    rw [hbool] at hv hb
                    rw [if_neg (by decide)] at hv
                    rcases HX1.out with e1 | ⟨g1, off1, rfl, hc1, hy1⟩
                    · omega
                    · have ha1 := hy1 m hna
                      have hg1 : g1 < w.heap.size := World.block_lt_of_cell? w _ ha1
                      rw [List.getD_eq_getElem?_getD, List.getElem?_eq_getElem hna] at hv
                      simp only [Option.getD_some] at hv
                      have hs3 := HZA.out args[m] (List.getElem_mem hna)
                      generalize args[m] = s3 at *
                      have HCN := Lib.hid (fun w1 => clone_any s3 w1 hs3)
                      have HV := Lib.hid hv
                      clear hv hbool hy1 hs3
                      go_wp2_with (go_at_call 26; (with_reducible refine (HP.out _).mono ?_); rintro e w2 ⟨rfl, hb9⟩; have BX2 := Lib.hid ((Box.new wr kd9 ta9 tx9).step hb9); clear hb9; have c0 := BX2.out.c0; have c1 := BX2.out.c1; have c2 := BX2.out.c2; have f0 := BX2.out.f0; have f1 := BX2.out.f1; have f2 := BX2.out.f2; have BX4 := Lib.hid ((BX2.out.kind 3).text s3).drew; have c9 := ((HI.out.bel.trans (BX2.out.bel.mono HI.out.bel.size)).cell (p := ⟨g2, off2 + m, none⟩) hg2).trans hb; have c8 := ((HI.out.bel.trans (BX2.out.bel.mono HI.out.bel.size)).cell (p := ⟨g1, off1 + m, none⟩) hg1).trans ha1; have c7 : (w2.setCell ⟨wr.heap.size, 0, none⟩ (.int .i64 3)).cell? ⟨g1, off1 + m, none⟩ = some (.string s3) := (by rw [World.cell?_setCell_other _ _ _ _ (by intro h2; simp only [Addr.mk.injEq] at h2; have := HI.out.bel.size; omega)]; exact c8))
                      go_region
                      go_wp2_with (first
                        | (go_at_call 27; (with_reducible refine (HCN.out _).mono ?_); rintro e w3 ⟨rfl, hb3⟩; have BX3 := Lib.hid (BX4.out.step hb3); clear hb3 c0 c1 c2 f0 f1 f2; have c0 := BX3.out.c0; have c1 := BX3.out.c1; have c2 := BX3.out.c2; have f0 := BX3.out.f0; have f1 := BX3.out.f1; have f2 := BX3.out.f2; have HI6 := Lib.hid (HI.out.step (BX3.out.text s3).bel))
                        | (at_builtin; go_must (
                             refine wpList_append_own_wide _ rfl _ _ 22 rfl w.heap.size 35 i30 (.agg #[.int .i64 0, .string ByteArray.empty, .int .i64 0]) 3 32 und23 hi30 hz30 hs30 hb30 rfl (by decide) u8 L.length (tokRow L) rfl (HI6.out.row.alloc _) ⟨w3.heap.size, 0, none⟩ 1 1 (tokCells (3, s3, ta9)) rfl rfl ?c1 ?c2 ?c3 ?c4 ?c5 ?_
                             case c1 => exact tok_cells1 _ _ (3, s3, ta9) (by simp)
                             case c2 => exact tok_one _
                             case c3 => unfold maxLen; omega
                             case c4 => omega
                             case c5 => have := HI6.out.bel.size; simp at this; simp; omega
                             intro v9 w9 hown9 hgr9 _)))
                      have HI4 := HI6.out.step ((Below.refl _ _).alloc (Nat.le_refl _) (.cells #[.int .i64 3, .string s3, .int .i64 ta9] 35))
                      have HI5 := Lib.hid (HI4.more (3, s3, ta9) hgr9 hown9)
                      clear HI4
                      go_roundg g
                      case measure => omega
                      case rel => exact ⟨k + 1, L ++ [(3, s3, ta9)], by go_num, by omega, by rw [List.length_append, hLl]; rfl, HI5.out, HV.out⟩
  · have hres : fillA l args null = ([], 1) := if_pos hq
    rw [hres]
    have hqn : ((args.length : Int) != (null.length : Int)) = true := by rw [bne_iff_ne]; omega
    clear hx hx1 hx2 h ha hn hz hq hres
    go_enter Tryz.func13, Tryz.ntmps13
    go_wp2
    go_ret2
    exact ⟨_, rfl, World.ownsRow_nil _ _ _ _, Below.refl _ _⟩
end Go.Proofs.YtgnpkpboilnijaaGreatDoor
