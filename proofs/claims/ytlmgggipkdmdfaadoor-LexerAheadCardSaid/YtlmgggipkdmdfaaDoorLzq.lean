/- The document's own Scan tells what Scan tells. Condition: none. -/
import Derived.Test.YtlmgggipkdmdfaaDoorLzp
import Derived.Test.YtlmgggipkdmdfaaDoorLyc
namespace Go.Proofs.YtlmgggipkdmdfaaDoor
open Go.ChangeShapes Go.WideShapes Go.ChangeAt Go.RowKit
set_option linter.unusedVariables false
set_option linter.unusedSimpArgs false

/-- what holds while the document's Scan goes on -/
structure RsI (w : World) (l : List Tok) (v : Value) (wr : World) : Prop where
  bel : Below w.heap.size w wr
  row : wr.ownsRow w.heap.size 30 3 v l.length (tokRow l)
theorem RsI.step {w wr w2 : World} {l : List Tok} {v : Value} (h : RsI w l v wr) (b : Below wr.heap.size wr w2) : RsI w l v w2 :=
  ⟨h.bel.trans (b.mono h.bel.size), ownsRow_below h.row b⟩
theorem RsI.more {w wr w2 : World} {l : List Tok} {v v2 : Value} (h : RsI w l v wr) (t : Tok) (g : wr.grownBy w2 v.ownBlock)
    (r : w2.ownsRow w.heap.size 30 3 v2 (l.length + 1) (tokRow l ++ tokCells t)) : RsI w (l ++ [t]) v2 w2 :=
  ⟨h.bel.grown g h.bel.size (fun k hk => (World.ownsRow.lt h.row k hk).1), by rw [List.length_append, show tokRow (l ++ [t]) = tokRow l ++ tokCells t by simp [tokRow]]; exact r⟩
def ScanT (w : World) (r : List Tok × Int × Int) (e : Ending) (w' : World) : Prop := ∃ v, e = .returned (.tuple #[v, .int .i64 r.2.1, .int .i64 r.2.2]) ∧ ScanQ w v r.1 w'
set_option maxHeartbeats 2000000 in
set_option maxRecDepth 100000 in
theorem rscan_small (s : ByteArray) (w : World) (hs : s.size ≤ 2000) (R : List Tok × Int × Int) (hR : R = scanF s 0 []) :
    Calls Tryd.prog 10 #[.string s] w (ScanT w R) := by
  have hl : ¬ ((2000 : Int) < (s.size : Int)) := by omega
  obtain ⟨i30, hi30, hz30, hs30, hb30⟩ := i30_parts
  have hgap := fun a (ha : a ≤ s.size) w => rgap_any s a w (by omega) ha _ rfl
  have hgp := fun a acc (ha : a ≤ s.size) => scan_gap s acc (s.size - a) (s.size + 1) a (Nat.le_refl _) (by omega) ha
  have HGP := Lib.hid hgp
  have hg0 := hgap 0 (Nat.zero_le _)
  have h0 := hgp 0 [] (Nat.zero_le _)
  rw [← hR] at h0
  generalize gapN (s.size + 1) s 0 = G at *
  obtain ⟨a0, b0⟩ := G
  have HG0 := Lib.hid hg0
  have H0 := Lib.hid h0
  have HGAP := Lib.hid hgap
  clear hgap hgp hg0 h0 hR
  go_enter Tryd.func10, Tryd.ntmps10
  have hg0' : ∀ w, Calls Tryd.prog 17 #[.string s, .int .i64 0] w fun e w' => e = .returned (.tuple #[.int .i64 (a0 : Int), .bool b0]) ∧ w' = w := HG0.out
  have HG1 := Lib.hid hg0'
  clear hg0'
  go_wp2_with (go_at_call 17; (with_reducible refine (HG1.out _).mono ?_); rintro e w1 ⟨rfl, hw1⟩; obtain rfl := hw1.symm)
  go_loopg [5, 6, 7] s.size (fun g u5 u6 u7 wx => ∃ (a : Nat) (bd : Bool) (l : List Tok), u6 = .int .i64 (a : Int) ∧ u7 = .bool bd ∧ a ≤ s.size ∧ s.size - a ≤ g ∧ l.length ≤ a ∧ RsI w l u5 wx ∧
    R = (if bd = true then ([], 6, (a : Int)) else scanF s a l) ∧ (bd = false → a < s.size → Solid s a))
  case atStart =>
    obtain ⟨q1, q2, q3, q4⟩ := H0.out
    exact ⟨a0, b0, [], rfl, rfl, q3, by omega, Nat.zero_le _, ⟨Below.refl _ _, World.ownsRow_nil _ _ _ _⟩, q1, q4⟩
  case round =>
    obtain ⟨a, bd, l, rfl, rfl, ha, hg, hla, hI, hv, hso⟩ := hrel
    clear HG0 HG1 H0
    have HI := Lib.hid hI
    clear hI
    cases bd with
    | true =>
      have hv2 : R = ([], 6, (a : Int)) := by rw [hv, if_pos rfl]
      have HV := Lib.hid hv2
      clear hv hso hv2
      by_cases hlt : (a : Int) < (s.size : Int)
      · go_wp2
        go_ret3
        rw [HV.out]
        exact ⟨_, rfl, .inl ⟨_, _, rfl, rfl⟩, HI.out.bel⟩
      · go_wp2
        go_ret3
        rw [HV.out]
        exact ⟨_, rfl, .inl ⟨_, _, rfl, rfl⟩, HI.out.bel⟩
    | false =>
      have hv2 : R = scanF s a l := by rw [hv, if_neg (by decide)]
      by_cases hlt : a < s.size
      · obtain ⟨g, rfl⟩ : ∃ g, gk = g + 1 := ⟨gk - 1, by omega⟩
        have l1 : (a : Int) < (s.size : Int) := by omega
        obtain ⟨o1, o2⟩ := scan_one s a l (hso rfl hlt)
        rw [← hv2] at o1
        have hone := fun w => rone_any s a hlt w (by omega)
        generalize oneP s a = r at *
        obtain ⟨⟨k, t, p⟩, b, er⟩ := r
        simp only at o1 o2
        have hone2 : ∀ w, Calls Tryd.prog 18 #[.string s, .int .i64 (a : Int)] w fun e w' => e = .returned (.tuple #[.agg #[.int .i64 k, .string t, .int .i64 p], .int .i64 (b : Int), .int .i64 er]) ∧ Below w.heap.size w w' := hone
        have HONE := Lib.hid hone2
        clear hone hone2 hv hv2 hso
        by_cases he : er = 0
        · subst he
          rw [if_pos rfl] at o1
          obtain ⟨ob1, ob2⟩ := o2 rfl
          have hga := HGAP.out b ob2
          have hgp := HGP.out b (l ++ [(k, t, p)]) ob2
          rw [← o1] at hgp
          generalize gapN (s.size + 1) s b = G at *
          obtain ⟨a2, b2⟩ := G
          have hga' : ∀ w, Calls Tryd.prog 17 #[.string s, .int .i64 (b : Int)] w fun e w' => e = .returned (.tuple #[.int .i64 (a2 : Int), .bool b2]) ∧ w' = w := hga
          have HGA := Lib.hid hga'
          have HGQ := Lib.hid hgp
          have HOB := Lib.hid (And.intro ob1 ob2)
          clear o1 o2 hga hga' hgp ob1 ob2
          go_wp2_with (first
            | (go_at_call 18; (with_reducible refine (HONE.out _).mono ?_); rintro e w2 ⟨rfl, hb2⟩; have HI3 := Lib.hid (HI.out.step hb2); clear hb2)
            | (go_at_call 17; (with_reducible refine (HGA.out _).mono ?_); rintro e w1 ⟨rfl, hw1⟩; obtain rfl := hw1.symm)
            | (at_builtin; go_must (
               refine wpList_append_own_wide _ rfl _ _ 23 rfl w.heap.size 30 i30 (.agg #[.int .i64 0, .string ByteArray.empty, .int .i64 0]) 3 32 und23 hi30 hz30 hs30 hb30 rfl (by decide) u5 l.length (tokRow l) rfl ((HI3.out.row.alloc _).alloc _) ⟨w2.heap.size + 1, 0, none⟩ 1 1 (tokCells (k, t, p)) rfl rfl ?c1 ?c2 ?c3 ?c4 ?c5 ?_
               case c1 => exact tok_cells2 w2 _ (k, t, p)
               case c2 => exact tok_one _
               case c3 => unfold maxLen; omega
               case c4 => omega
               case c5 => have := HI3.out.bel.size; simp; omega
               intro v9 w9 hown9 hgr9 _)))
          have HI4 := HI3.out.step (two_below w2 (.cells #[.int .i64 k, .string t, .int .i64 p] 30) (.cells #[.int .i64 k, .string t, .int .i64 p] 30))
          have HI5 := Lib.hid (HI4.more (k, t, p) hgr9 hown9)
          clear HI4
          go_roundg g
          case measure => omega
          case rel =>
            obtain ⟨q1, q2, q3, q4⟩ := HGQ.out
            exact ⟨a2, b2, l ++ [(k, t, p)], rfl, rfl, q3, by have := HOB.out; have q5 : b ≤ a2 := q2; omega, by rw [List.length_append, List.length_singleton]; have := HOB.out; have q5 : b ≤ a2 := q2; omega, HI5.out, q1, q4⟩
        · rw [if_neg he] at o1
          have he2 : (er != (0 : Int)) = true := by rw [bne_iff_ne]; exact he
          have HV := Lib.hid o1
          clear o1 o2 he
          go_wp2_with (go_at_call 18; (with_reducible refine (HONE.out _).mono ?_); rintro e w2 ⟨rfl, hb2⟩; have HI3 := Lib.hid (HI.out.step hb2); clear hb2)
          go_ret3
          rw [HV.out]
          exact ⟨_, rfl, .inl ⟨_, _, rfl, rfl⟩, HI3.out.bel.trans (((Below.refl _ _).alloc (Nat.le_refl _) _).mono HI3.out.bel.size)⟩
      · have l1 : ¬ ((a : Int) < (s.size : Int)) := by omega
        have hv3 : R = (l, 0, 0) := by rw [hv2, scanF_end s a l (by omega)]
        have HV := Lib.hid hv3
        clear hv hv2 hv3 hso
        go_wp2
        go_ret3
        rw [HV.out]
        exact ⟨_, rfl, TR.own HI.out.row, HI.out.bel⟩
theorem scanA_F (s : ByteArray) (h : s.size ≤ 2000) : scanA s = scanF s 0 [] := if_neg (by omega)
theorem rscan_any (s : ByteArray) (w : World) :
    Calls Tryd.prog 10 #[.string s] w (ScanT w (scanA s)) := by
  by_cases h : 2000 < s.size
  · have e : scanA s = ([], 2, 2000) := if_pos h
    rw [e]
    have hl : (2000 : Int) < (s.size : Int) := by omega
    clear e
    go_enter Tryd.func10, Tryd.ntmps10
    go_wp2
    go_ret3
    exact ⟨_, rfl, .inl ⟨_, _, rfl, rfl⟩, Below.refl _ _⟩
  · exact rscan_small s w (by omega) _ (scanA_F s (by omega))
end Go.Proofs.YtlmgggipkdmdfaaDoor
