/- Where no gap begins, Scan in plain words goes on as the document's one tells. Condition: none.
   What must come of fixed calls at layer 4 (known): it tells true. Condition: the word of bytealg.
   The document's own Scan tells what Scan tells. Condition: none.
   An induction over what Scan finds; how many tokens there are, how long their texts, where. Condition: none. -/
import Derived.Test.YtgnpkpboilnijaaGreatDoorG16
import Derived.Test.YtgnpkpboilnijaaGreatDoorG15
set_option linter.unusedSimpArgs false
set_option linter.unusedVariables false
namespace Go.Proofs.YtgnpkpboilnijaaGreatDoor
open Go.ChangeShapes Go.WideShapes Go.ChangeAt Go.RowKit
set_option maxRecDepth 100000
set_option linter.unusedVariables false
set_option linter.unusedSimpArgs false

def GoesOn (s : ByteArray) (a : Nat) (acc : List Tok) (r : Tok × Nat × Int) : Prop :=
  scanF s a acc = (if r.2.2 = 0 then scanF s r.2.1 (acc ++ [r.1]) else ([], r.2.2, (a : Int))) ∧ (r.2.2 = 0 → a < r.2.1 ∧ r.2.1 ≤ s.size)
theorem ok_of (s : ByteArray) (a : Nat) (acc : List Tok) (h : a < s.size) (k : Int) (t : ByteArray) (b n : Nat) (hn : a + n = b) (hk : k ≠ 0) (hf : findR 10 (rst s a) = some (k, t, (n : Int))) : GoesOn s a acc ((k, t, (a : Int)), b, 0) := by
  have hsz := find_sized 10 (Nat.le_refl _) _ (by rw [ByteArray.size_extract]; omega) _ hf
  rw [ByteArray.size_extract] at hsz
  simp only at hsz
  have := scanF_step s a acc h k t n (by omega) hf
  rw [if_neg hk, hn] at this
  exact ⟨by rw [if_pos rfl]; exact this, fun _ => ⟨by simp only; omega, by simp only; omega⟩⟩
theorem bad_of (s : ByteArray) (a : Nat) (acc : List Tok) (h : a < s.size) (k : Int) (t : ByteArray) (hf : findR 10 (rst s a) = some (k, t, -1)) : GoesOn s a acc (tok0, 0, 6) :=
  ⟨by rw [if_neg (by decide)]; exact scanF_bad s a acc h _ hf rfl, fun h => absurd h (by decide)⟩
theorem none_of (s : ByteArray) (a : Nat) (acc : List Tok) (h : a < s.size) (hf : findR 10 (rst s a) = none) : GoesOn s a acc (tok0, 0, 7) :=
  ⟨by rw [if_neg (by decide)]; exact scanF_none s a acc h hf, fun h => absurd h (by decide)⟩
theorem below3 {P : Nat → Prop} (h0 : P 0) (h1 : P 1) (h2 : P 2) : ∀ j, j < 3 → P j := by
  intro j hj
  have : j = 0 ∨ j = 1 ∨ j = 2 := by omega
  rcases this with rfl | rfl | rfl
  · exact h0
  · exact h1
  · exact h2
theorem upto_succ {P : Nat → Prop} {n : Nat} (h : ∀ j, j < n → P j) (hn : P n) : ∀ j, j < n + 1 → P j := by
  intro j hj
  by_cases e : j = n
  · subst e; exact hn
  · exact h j (by omega)
theorem dig_not (c : UInt8) (h : digB c = true) : c ≠ 34 ∧ c ≠ 39 ∧ c ≠ 36 := by
  refine ⟨?_, ?_, ?_⟩ <;> (rintro rfl; exact absurd h (by decide))
theorem scan_one (s : ByteArray) (a : Nat) (acc : List Tok) (hS : Solid s a) : GoesOn s a acc (oneP s a) := by
  have h := hS.lt
  have hh := head_at s a h
  have hb := hS.blank
  rw [hh] at hb
  have z0' : (rdP 0 (rst s a)).2.2 = 0 := by
    rw [z0, five_row s a h, hh, hb]; rfl
  have z3 := below3 (P := fun j => (rdP j (rst s a)).2.2 = 0) z0' (z1_no s a hS.line) (z2_no s a hS.rem)
  unfold oneP
  simp only [hh]
  by_cases hl : letB s[a] = true
  · rw [if_pos hl]
    have e := r3_yes s a h hl
    have hf := find_first 3 (by omega) (rst s a) z3 (by rw [e]; have := row_pos wordB s a h (let_word _ hl); show ((rowL wordB (s.data.toList.drop a) : Nat) : Int) ≠ 0; omega)
    rw [e] at hf
    exact ok_of s a acc h 1 _ _ _ rfl (by decide) hf
  · have hl2 : letB s[a] = false := by simpa using hl
    rw [if_neg hl]
    have z4 := upto_succ z3 (r3_no s a h hl2)
    by_cases hd : digB s[a] = true
    · rw [if_pos hd]
      obtain ⟨n1, n2, n3⟩ := dig_not _ hd
      have z7 := upto_succ (upto_succ (upto_succ z4 (r45_no 34 2 s a h n1)) (r45_no 39 3 s a h n2)) (r6_no s a h (.inl n3))
      have e := r7_yes s a h hd
      have hf := find_first 7 (by omega) (rst s a) z7 (by rw [e]; have := row_pos numB s a h (dig_num _ hd); show ((rowL numB (s.data.toList.drop a) : Nat) : Int) ≠ 0; omega)
      rw [e] at hf
      exact ok_of s a acc h 4 _ _ _ rfl (by decide) hf
    · have hd2 : digB s[a] = false := by simpa using hd
      rw [if_neg hd]
      by_cases h34 : s[a] = 34
      · rw [if_pos h34]
        have e : rdP 4 (rst s a) = _ := r45_yes 34 2 s a h h34
        cases hq : quoAt s a 34 with
        | none =>
          rw [hq] at e
          have hf := find_first 4 (by omega) (rst s a) z4 (by rw [e]; show (-1 : Int) ≠ 0; decide)
          rw [e] at hf
          exact bad_of s a acc h _ _ hf
        | some p =>
          rw [hq] at e
          have hp : a < p.2 := by
            unfold quoAt at hq
            obtain ⟨r, _, rfl⟩ := Option.map_eq_some_iff.1 hq
            simp only; omega
          have hf := find_first 4 (by omega) (rst s a) z4 (by rw [e]; show ((p.2 - a : Nat) : Int) ≠ 0; omega)
          rw [e] at hf
          exact ok_of s a acc h 2 _ _ _ (by omega) (by decide) hf
      · rw [if_neg h34]
        have z5 := upto_succ z4 (r45_no 34 2 s a h h34)
        by_cases h39 : s[a] = 39
        · rw [if_pos h39]
          have e : rdP 5 (rst s a) = _ := r45_yes 39 3 s a h h39
          cases hq : quoAt s a 39 with
          | none =>
            rw [hq] at e
            have hf := find_first 5 (by omega) (rst s a) z5 (by rw [e]; show (-1 : Int) ≠ 0; decide)
            rw [e] at hf
            exact bad_of s a acc h _ _ hf
          | some p =>
            rw [hq] at e
            have hp : a < p.2 := by
              unfold quoAt at hq
              obtain ⟨r, _, rfl⟩ := Option.map_eq_some_iff.1 hq
              simp only; omega
            have hf := find_first 5 (by omega) (rst s a) z5 (by rw [e]; show ((p.2 - a : Nat) : Int) ≠ 0; omega)
            rw [e] at hf
            exact ok_of s a acc h 3 _ _ _ (by omega) (by decide) hf
        · rw [if_neg h39]
          have z6 := upto_succ z5 (r45_no 39 3 s a h h39)
          by_cases h36 : s[a] = 36
          · rw [if_pos h36]
            rcases tagAt_cases s a h with ht | ⟨t1, t2, t3⟩
            · rw [if_neg (by omega)]
              have z8 := upto_succ (upto_succ z6 (r6_no s a h (.inr ht))) (r7_no s a h hd2)
              by_cases hp : rowL digB (s.data.toList.drop (a + 1)) = 0
              · rw [if_pos hp]
                have z10 := upto_succ (upto_succ z8 (r8_no s a h (.inr hp))) (r9_no s a h (by rw [h36]; decide))
                exact none_of s a acc h (find_none _ z10)
              · rw [if_neg hp]
                have e := r8_yes s a h h36 hp
                have hf := find_first 8 (by omega) (rst s a) z8 (by rw [e]; show ((1 + rowL digB (s.data.toList.drop (a + 1)) : Nat) : Int) ≠ 0; omega)
                rw [e] at hf
                exact ok_of s a acc h 5 _ _ _ (by omega) (by decide) hf
            · rw [if_pos (by omega)]
              have e := r6_yes s a h h36 _ t3 (by omega) t2
              cases hq : dolAt s a (tagAt s a).toNat with
              | none =>
                rw [hq] at e
                have hf := find_first 6 (by omega) (rst s a) z6 (by rw [e]; show (-1 : Int) ≠ 0; decide)
                rw [e] at hf
                exact bad_of s a acc h _ _ hf
              | some p =>
                rw [hq] at e
                have hp : a < p.2 := by
                  unfold dolAt at hq
                  split at hq
                  · cases hq; simp only; omega
                  · cases hq
                have hf := find_first 6 (by omega) (rst s a) z6 (by rw [e]; show ((p.2 - a : Nat) : Int) ≠ 0; omega)
                rw [e] at hf
                exact ok_of s a acc h 3 _ _ _ (by omega) (by decide) hf
          · rw [if_neg h36]
            have z9 := upto_succ (upto_succ (upto_succ z6 (r6_no s a h (.inl h36))) (r7_no s a h hd2)) (r8_no s a h (.inl h36))
            by_cases hg : signI s[a] < 0
            · rw [if_pos hg]
              exact none_of s a acc h (find_none _ (upto_succ z9 (r9_no s a h hg)))
            · rw [if_neg hg]
              have e := r9_yes s a h hg
              have hf := find_first 9 (by omega) (rst s a) z9 (by rw [e]; show (1 : Int) ≠ 0; decide)
              rw [e] at hf
              exact ok_of s a acc h 5 _ _ 1 rfl (by decide) hf
end Go.Proofs.YtgnpkpboilnijaaGreatDoor
namespace Go.Proofs.YtgnpkpboilnijaaGreatDoor
open Go.ChangeShapes Go.WideShapes Go.ChangeAt Go.RowKit
set_option maxRecDepth 100000
set_option linter.unusedVariables false
set_option linter.unusedSimpArgs false

theorem TR.block {w : World} {h : Nat} {l : List Tok} {T : TypeId} (hb : w.heap[h]? = some (.cells (tokRow l).toArray T (0, 0))) : TR w (.slice (some ⟨h, 0, none⟩) l.length l.length) l := by
  refine .inr ⟨h, 0, l.length, rfl, Nat.le_refl _, fun i t hi => ?_⟩
  obtain ⟨a, b, c⟩ := tokRow_get l i t hi
  simp only [Nat.zero_add]
  refine ⟨?_, ?_, ?_⟩ <;> rw [Lib.cell_of_heap hb] <;> simpa using (by assumption)
theorem TR.inv {w : World} {v : Value} {l : List Tok} (h : TR w v l) (n : Nat) (hn : l.length = n) (hp : 0 < n) : ∃ g off cap, v = .slice (some ⟨g, off, none⟩) n cap ∧ n ≤ cap ∧ ∀ (i : Nat) (t : Tok), l[i]? = some t →
    w.cell? ⟨g, off + i * 3, none⟩ = some (.int .i64 t.1) ∧ w.cell? ⟨g, off + i * 3 + 1, none⟩ = some (.string t.2.1) ∧ w.cell? ⟨g, off + i * 3 + 2, none⟩ = some (.int .i64 t.2.2) := by
  subst hn
  rcases h with ⟨A, cap, _, rfl⟩ | ⟨g, off, cap, e, hc, hx⟩
  · simp at hp
  · exact ⟨g, off, cap, e, hc, hx⟩
def ScanQ (w : World) (v : Value) (r : List Tok) (w' : World) : Prop := TR w' v r ∧ Below w.heap.size w w'
theorem scan_out (s : ByteArray) (r : List Tok × Int × Int) (e : scanA s = r) (m : Int) (w : World) (hm : Wd m w) :
    Calls Tryz.prog 19 #[.string s] w fun e w' => ∃ v, e = .returned (.tuple #[v, .int .i64 r.2.1, .int .i64 r.2.2]) ∧ ScanQ w v r.1 w' := by
  subst e
  exact (scan_any s m w hm).mono fun e w' ⟨v, h1, h2, h3⟩ => ⟨v, h1, TR.own h2, h3⟩
theorem want_block (w : World) : (w.alloc (.cells #[.int .i64 1, .string ⟨#[115, 101, 108, 101, 99, 116]⟩, .int .i64 0, .int .i64 1, .string ⟨#[97, 36, 49]⟩, .int .i64 0, .int .i64 1, .string ⟨#[102, 114, 111, 109]⟩, .int .i64 0, .int .i64 2, .string ⟨#[84, 34, 120]⟩, .int .i64 0, .int .i64 5, .string ⟨#[44]⟩, .int .i64 0, .int .i64 3, .string ⟨#[105, 116, 39, 115]⟩, .int .i64 0, .int .i64 5, .string ⟨#[36, 49]⟩, .int .i64 0] 35)).heap[w.heap.size]? = some (.cells (tokRow knW).toArray 35 (0, 0)) := by
  show (w.heap.push _)[w.heap.size]? = _
  rw [Array.getElem?_push_size]
  rfl
theorem Wd.drewN {m : Int} {w : World} (h : Wd m w) (n : Nat) : Wd m (w.drewN n) := by unfold Wd at *; simpa [go_sem] using h
theorem show_k (v : Value) (m : Int) (w : World) (h : TR w v knL) (hm : Wd m w) :
    Calls Tryz.prog 23 #[v] w fun e w' => e = .returned (.string ⟨#[115, 101, 108, 101, 99, 116, 32, 97, 36, 49, 32, 102, 114, 111, 109, 32, 34, 84, 34, 34, 120, 34, 32, 44, 32, 39, 105, 116, 39, 39, 115, 39, 32, 36, 49]⟩) ∧ Below w.heap.size w w' := by
  have := show_any v knL m w (by decide) kn_small h hm
  rw [show (⟨(showL knL).toArray⟩ : ByteArray) = _ from kns_eq] at this
  exact this
theorem two_block (w : World) : (w.alloc (.cells #[.int .i64 5, .string ⟨#[59]⟩, .int .i64 0, .int .i64 1, .string ⟨#[97]⟩, .int .i64 0] 35)).heap[w.heap.size]? = some (.cells (tokRow [(5, ⟨#[59]⟩, 0), (1, ⟨#[97]⟩, 0)]).toArray 35 (0, 0)) := by
  show (w.heap.push _)[w.heap.size]? = _
  rw [Array.getElem?_push_size]
  rfl
end Go.Proofs.YtgnpkpboilnijaaGreatDoor
namespace Go.Proofs.YtgnpkpboilnijaaGreatDoor
open Go.ChangeShapes Go.WideShapes Go.ChangeAt Go.RowKit
set_option maxRecDepth 100000
set_option linter.unusedVariables false
set_option linter.unusedSimpArgs false

/-- what holds while the document's Scan goes on -/
structure RsI (w : World) (l : List Tok) (v : Value) (wr : World) : Prop where
  bel : Below w.heap.size w wr
  row : wr.ownsRow w.heap.size 35 3 v l.length (tokRow l)
theorem RsI.step {w wr w2 : World} {l : List Tok} {v : Value} (h : RsI w l v wr) (b : Below wr.heap.size wr w2) : RsI w l v w2 :=
  ⟨h.bel.trans (b.mono h.bel.size), ownsRow_below h.row b⟩
theorem RsI.more {w wr w2 : World} {l : List Tok} {v v2 : Value} (h : RsI w l v wr) (t : Tok) (g : wr.grownBy w2 v.ownBlock)
    (r : w2.ownsRow w.heap.size 35 3 v2 (l.length + 1) (tokRow l ++ tokCells t)) : RsI w (l ++ [t]) v2 w2 :=
  ⟨h.bel.grown g h.bel.size (fun k hk => (World.ownsRow.lt h.row k hk).1), by rw [List.length_append, show tokRow (l ++ [t]) = tokRow l ++ tokCells t by simp [tokRow]]; exact r⟩
def ScanT (w : World) (r : List Tok × Int × Int) (e : Ending) (w' : World) : Prop := ∃ v, e = .returned (.tuple #[v, .int .i64 r.2.1, .int .i64 r.2.2]) ∧ ScanQ w v r.1 w'
set_option maxHeartbeats 2000000 in
set_option maxRecDepth 100000 in
theorem rscan_small (s : ByteArray) (w : World) (hs : s.size ≤ 2000) (R : List Tok × Int × Int) (hR : R = scanF s 0 []) :
    Calls Tryz.prog 18 #[.string s] w (ScanT w R) := by
  have hl : ¬ ((2000 : Int) < (s.size : Int)) := by omega
  obtain ⟨i30, hi30, hz30, hs30, hb30⟩ := i30_parts
  have hgap := fun a (ha : a ≤ s.size) w => rgap_any s a w (by omega) ha _ rfl
  have hgp := fun a acc (ha : a ≤ s.size) => scan_gap s acc (s.size - a) (s.size + 1) a (Nat.le_refl _) (by omega) ha
  have HGP := Lib.hid hgp
  have hg0 := hgap 0 (Nat.zero_le _)
  have h0 := hgp 0 [] (Nat.zero_le _)
  rw [← hR] at h0
  generalize gapN (s.size + 1) s 0 = G at *
  obtain ⟨a0, b0⟩ := G
  have HG0 := Lib.hid hg0
  have H0 := Lib.hid h0
  have HGAP := Lib.hid hgap
  clear hgap hgp hg0 h0 hR
  go_enter Tryz.func18, Tryz.ntmps18
  have hg0' : ∀ w, Calls Tryz.prog 29 #[.string s, .int .i64 0] w fun e w' => e = .returned (.tuple #[.int .i64 (a0 : Int), .bool b0]) ∧ w' = w := HG0.out
  have HG1 := Lib.hid hg0'
  clear hg0'
  go_wp2_with (go_at_call 29; (with_reducible refine (HG1.out _).mono ?_); rintro e w1 ⟨rfl, hw1⟩; obtain rfl := hw1.symm)
  go_loopg [5, 6, 7] s.size (fun g u5 u6 u7 wx => ∃ (a : Nat) (bd : Bool) (l : List Tok), u6 = .int .i64 (a : Int) ∧ u7 = .bool bd ∧ a ≤ s.size ∧ s.size - a ≤ g ∧ l.length ≤ a ∧ RsI w l u5 wx ∧
    R = (if bd = true then ([], 6, (a : Int)) else scanF s a l) ∧ (bd = false → a < s.size → Solid s a))
  case atStart =>
    obtain ⟨q1, q2, q3, q4⟩ := H0.out
    exact ⟨a0, b0, [], rfl, rfl, q3, by omega, Nat.zero_le _, ⟨Below.refl _ _, World.ownsRow_nil _ _ _ _⟩, q1, q4⟩
  case round =>
    obtain ⟨a, bd, l, rfl, rfl, ha, hg, hla, hI, hv, hso⟩ := hrel
    clear HG0 HG1 H0
    have HI := Lib.hid hI
    clear hI
    cases bd with
    | true =>
      have hv2 : R = ([], 6, (a : Int)) := by rw [hv, if_pos rfl]
      have HV := Lib.hid hv2
      clear hv hso hv2
      by_cases hlt : (a : Int) < (s.size : Int)
      · go_wp2
        go_ret3
        rw [HV.out]
        exact ⟨_, rfl, .inl ⟨_, _, rfl, rfl⟩, HI.out.bel⟩
      · go_wp2
        go_ret3
        rw [HV.out]
        exact ⟨_, rfl, .inl ⟨_, _, rfl, rfl⟩, HI.out.bel⟩
    | false =>
      have hv2 : R = scanF s a l := by rw [hv, if_neg (by decide)]
      by_cases hlt : a < s.size
      · obtain ⟨g, rfl⟩ : ∃ g, gk = g + 1 := ⟨gk - 1, by omega⟩
        have l1 : (a : Int) < (s.size : Int) := by omega
        obtain ⟨o1, o2⟩ := scan_one s a l (hso rfl hlt)
        rw [← hv2] at o1
        have hone := fun w => rone_any s a hlt w (by omega)
        generalize oneP s a = r at *
        obtain ⟨⟨k, t, p⟩, b, er⟩ := r
        simp only at o1 o2
        have hone2 : ∀ w, Calls Tryz.prog 30 #[.string s, .int .i64 (a : Int)] w fun e w' => e = .returned (.tuple #[.agg #[.int .i64 k, .string t, .int .i64 p], .int .i64 (b : Int), .int .i64 er]) ∧ Below w.heap.size w w' := hone
        have HONE := Lib.hid hone2
        clear hone hone2 hv hv2 hso
        by_cases he : er = 0
        · subst he
          rw [if_pos rfl] at o1
          obtain ⟨ob1, ob2⟩ := o2 rfl
          have hga := HGAP.out b ob2
          have hgp := HGP.out b (l ++ [(k, t, p)]) ob2
          rw [← o1] at hgp
          generalize gapN (s.size + 1) s b = G at *
          obtain ⟨a2, b2⟩ := G
          have hga' : ∀ w, Calls Tryz.prog 29 #[.string s, .int .i64 (b : Int)] w fun e w' => e = .returned (.tuple #[.int .i64 (a2 : Int), .bool b2]) ∧ w' = w := hga
          have HGA := Lib.hid hga'
          have HGQ := Lib.hid hgp
          have HOB := Lib.hid (And.intro ob1 ob2)
          clear o1 o2 hga hga' hgp ob1 ob2
          go_wp2_with (first
            | (go_at_call 30; (with_reducible refine (HONE.out _).mono ?_); rintro e w2 ⟨rfl, hb2⟩; have HI3 := Lib.hid (HI.out.step hb2); clear hb2)
            | (go_at_call 29; (with_reducible refine (HGA.out _).mono ?_); rintro e w1 ⟨rfl, hw1⟩; obtain rfl := hw1.symm)
            | (at_builtin; go_must (
               refine wpList_append_own_wide _ rfl _ _ 22 rfl w.heap.size 35 i30 (.agg #[.int .i64 0, .string ByteArray.empty, .int .i64 0]) 3 32 und23 hi30 hz30 hs30 hb30 rfl (by decide) u5 l.length (tokRow l) rfl ((HI3.out.row.alloc _).alloc _) ⟨w2.heap.size + 1, 0, none⟩ 1 1 (tokCells (k, t, p)) rfl rfl ?c1 ?c2 ?c3 ?c4 ?c5 ?_
               case c1 => exact tok_cells2 w2 _ (k, t, p)
               case c2 => exact tok_one _
               case c3 => unfold maxLen; omega
               case c4 => omega
               case c5 => have := HI3.out.bel.size; simp; omega
               intro v9 w9 hown9 hgr9 _)))
          have HI4 := HI3.out.step (two_below w2 (.cells #[.int .i64 k, .string t, .int .i64 p] 35) (.cells #[.int .i64 k, .string t, .int .i64 p] 35))
          have HI5 := Lib.hid (HI4.more (k, t, p) hgr9 hown9)
          clear HI4
          go_roundg g
          case measure => omega
          case rel =>
            obtain ⟨q1, q2, q3, q4⟩ := HGQ.out
            exact ⟨a2, b2, l ++ [(k, t, p)], rfl, rfl, q3, by have := HOB.out; have q5 : b ≤ a2 := q2; omega, by rw [List.length_append, List.length_singleton]; have := HOB.out; have q5 : b ≤ a2 := q2; omega, HI5.out, q1, q4⟩
        · rw [if_neg he] at o1
          have he2 : (er != (0 : Int)) = true := by rw [bne_iff_ne]; exact he
          have HV := Lib.hid o1
          clear o1 o2 he
          go_wp2_with (go_at_call 30; (with_reducible refine (HONE.out _).mono ?_); rintro e w2 ⟨rfl, hb2⟩; have HI3 := Lib.hid (HI.out.step hb2); clear hb2)
          go_ret3
          rw [HV.out]
          exact ⟨_, rfl, .inl ⟨_, _, rfl, rfl⟩, HI3.out.bel.trans (((Below.refl _ _).alloc (Nat.le_refl _) _).mono HI3.out.bel.size)⟩
      · have l1 : ¬ ((a : Int) < (s.size : Int)) := by omega
        have hv3 : R = (l, 0, 0) := by rw [hv2, scanF_end s a l (by omega)]
        have HV := Lib.hid hv3
        clear hv hv2 hv3 hso
        go_wp2
        go_ret3
        rw [HV.out]
        exact ⟨_, rfl, TR.own HI.out.row, HI.out.bel⟩
theorem scanA_F (s : ByteArray) (h : s.size ≤ 2000) : scanA s = scanF s 0 [] := if_neg (by omega)
theorem rscan_any (s : ByteArray) (w : World) :
    Calls Tryz.prog 18 #[.string s] w (ScanT w (scanA s)) := by
  by_cases h : 2000 < s.size
  · have e : scanA s = ([], 2, 2000) := if_pos h
    rw [e]
    have hl : (2000 : Int) < (s.size : Int) := by omega
    clear e
    go_enter Tryz.func18, Tryz.ntmps18
    go_wp2
    go_ret3
    exact ⟨_, rfl, .inl ⟨_, _, rfl, rfl⟩, Below.refl _ _⟩
  · exact rscan_small s w (by omega) _ (scanA_F s (by omega))
end Go.Proofs.YtgnpkpboilnijaaGreatDoor
namespace Go.Proofs.YtgnpkpboilnijaaGreatDoor
open Go.ChangeShapes Go.WideShapes Go.ChangeAt Go.RowKit
set_option maxRecDepth 100000
set_option linter.unusedVariables false
set_option linter.unusedSimpArgs false

theorem scan_ind (s : ByteArray) (P : Nat → List Tok → (List Tok × Int × Int) → Prop)
    (hend : ∀ a acc, s.size ≤ a → P a acc (acc, 0, 0))
    (hgap : ∀ a b acc r, a ≤ b → b ≤ s.size → P b acc r → P a acc r)
    (hbad : ∀ (a : Nat) acc (e : Int), a ≤ s.size → e ≠ 0 → P a acc ([], e, (a : Int)))
    (htok : ∀ a acc r, Solid s a → (oneP s a).2.2 = 0 → a < (oneP s a).2.1 → (oneP s a).2.1 ≤ s.size → P (oneP s a).2.1 (acc ++ [(oneP s a).1]) r → P a acc r) :
    ∀ a acc, a ≤ s.size → P a acc (scanF s a acc) := by
  have key : ∀ n a acc, s.size - a ≤ n → a ≤ s.size → P a acc (scanF s a acc) := by
    intro n
    induction n with
    | zero =>
      intro a acc hn ha
      rw [scanF_end s a acc (by omega)]
      exact hend a acc (by omega)
    | succ n ih =>
      intro a acc hn ha
      obtain ⟨g1, g2, g3, g4⟩ := scan_gap s acc (s.size - a) (s.size + 1) a (Nat.le_refl _) (by omega) ha
      rw [g1]
      refine hgap a _ acc _ g2 g3 ?_
      cases hb : (gapN (s.size + 1) s a).2 with
      | true => rw [if_pos rfl]; exact hbad _ acc 6 g3 (by decide)
      | false =>
        rw [if_neg (by decide)]
        by_cases hlt : (gapN (s.size + 1) s a).1 < s.size
        · have hS := g4 hb hlt
          obtain ⟨o1, o2⟩ := scan_one s _ acc hS
          rw [o1]
          by_cases he : (oneP s (gapN (s.size + 1) s a).1).2.2 = 0
          · rw [if_pos he]
            obtain ⟨o3, o4⟩ := o2 he
            exact htok _ acc _ hS he o3 o4 (ih _ _ (by omega) o4)
          · rw [if_neg he]; exact hbad _ acc _ g3 he
        · rw [scanF_end s _ acc (by omega)]
          exact hend _ acc (by omega)
  exact fun a acc ha => key (s.size - a) a acc (Nat.le_refl _) ha
theorem scan_count (s : ByteArray) (a : Nat) (acc : List Tok) (ha : a ≤ s.size) : (scanF s a acc).1.length ≤ acc.length + (s.size - a) :=
  scan_ind s (fun a acc r => r.1.length ≤ acc.length + (s.size - a)) (fun a acc h => by simp only; omega) (fun a b acc r h1 h2 h3 => by omega) (fun a acc e h1 h2 => by simp only [List.length_nil]; omega)
    (fun a acc r hS he h1 h2 h3 => by rw [List.length_append, List.length_singleton] at h3; omega) a acc ha
theorem scanA_count (s : ByteArray) : (scanA s).1.length ≤ 2000 := by
  by_cases h : 2000 < s.size
  · have e : scanA s = ([], 2, 2000) := if_pos h
    rw [e]; exact Nat.zero_le _
  · rw [scanA_F s (by omega)]
    have := scan_count s 0 [] (Nat.zero_le _)
    simp only [List.length_nil] at this
    omega
theorem betL_txt (q : UInt8) (l : Tx) : ∀ p, betL q l = some p → p.1.length ≤ p.2 := by
  intro p
  induction hn : l.length using Nat.strongRecOn generalizing l p with
  | _ n ih =>
    intro h
    cases l with
    | nil => cases h
    | cons c r =>
      rw [betL_cons] at h
      split at h
      · cases r with
        | nil => simp at h; subst h; simp
        | cons d r2 =>
          simp only at h
          split at h
          · rw [Option.map_eq_some_iff] at h
            obtain ⟨k, hk, rfl⟩ := h
            have := ih r2.length (by simp at hn; omega) r2 k rfl hk
            simp; omega
          · simp at h; subst h; simp
      · rw [Option.map_eq_some_iff] at h
        obtain ⟨k, hk, rfl⟩ := h
        have := ih r.length (by simp at hn; omega) r k rfl hk
        simp; omega
theorem ext_size_le (s : ByteArray) (a b : Nat) : (s.extract a b).size ≤ s.size := by rw [ByteArray.size_extract]; omega
theorem small_size (s : ByteArray) : (smallA s).size = s.size := by
  unfold smallA
  show (s.data.toList.map lowB).toArray.size = _
  rw [List.size_toArray, List.length_map]; rfl
theorem quo_txt (s : ByteArray) (a : Nat) (q : UInt8) (p : Tx × Nat) (h : quoAt s a q = some p) : (bb p.1).size ≤ s.size := by
  unfold quoAt at h
  obtain ⟨r, hr, rfl⟩ := Option.map_eq_some_iff.1 h
  have h1 := betL_txt q _ r hr
  have h2 := betL_le q _ r hr
  rw [List.length_drop] at h2
  rw [bb_size]
  have e : s.size = s.data.toList.length := rfl
  simp only; omega
theorem one_txt (s : ByteArray) (a : Nat) : (oneP s a).1.2.1.size ≤ s.size := by
  unfold oneP
  simp only
  have h0 : (⟨#[]⟩ : ByteArray).size ≤ s.size := Nat.zero_le _
  split
  · simp only; rw [small_size]; exact ext_size_le _ _ _
  · split
    · exact ext_size_le _ _ _
    · split
      · cases hq : quoAt s a 34 with
        | none => exact h0
        | some p => exact quo_txt s a 34 p hq
      · split
        · cases hq : quoAt s a 39 with
          | none => exact h0
          | some p => exact quo_txt s a 39 p hq
        · split
          · split
            · cases hq : dolAt s a (tagAt s a).toNat with
              | none => exact h0
              | some p =>
                unfold dolAt at hq
                split at hq
                · cases hq
                  simp only
                  rw [bb_size, List.length_take, List.length_drop]
                  have e : s.size = s.data.toList.length := rfl
                  omega
                · cases hq
            · split
              · exact h0
              · exact ext_size_le _ _ _
          · split
            · exact h0
            · exact ext_size_le _ _ _
theorem scan_txt (s : ByteArray) (a : Nat) (acc : List Tok) (ha : a ≤ s.size) (h : ∀ t ∈ acc, t.2.1.size ≤ s.size) : ∀ t ∈ (scanF s a acc).1, t.2.1.size ≤ s.size :=
  scan_ind s (fun a acc r => (∀ t ∈ acc, t.2.1.size ≤ s.size) → ∀ t ∈ r.1, t.2.1.size ≤ s.size) (fun a acc h h2 => h2) (fun a b acc r h1 h2 h3 => h3) (fun a acc e h1 h2 h3 t ht => by cases ht)
    (fun a acc r hS he h1 h2 h3 h4 => h3 fun t ht => by
      rcases List.mem_append.1 ht with ht | ht
      · exact h4 t ht
      · simp at ht; subst ht; exact one_txt s a) a acc ha h
theorem scanA_txt (s : ByteArray) : ∀ t ∈ (scanA s).1, t.2.1.size ≤ 2000 := by
  by_cases h : 2000 < s.size
  · have e : scanA s = ([], 2, 2000) := if_pos h
    rw [e]; intro t ht; cases ht
  · rw [scanA_F s (by omega)]
    intro t ht
    have := scan_txt s 0 [] (Nat.zero_le _) (fun t ht => by cases ht) t ht
    omega
end Go.Proofs.YtgnpkpboilnijaaGreatDoor
