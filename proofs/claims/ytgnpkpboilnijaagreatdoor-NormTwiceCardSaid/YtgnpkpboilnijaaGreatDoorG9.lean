/- What strings.Builder's WriteByte and WriteString do at this translation (its copy check's panic is not carried here). After the shelf's own forms. Condition: none but the builder's limit.
   Tokens as text in plain words; what package lexer's quote and shown answer. Conditions: the word of bytealg, a text's length. -/
import Derived.Test.YtgnpkpboilnijaaGreatDoorG8
import Derived.Lib.Builder
import Derived.Lib.OthersKept
import Derived.Lib.AppendStr
import Derived.WalkKit
import Derived.Shelf.Strings.Builder1
import Derived.Test.YtgnpkpboilnijaaGreatDoorShelf
import Derived.Test.YtgnpkpboilnijaaGreatDoorG7
import Derived.Lib.ReplaceLaws
import Derived.Lib.SplitLaws
set_option linter.unusedSimpArgs false
set_option linter.unusedVariables false
namespace Go.Proofs.YtgnpkpboilnijaaGreatDoor
open Go.ChangeShapes Go.WideShapes Go.ChangeAt Go.RowKit
set_option maxRecDepth 100000
set_option linter.unusedVariables false
set_option linter.unusedSimpArgs false

abbrev IsB (B b : Nat) (l : Tx) (w : World) : Prop := Lib.IsBuilder 60 5 B b (Lib.byteCells l) w
abbrev AtB (B b : Nat) (l : Tx) (w : World) : Prop := Lib.BuilderAt 60 5 B b (.pointer (some ⟨b, 0, none⟩)) (Lib.byteCells l) w
theorem b_info : (Tryz.prog.info? 60).map (·.size) = some 2 := by kernel_rfl
theorem b_lies : liesAt Tryz.prog Tryz.prog.depth 60 (2 / Tryz.prog.cellsOf 60) 0 60 1 = true := by kernel_rfl
theorem by_info : (Tryz.prog.info? 5).map (fun i => (i.zero, i.size, i.bytes)) = some (some (.int .u8 0), 1, 1) := by kernel_rfl
set_option maxHeartbeats 1000000 in
theorem check_used (b : Nat) (w : World) (h0 : w.cell? ⟨b, 0, none⟩ = some (.pointer (some ⟨b, 0, none⟩))) :
    Calls Tryz.prog 68 #[.pointer (some ⟨b, 0, none⟩)] w fun e w' => e = .returned (.tuple #[]) ∧ w' = w := by
  obtain ⟨j, hj, _⟩ := Option.map_eq_some_iff.1 b_info
  go_enter Tryz.func68, Tryz.ntmps68
  go_wp2
  rw [Lib.run_neq_ptr_same w _ Tryz.underlying57 hj]
  go_wp2
  go_end0
  exact ⟨rfl, rfl⟩
set_option maxHeartbeats 1000000 in
theorem check_fresh (b : Nat) (w : World) (h0 : w.cell? ⟨b, 0, none⟩ = some (.pointer none)) (hsh : w.shape? b = some (60, 2)) (hfz : w.frozen? ⟨b, 0, none⟩ = false) :
    Calls Tryz.prog 68 #[.pointer (some ⟨b, 0, none⟩)] w fun e w' => e = .returned (.tuple #[]) ∧ w' = w.setCell ⟨b, 0, none⟩ (.pointer (some ⟨b, 0, none⟩)) := by
  obtain ⟨j, hj, hjs⟩ := Option.map_eq_some_iff.1 b_info
  go_enter Tryz.func68, Tryz.ntmps68
  go_wp2
  rw [Lib.run_to_unsafe w ⟨b, 0, none⟩ Tryz.underlying57 Tryz.underlying95 hj (by rw [hjs]; decide) hsh (Nat.zero_lt_succ 1)]
  simp only [Result.andThen]
  rw [Oper.upon_value]
  go_wp2
  rw [run_callFunc_extern Tryz.func93 (by kernel_rfl) (by kernel_rfl) (by kernel_rfl) (e := Extern.AbiNoEscape.same) (by kernel_rfl)]
  rw [Lib.run_noEscape]
  simp only [Result.andThen]
  rw [Oper.upon_value]
  go_wp2
  rw [Lib.run_from_unsafe w ⟨b, 0, none⟩ Tryz.underlying95 Tryz.underlying57 hj hsh b_lies]
  simp only [Result.andThen]
  rw [Oper.upon_value]
  go_wp2
  go_end0
  exact ⟨rfl, rfl⟩
theorem check_any (B b : Nat) (l : Tx) (w : World) (h : IsB B b l w) :
    Calls Tryz.prog 68 #[.pointer (some ⟨b, 0, none⟩)] w fun e w' => e = .returned (.tuple #[]) ∧ (AtB B b l w' ∧ Below B w w' ∧ Lib.OthersKept 5 (some b) w w') := by
  rcases h with h | h
  · refine (check_fresh b w h.cell0 h.shape h.frozen0).mono ?_
    rintro e w' ⟨rfl, rfl⟩
    exact ⟨rfl, h.used _, (Below.refl B w).setCell (p := ⟨b, 0, none⟩) h.1 _, (Lib.OthersKept.refl _ _ w).setCell ⟨b, 0, none⟩ rfl _⟩
  · refine (check_used b w h.cell0).mono ?_
    rintro e w' ⟨rfl, rfl⟩
    exact ⟨rfl, h, Below.refl B _, Lib.OthersKept.refl _ _ _⟩
set_option maxHeartbeats 2000000 in
set_option maxRecDepth 100000 in
theorem wbyte_any (B b : Nat) (l : Tx) (c : UInt8) (w : World) (h : IsB B b l w) (hlen : l.length + 1 ≤ 140737488355328) (hBw : B ≤ w.heap.size) :
    Calls Tryz.prog 35 #[.pointer (some ⟨b, 0, none⟩), .int .u8 (c.toNat : Int)] w fun e w' => e = .returned .nilIface ∧ (AtB B b (l ++ [c]) w' ∧ Below B w w' ∧ Lib.OthersKept 5 (some b) w w') := by
  obtain ⟨i0, hi, hz0, hz1, hz2⟩ := info_parts by_info
  have HLN := Lib.hid hlen
  clear hlen
  go_enter Tryz.func35, Tryz.ntmps35
  go_wp2_with (go_at_call 68; (with_reducible refine (check_any B b l _ h).mono ?_))
  rintro e w1 ⟨rfl, h1, hb1, hk1⟩
  obtain ⟨hB, v, hbk, hown, hne⟩ := h1
  have c0 : w1.cell? ⟨b, 0, none⟩ = some (.pointer (some ⟨b, 0, none⟩)) := by rw [Lib.cell_of_heap hbk]; rfl
  have c1 : w1.cell? ⟨b, 1, none⟩ = some v := by rw [Lib.cell_of_heap hbk]; rfl
  have hlt : b < w1.heap.size := by
    rcases Nat.lt_or_ge b w1.heap.size with h' | h'
    · exact h'
    · simp [Array.getElem?_eq_none h'] at hbk
  go_wp2_with (at_builtin; refine wpList_append_own _ rfl _ _ 58 rfl B 5 i0 (.int .u8 0) 1 1 Tryz.underlying58 hi hz0 hz1 hz2 rfl (by decide) _ _ _ rfl (hown.alloc _) ⟨w1.heap.size, 0, none⟩ 1 1 [.int .u8 (c.toNat : Int)] rfl rfl ?c1 ?c2 ?c3 ?c4 ?c5 ?_)
  case c1 =>
    intro j u hj
    match j, hj with
    | 0, hj => simp at hj; subst hj; simp [Addr.add]
  case c2 => intro u hu; simp at hu; subst hu; rfl
  case c3 => have := HLN.out; rw [Lib.byteCells_length]; unfold maxLen; omega
  case c4 => have := HLN.out; have hbl := Lib.byteCells_length l; omega
  case c5 => have := hb1.size; simp; omega
  intro v' w2 hown' hgrow _
  have hb2 : w2.heap[b]? = some (.cells #[.pointer (some ⟨b, 0, none⟩), v] 60 (0, 0)) := by
    rw [hgrow.block b (by simp; omega) (fun e => hne e.symm), Lib.alloc_old w1 _ b hlt]; exact hbk
  have d0 : w2.cell? ⟨b, 0, none⟩ = some (.pointer (some ⟨b, 0, none⟩)) := by rw [Lib.cell_of_heap hb2]; rfl
  have d1 : w2.cell? ⟨b, 1, none⟩ = some v := by rw [Lib.cell_of_heap hb2]; rfl
  have f1 : w2.frozen? ⟨b, 1, none⟩ = false := Lib.frozen_of_heap hb2 1
  obtain ⟨ao, n', cap, rfl⟩ : ∃ ao n' cap, v' = .slice ao n' cap := by
    rcases hown'.2 with ⟨hv, _⟩ | ⟨g, cap, cur, hv, _⟩
    · exact ⟨_, _, _, hv⟩
    · exact ⟨_, _, _, hv⟩
  go_wp2
  go_ret
  have e2 : Lib.byteCells (l ++ [c]) = Lib.byteCells l ++ [.int .u8 (c.toNat : Int)] := by simp [Lib.byteCells]
  refine ⟨rfl, ?_, ?_, ((hk1.alloc _).grown hgrow (Lib.ownsRowF_kind (World.ownsRowF_of (hown.alloc _)))).setCell ⟨b, 1, none⟩ rfl _⟩
  · exact Lib.BuilderAt.put (T := 60) (e := 5) hB hb2 (bs' := Lib.byteCells (l ++ [c])) (by rw [e2]; simpa using hown') (by decide)
  · exact ((hb1.alloc (by have := hb1.size; omega) _).grown hgrow (by have := hb1.size; simp; omega) (fun k hk => (hown.lt k hk).1)).setCell (p := ⟨b, 1, none⟩) hB _
set_option maxHeartbeats 2000000 in
set_option maxRecDepth 100000 in
theorem wstr_any (B b : Nat) (l : Tx) (s : ByteArray) (w : World) (h : IsB B b l w) (hlen : l.length + s.size ≤ 140737488355328) (hBw : B ≤ w.heap.size) :
    Calls Tryz.prog 36 #[.pointer (some ⟨b, 0, none⟩), .string s] w fun e w' => e = .returned (.tuple #[.int .i64 s.size, .nilIface]) ∧ (AtB B b (l ++ s.data.toList) w' ∧ Below B w w' ∧ Lib.OthersKept 5 (some b) w w') := by
  obtain ⟨i0, hi, hz0, hz1, hz2⟩ := info_parts by_info
  have HLN := Lib.hid hlen
  clear hlen
  go_enter Tryz.func36, Tryz.ntmps36
  go_wp2_with (go_at_call 68; (with_reducible refine (check_any B b l _ h).mono ?_))
  rintro e w1 ⟨rfl, h1, hb1, hk1⟩
  obtain ⟨hB, v, hbk, hown, hne⟩ := h1
  have c0 : w1.cell? ⟨b, 0, none⟩ = some (.pointer (some ⟨b, 0, none⟩)) := by rw [Lib.cell_of_heap hbk]; rfl
  have c1 : w1.cell? ⟨b, 1, none⟩ = some v := by rw [Lib.cell_of_heap hbk]; rfl
  have hlt : b < w1.heap.size := by
    rcases Nat.lt_or_ge b w1.heap.size with h' | h'
    · exact h'
    · simp [Array.getElem?_eq_none h'] at hbk
  go_wp2_with (at_builtin; refine Lib.wpList_append_own_string _ rfl _ _ 58 9 rfl B 5 i0 Tryz.underlying58 Tryz.underlying9 hi hz0 hz1 hz2 _ _ _ rfl hown s rfl ?c3 ?c4 ?c5 ?_)
  case c3 => have := HLN.out; rw [Lib.byteCells_length]; unfold maxLen; omega
  case c4 => have := HLN.out; have hbl := Lib.byteCells_length l; omega
  case c5 => have := hb1.size; omega
  intro v' w2 hown' hgrow _
  have hb2 : w2.heap[b]? = some (.cells #[.pointer (some ⟨b, 0, none⟩), v] 60 (0, 0)) := by
    rw [hgrow.block b hlt (fun e => hne e.symm)]; exact hbk
  have d0 : w2.cell? ⟨b, 0, none⟩ = some (.pointer (some ⟨b, 0, none⟩)) := by rw [Lib.cell_of_heap hb2]; rfl
  have d1 : w2.cell? ⟨b, 1, none⟩ = some v := by rw [Lib.cell_of_heap hb2]; rfl
  have f1 : w2.frozen? ⟨b, 1, none⟩ = false := Lib.frozen_of_heap hb2 1
  obtain ⟨ao, n', cap, rfl⟩ : ∃ ao n' cap, v' = .slice ao n' cap := by
    rcases hown'.2 with ⟨hv, _⟩ | ⟨g, cap, cur, hv, _⟩
    · exact ⟨_, _, _, hv⟩
    · exact ⟨_, _, _, hv⟩
  go_wp2
  go_ret2
  have e2 : Lib.byteCells (l ++ s.data.toList) = Lib.byteCells l ++ Lib.strCells s := by simp [Lib.byteCells, Lib.strCells]
  refine ⟨rfl, ?_, ?_, (hk1.grown hgrow (Lib.ownsRowF_kind (World.ownsRowF_of hown))).setCell ⟨b, 1, none⟩ rfl _⟩
  · exact Lib.BuilderAt.put (T := 60) (e := 5) hB hb2 (bs' := Lib.byteCells (l ++ s.data.toList)) (by rw [e2]; simpa [Lib.strCells_length] using hown') (by decide)
  · exact (hb1.grown hgrow (by have := hb1.size; omega) (fun k hk => (hown.lt k hk).1)).setCell (p := ⟨b, 1, none⟩) hB _
end Go.Proofs.YtgnpkpboilnijaaGreatDoor
namespace Go.Proofs.YtgnpkpboilnijaaGreatDoor
open Go.ChangeShapes Go.WideShapes Go.ChangeAt Go.RowKit
set_option maxRecDepth 100000
set_option linter.unusedVariables false
set_option linter.unusedSimpArgs false

/-- each q doubled -/
def dblL (q : UInt8) (l : Tx) : Tx := l.flatMap fun c => if c = q then [q, q] else [c]
theorem dbl_size (q : UInt8) (l : Tx) : (dblL q l).length ≤ 2 * l.length := by
  induction l with
  | nil => simp [dblL]
  | cons c r ih =>
    have e : dblL q (c :: r) = (if c = q then [q, q] else [c]) ++ dblL q r := by simp [dblL]
    rw [e, List.length_append, List.length_cons]
    have : (if c = q then [q, q] else [c]).length ≤ 2 := by split <;> simp
    omega
theorem rep_dbl (q : UInt8) : ∀ (l : Tx) (k : Nat), k = l.count q → Lib.replaceK [q] [q, q] k l = dblL q l := by
  intro l
  induction l with
  | nil => intro k hk; simp at hk; subst hk; rfl
  | cons c r ih =>
    intro k hk
    have e : dblL q (c :: r) = (if c = q then [q, q] else [c]) ++ dblL q r := by simp [dblL]
    rw [e]
    by_cases hc : c = q
    · subst hc
      rw [if_pos rfl]
      rw [List.count_cons_self] at hk
      subst hk
      rw [Lib.replaceK_hit [c] [c, c] _ (c :: r) 0 (by unfold Lib.index; simp)]
      have := ih _ rfl
      simpa using this
    · rw [if_neg hc]
      have hb : (c == q) = false := by rw [beq_eq_false_iff_ne]; exact hc
      have hqc : (q == c) = false := by rw [beq_eq_false_iff_ne]; exact fun h => hc h.symm
      rw [List.count_cons, hb] at hk
      simp only [Bool.false_eq_true, if_false, Nat.add_zero] at hk
      have ih' := ih k hk
      cases k with
      | zero => simp only [Lib.replaceK] at ih' ⊢; rw [← ih']; rfl
      | succ k =>
        obtain ⟨i, hi⟩ : ∃ i : Nat, Lib.index r [q] = i := Lib.index_of_count (by rw [Lib.count_one, ← hk]; omega)
        rw [Lib.replaceK_hit _ _ _ _ i hi] at ih'
        have hi2 : Lib.index (c :: r) [q] = ((i + 1 : Nat) : Int) := by
          unfold Lib.index
          rw [hi]
          simp [List.isPrefixOf, hqc]
          try omega
        rw [Lib.replaceK_hit _ _ _ _ (i + 1) hi2, ← ih']
        simp
theorem all_dbl (q : UInt8) (l : Tx) : Lib.replaceAll l [q] [q, q] = dblL q l := by
  unfold Lib.replaceAll Lib.replace
  rw [if_neg (by simp)]
  exact rep_dbl q l _ (by unfold Lib.replaceNum; rw [if_pos (by omega), Lib.count_one])
/-- a text in quotes -/
def quoL (q : UInt8) (l : Tx) : Tx := [q] ++ dblL q l ++ [q]
/-- a token as text -/
def shownL (t : Tok) : Tx := if t.1 = 2 then quoL 34 t.2.1.data.toList else if t.1 = 3 then quoL 39 t.2.1.data.toList else t.2.1.data.toList
theorem quo_size (q : UInt8) (l : Tx) : (quoL q l).length ≤ 2 * l.length + 2 := by
  have := dbl_size q l
  simp only [quoL, List.length_append, List.length_singleton]
  omega
theorem shown_size (t : Tok) : (shownL t).length ≤ 2 * t.2.1.size + 2 := by
  have h : t.2.1.data.toList.length = t.2.1.size := rfl
  unfold shownL
  split
  · have := quo_size 34 t.2.1.data.toList; omega
  · split
    · have := quo_size 39 t.2.1.data.toList; omega
    · omega
theorem app_one (q : UInt8) : (⟨#[q]⟩ : ByteArray) ++ (⟨#[q]⟩ : ByteArray) = ⟨#[q, q]⟩ := by apply ByteArray.ext; simp
theorem quo_eq (q : UInt8) (l : Tx) : (⟨#[q]⟩ : ByteArray) ++ ⟨(dblL q l).toArray⟩ ++ ⟨#[q]⟩ = ⟨(quoL q l).toArray⟩ := by apply ByteArray.ext; simp [quoL]
theorem rep_any (q : UInt8) (s : ByteArray) (m : Int) (w : World) (hs : s.size ≤ 1048576) (hm : Wd m w) :
    Calls Tryz.prog 94 #[.string s, .string ⟨#[q]⟩, .string ⟨#[q, q]⟩] w fun e w' => e = .returned (.string ⟨(dblL q s.data.toList).toArray⟩) ∧ Below w.heap.size w w' := by
  refine (Tryz.strings_ReplaceAll s ⟨#[q]⟩ ⟨#[q, q]⟩ m w (by omega) hm (Nat.le_refl 1) ?_).mono ?_
  · have h1 := Lib.countB_le ⟨#[q]⟩ (Nat.le_refl 1) s.size s (Nat.le_refl _)
    have h2 : (⟨#[q, q]⟩ : ByteArray).size = 2 := rfl
    rw [h2]; omega
  · rintro e w' ⟨rfl, hb⟩
    refine ⟨?_, hb⟩
    show _ = Ending.returned (.string ⟨(dblL q s.data.toList).toArray⟩)
    rw [← all_dbl]
set_option maxHeartbeats 1000000 in
theorem quote_any (q : UInt8) (s : ByteArray) (m : Int) (w : World) (hs : s.size ≤ 1048576) (hm : Wd m w) :
    Calls Tryz.prog 69 #[.string s, .string ⟨#[q]⟩] w fun e w' => e = .returned (.string ⟨(quoL q s.data.toList).toArray⟩) ∧ Below w.heap.size w w' := by
  have hc := rep_any q s m w hs hm
  have hz : (⟨(dblL q s.data.toList).toArray⟩ : ByteArray).size ≤ 2097152 := by
    have := dbl_size q s.data.toList
    have e : s.data.toList.length = s.size := rfl
    show (dblL q s.data.toList).toArray.size ≤ _
    rw [List.size_toArray]; omega
  have hq := quo_eq q s.data.toList
  have h1 : (⟨#[q]⟩ : ByteArray).size = 1 := rfl
  have h2 := app_one q
  rw [← h2] at hc
  generalize (⟨(dblL q s.data.toList).toArray⟩ : ByteArray) = D at *
  generalize (⟨(quoL q s.data.toList).toArray⟩ : ByteArray) = R at *
  subst hq
  generalize (⟨#[q]⟩ : ByteArray) = Q at *
  have HC := Lib.hid hc
  clear hc h2 hs hm
  go_enter Tryz.func69, Tryz.ntmps69
  have hQ : Q.size ≤ 2000 := by omega
  go_wp2_with (go_at_call 94; (with_reducible refine HC.out.mono ?_); rintro e w1 ⟨rfl, hb⟩)
  go_ret
  exact ⟨rfl, hb⟩
set_option maxHeartbeats 1000000 in
set_option maxRecDepth 100000 in
theorem shown_any (t : Tok) (m : Int) (w : World) (hs : t.2.1.size ≤ 1048576) (hm : Wd m w) :
    Calls Tryz.prog 37 #[.agg #[.int .i64 t.1, .string t.2.1, .int .i64 t.2.2]] w fun e w' => e = .returned (.string ⟨(shownL t).toArray⟩) ∧ Below w.heap.size w w' := by
  obtain ⟨kd, s, at_⟩ := t
  have hq := fun (q : UInt8) (w1 : World) (h1 : Wd m w1) => quote_any q s m w1 hs h1
  have HQ := Lib.hid hq
  have HM := Lib.hid hm
  clear hq hm hs
  show Calls Tryz.prog 37 #[.agg #[.int .i64 kd, .string s, .int .i64 at_]] w _
  have hb0 : Below w.heap.size w (w.alloc (.cells #[.int .i64 kd, .string s, .int .i64 at_] 35)) := (Below.refl _ _).alloc (Nat.le_refl _) _
  by_cases h2 : kd = 2
  · subst h2
    go_enter Tryz.func37, Tryz.ntmps37
    go_wp2_with (go_at_call 69; (with_reducible refine (HQ.out 34 _ (HM.out.below hb0)).mono ?_); rintro e w1 ⟨rfl, hb⟩)
    go_ret
    exact ⟨rfl, hb0.trans (hb.mono hb0.size)⟩
  · have e2 : (kd == (2 : Int)) = false := by rw [beq_eq_false_iff_ne]; exact h2
    by_cases h3 : kd = 3
    · subst h3
      go_enter Tryz.func37, Tryz.ntmps37
      go_wp2_with (go_at_call 69; (with_reducible refine (HQ.out 39 _ (HM.out.below hb0)).mono ?_); rintro e w1 ⟨rfl, hb⟩)
      go_ret
      exact ⟨rfl, hb0.trans (hb.mono hb0.size)⟩
    · have e3 : (kd == (3 : Int)) = false := by rw [beq_eq_false_iff_ne]; exact h3
      have hr : shownL (kd, s, at_) = s.data.toList := by unfold shownL; rw [if_neg h2, if_neg h3]
      rw [hr]
      have HN := Lib.hid (And.intro h2 h3)
      clear h2 h3 hr
      go_enter Tryz.func37, Tryz.ntmps37
      go_wp2
      go_ret
      exact ⟨by simp, hb0⟩
/-- what stands behind the first of some tokens -/
def tailL (l : List Tok) : Tx := l.flatMap fun t => 32 :: shownL t
/-- tokens as text -/
def showL : List Tok → Tx
  | [] => []
  | t :: r => shownL t ++ tailL r
theorem show_snoc (l : List Tok) (t : Tok) : showL (l ++ [t]) = showL l ++ (if l = [] then [] else [32]) ++ shownL t := by
  cases l with
  | nil => simp [showL, tailL]
  | cons x r => simp [showL, tailL]
theorem show_size (l : List Tok) (z : Nat) (h : ∀ t ∈ l, t.2.1.size ≤ z) : (showL l).length ≤ l.length * (2 * z + 3) := by
  have ht : ∀ r : List Tok, (∀ t ∈ r, t.2.1.size ≤ z) → (tailL r).length ≤ r.length * (2 * z + 3) := by
    intro r
    induction r with
    | nil => intro _; simp [tailL]
    | cons x r ih =>
      intro hr
      have e : tailL (x :: r) = 32 :: shownL x ++ tailL r := by simp [tailL]
      have h1 := shown_size x
      have h2 := hr x (by simp)
      have h3 := ih fun t h => hr t (by simp [h])
      rw [e, List.length_append, List.length_cons, List.length_cons, Nat.succ_mul]
      omega
  cases l with
  | nil => simp [showL]
  | cons x r =>
    have h1 := shown_size x
    have h2 := h x (by simp)
    have h3 := ht r fun t h' => h t (by simp [h'])
    rw [showL, List.length_append, List.length_cons, Nat.succ_mul]
    omega
end Go.Proofs.YtgnpkpboilnijaaGreatDoor
