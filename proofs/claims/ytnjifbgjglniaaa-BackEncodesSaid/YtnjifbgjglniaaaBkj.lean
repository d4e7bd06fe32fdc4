/- What package back's writers write: secret, setting, columns. Condition: what is told is of at most so many and so long texts (Few). -/
import Derived.Test.YtnjifbgjglniaaaBki
import Derived.Test.YtnjifbgjglniaaaBkx
import Derived.Test.YtnjifbgjglniaaaShelf
namespace Go.Proofs.Ytnjifbgjglniaaa.BK
open Go.Proofs.Ytnjifbgjglniaaa
open Go.ChangeShapes Go.WideShapes Go.ChangeAt Go.RowKit
set_option linter.unusedVariables false
set_option maxRecDepth 100000
attribute [local go_sem ↓] Go.wp_at_zero Go.wp_at_succ

theorem ownsRow_below {B : Nat} {e : TypeId} {z n : Nat} {v : Value} {xs : List Value} {w w2 : World} (h : w.ownsRow B e z v n xs) (b : Below w.heap.size w w2) : w2.ownsRow B e z v n xs := by
  refine ⟨h.1, ?_⟩
  rcases h.2 with h1 | ⟨g, cap, cur, h1, h2, h3, h4⟩
  · exact .inl h1
  · refine .inr ⟨g, cap, cur, h1, h2, ?_, h4⟩
    rw [b.block g (Array.getElem?_eq_some_iff.1 h3).1]
    exact h3
theorem isB_below {B b : Nat} {l : Tx} {w w2 : World} (h : IsB B b l w) (hb : Below w.heap.size w w2) : IsB B b l w2 := by
  have key : ∀ p, Lib.BuilderAt 65 5 B b p (Lib.byteCells l) w → Lib.BuilderAt 65 5 B b p (Lib.byteCells l) w2 := by
    rintro p h
    have hlt := h.lt
    obtain ⟨hB, v, hbk, hown, hne⟩ := h
    exact ⟨hB, v, by rw [hb.block _ hlt]; exact hbk, ownsRow_below hown hb, hne⟩
  rcases h with h | h
  · exact .inl (key _ h)
  · exact .inr (key _ h)
/-- what is being written, since w, into the builder at b; what is told lies in a box at X -/
structure Wb (w : World) (X b : Nat) (cs : Array Value) (l : Tx) (wr : World) : Prop where
  box : Blk wr X 28 cs
  bld : IsB b b l wr
  hX : w.heap.size ≤ X
  hb : X < b
  lt : b < wr.heap.size
  bel : Below w.heap.size w wr
section
variable {w : World} {X b : Nat} {cs : Array Value} {l : Tx} {wr w2 : World}
theorem Wb.step (h : Wb w X b cs l wr) (k : Below wr.heap.size wr w2) : Wb w X b cs l w2 :=
  ⟨h.box.below k h.box.lt, isB_below h.bld k, h.hX, h.hb, Nat.lt_of_lt_of_le h.lt k.size, h.bel.trans (k.mono h.bel.size)⟩
theorem Wb.write (h : Wb w X b cs l wr) (t : Tx) (hl : l.length + t.length ≤ 140737488355328) :
    Calls Try.prog 32 #[.pointer (some ⟨b, 0, none⟩), .string (ba t)] wr fun e w' => e = .returned (.tuple #[.int .i64 (ba t).size, .nilIface]) ∧ Wb w X b cs (l ++ t) w' := by
  refine (wstr_any b b l (ba t) wr h.bld (by rw [ba_size]; omega) (Nat.le_of_lt h.lt)).mono ?_
  rintro e w' ⟨rfl, h1, h2, h3⟩
  rw [ba_list] at h1
  exact ⟨rfl, h.box.below h2 h.hb, .inr h1, h.hX, h.hb, h1.lt, h.bel.trans (h2.mono (by have := h.hX; have := h.hb; omega))⟩
theorem Wb.str (h : Wb w X b cs l wr) :
    Calls Try.prog 34 #[.pointer (some ⟨b, 0, none⟩)] wr fun e w' => e = .returned (.string (ba l)) ∧ Below w.heap.size w w' := by
  refine (Try.Builder_String_any b b l wr h.bld (Nat.le_of_lt h.lt)).mono ?_
  rintro e w' ⟨rfl, h2⟩
  exact ⟨rfl, h.bel.trans (h2.mono (by have := h.hX; have := h.hb; omega))⟩
theorem Wb.cell (h : Wb w X b cs l wr) (i : Nat) : wr.cell? ⟨X, i, none⟩ = cs[i]? := h.box.cell i
end
theorem Wb.new {w w1 : World} {X : Nat} {cs : Array Value} (hX : Blk w1 X 28 cs) (h : w.heap.size ≤ X) (hb : Below w.heap.size w w1) :
    Wb w X w1.heap.size cs [] (w1.alloc (.cells #[.pointer none, .slice none 0 0] 65)) :=
  ⟨hX.alloc _, Lib.fresh_isBuilder _ _ w1, h, hX.lt, by simp, hb.alloc hb.size _⟩
/-- an element of a row that was there -/
theorem LR.at_ {w wr : World} {v : Value} {xs : List Value} (h : LR (fun b => b < w.heap.size) w v xs) (hb : Below w.heap.size w wr) {k : Nat} {x : Value} (hk : xs[k]? = some x) :
    ∃ p off cap, v = .slice (some ⟨p, off, none⟩) xs.length cap ∧ wr.cell? ⟨p, off + k, none⟩ = some x := by
  obtain ⟨p, off, cap, e, h1, h2, hp, hc⟩ := h.get (by intro e; rw [e] at hk; simp at hk)
  exact ⟨p, off, cap, e, by rw [(bcell hb).1 _ _ hp]; exact hc k x hk⟩
theorem txtsW_step (l : List Tx) (k : Nat) (h : k < l.length) : txtsW (l.take (k + 1)) = txtsW (l.take k) ++ txt l[k] := by
  have app : ∀ a b : List Tx, txtsW (a ++ b) = txtsW a ++ txtsW b := by
    intro a b
    induction a with
    | nil => rfl
    | cons t a ih => simp [txtsW, ih]
  rw [List.take_succ_eq_append_getElem h, app]; simp [txtsW]
theorem txtsW_len (l : List Tx) (h : ∀ t ∈ l, t.length ≤ 10000) : (txtsW l).length ≤ l.length * 10001 := by
  induction l with
  | nil => simp [txtsW]
  | cons t l ih =>
    have h1 := h t (by simp)
    have h2 := ih (fun t ht => h t (by simp [ht]))
    have h3 := txt_len t
    simp only [txtsW, List.length_append, List.length_cons]; omega
theorem colsW_step (l : List Tx) (k : Nat) (h : k < l.length) : colsW (l.take (k + 1)) = colsW (l.take k) ++ txt l[k] ++ like := by
  have app : ∀ a b : List Tx, colsW (a ++ b) = colsW a ++ colsW b := by
    intro a b
    induction a with
    | nil => rfl
    | cons t a ih => simp [colsW, ih]
  rw [List.take_succ_eq_append_getElem h, app]; simp [colsW]
theorem like_len : like.length = 18 := rfl
theorem colsW_len (l : List Tx) (h : ∀ t ∈ l, t.length ≤ 10000) : (colsW l).length ≤ l.length * 10019 := by
  induction l with
  | nil => simp [colsW]
  | cons t l ih =>
    have h1 := h t (by simp)
    have h2 := ih (fun t ht => h t (by simp [ht]))
    have h3 := txt_len t
    simp only [colsW, List.length_append, List.length_cons, like_len]; omega
section
variable (a : Tell) (kv vv nv : Value) (w : World)
theorem wsecret_any : Calls Try.prog 40 #[.agg (tellV a kv vv nv)] w (WrP (bodyD .secret a) w) := by
  unfold tellV u8
  go_enter Try.func40, Try.ntmps40
  go_wp2
  go_region_with (first
    | (go_at_call 74; refine (four_any _ _).mono ?_; rintro e w1 ⟨rfl, hb1⟩; obtain ⟨hcc, hff⟩ := bcell hb1)
    | (go_at_call 73; refine (putFours_any _ _ _).mono ?_; rintro e w2 ⟨rfl, hb2⟩))
  all_goals
    go_wp2
    go_ret
    refine ⟨rfl, ?_⟩
    rename_i wA hA hA2 hA3
    have h0 : Below w.heap.size w wA := (((Below.refl _ _).alloc (Nat.le_refl _) _).drew).trans (hA.mono (by simp))
    have h1 := h0.trans (hb1.mono h0.size)
    exact h1.trans (hb2.mono h1.size)
theorem wsetting_any (f : Few a) (hv : LR (fun b => b < w.heap.size) w vv (strs a.vals)) : Calls Try.prog 46 #[.agg (tellV a kv vv nv)] w (WrP (bodyD .setting a) w) := by
  have d := fun w => putText_any (ba []) (ba a.text) w (by rw [ba_size]; simp) (by rw [ba_size]; have := f.text; omega)
  rw [putText_ba, List.nil_append, show ba [] = ⟨#[]⟩ from rfl] at d
  obtain ⟨A4, c4, rfl, hc1, hc2⟩ := hv.form
  rw [strs_len] at hv hc1
  have HV := Lib.hid hv
  have HF := Lib.hid f
  have hL1 := f.vals
  have hL2 := f.keys
  clear hv hc1 hc2
  unfold tellV u8
  simp only [strs_len]
  go_enter Try.func46, Try.ntmps46
  go_wp2_with fail
  refine (d _).mono ?_; rintro e w1 ⟨rfl, hb1⟩
  have x4 : w1.cell? ⟨w.heap.size, 4, none⟩ = some (.slice A4 a.vals.length c4) := by rw [(bcell hb1).1 _ _ (by simp)]; simp [go_sem]
  have hb0 := bel hb1
  clear hb1 d
  go_wp2
  go_loopw [3, 12] (fun s i wr => ∃ k : Nat, k ≤ a.vals.length ∧ i = .int .i64 k ∧ s = .string (ba (txt a.text ++ txtsW (a.vals.take k))) ∧ Below w.heap.size w wr) (fun _ i _ => a.vals.length - (intOf i).toNat)
  case atStart => exact ⟨0, Nat.zero_le _, rfl, by simp [txtsW], hb0⟩
  case round =>
    obtain ⟨k, hk, rfl, rfl, hb⟩ := hrel
    clear hb0 x4
    by_cases hlt : k < a.vals.length
    · obtain ⟨p, o, rfl, hp, hg⟩ := HV.out.addr (ne_strs hlt)
      have x := hg k _ (strs_get a.vals k hlt)
      rw [← (bcell hb).1 p _ hp] at x
      have HS := Lib.hid (txtsW_step a.vals k hlt)
      have hz : (txtsW (a.vals.take k)).length ≤ 3000000 := by
        have h1 := txtsW_len (a.vals.take k) (fun t ht => HF.out.valsT t (List.mem_of_mem_take ht))
        have h2 : (a.vals.take k).length ≤ 200 := by have := HF.out.vals; rw [List.length_take]; omega
        have h3 := Nat.mul_le_mul_right 10001 h2
        omega
      have hz2 := HF.out.valsT a.vals[k] (List.getElem_mem _)
      have hz3 := txt_len a.text
      have hz4 := HF.out.text
      have d2 := fun w => putText_any (ba (txt a.text ++ txtsW (a.vals.take k))) (ba a.vals[k]) w (by rw [ba_size, List.length_append]; omega) (by rw [ba_size]; omega)
      rw [putText_ba] at d2
      clear hz hz2 hz3 hz4 hg
      go_wp2_with (go_at_call 78; refine (d2 _).mono ?_; rintro e w2 ⟨rfl, hb2⟩)
      go_roundw
      case rel => exact ⟨k + 1, by omega, by go_num, (by rw [HS.out]; try simp [List.append_assoc]), hb.trans (hb2.mono hb.size)⟩
      case measure => simp [intOf]; omega
    · have e : k = a.vals.length := by omega
      subst e
      rw [List.take_length] at *
      go_wp2
      go_ret
      exact ⟨rfl, hb⟩

set_option maxHeartbeats 1000000 in
theorem wcolumns_any (f : Few a) (hv : LR (fun b => b < w.heap.size) w kv (strs a.keys)) : Calls Try.prog 48 #[.agg (tellV a kv vv nv)] w (WrP (bodyD .columns a) w) := by
  obtain ⟨A4, c4, rfl, hc1, hc2⟩ := hv.form
  rw [strs_len] at hv hc1
  have HV := Lib.hid hv
  have HF := Lib.hid f
  have hL1 := f.vals
  have hL2 := f.keys
  clear hv hc1 hc2
  unfold tellV u8
  simp only [strs_len]
  go_enter Try.func48, Try.ntmps48
  go_wp2_with fail
  refine (column_any _).mono ?_; rintro e w1 ⟨rfl, hb1⟩
  have hI := Wb.new (w := w) ((Blk.new w _ _).below hb1 (by simp)) (Nat.le_refl _) (bel hb1)
  have x3 := hI.cell 3
  simp only [List.getElem?_toArray, List.getElem?_cons_succ, List.getElem?_cons_zero] at x3
  go_wp2_with fail
  refine (two_any _ _).mono ?_; rintro e w2 ⟨rfl, hb2⟩
  have hI2 := hI.step hb2
  clear hI x3 hb2
  go_wp2_with fail
  refine (putTwo_any _ _).mono ?_; rintro e w3 ⟨rfl, hb3⟩
  have hI3 := hI2.step hb3
  clear hI2 hb3
  go_wp2_with fail
  refine (hI3.write _ (by rw [n16_len]; simp)).mono ?_; rintro e w4 ⟨rfl, hI4⟩
  have x3 := hI4.cell 3
  simp only [List.getElem?_toArray, List.getElem?_cons_succ, List.getElem?_cons_zero] at x3
  clear hI3
  rw [List.nil_append] at hI4
  have hN := n16_len (a.keys.length : Int)
  have e1 : bodyD .columns a = n16 (a.keys.length : Nat) ++ colsW a.keys := rfl
  generalize n16 (a.keys.length : Int) = N at *
  have HE1 := Lib.hid e1
  obtain ⟨cs, hcs⟩ : ∃ cs : Array Value, cs = #[.int .u8 (a.kind.toNat : Int), .int .u8 (a.status.toNat : Int), .string (ba a.text), .slice A4 a.keys.length c4, vv, nv, .int .i64 a.n, .int .i64 a.m] := ⟨_, rfl⟩
  rw [← hcs] at hI4
  clear hcs e1 hb1
  go_wp2
  go_loopw [18] (fun i wr => ∃ k : Nat, k ≤ a.keys.length ∧ i = .int .i64 k ∧ Wb w w.heap.size w1.heap.size cs (N ++ colsW (a.keys.take k)) wr) (fun i _ => a.keys.length - (intOf i).toNat)
  case atStart => exact ⟨0, Nat.zero_le _, rfl, by simpa [colsW] using hI4⟩
  case round =>
    obtain ⟨k, hk, rfl, hI⟩ := hrel
    clear hI4 x3
    by_cases hlt : k < a.keys.length
    · obtain ⟨p, o, rfl, hp, hg⟩ := HV.out.addr (ne_strs hlt)
      have x := hg k _ (strs_get a.keys k hlt)
      rw [← (bcell hI.bel).1 p _ hp] at x
      have HS := Lib.hid (colsW_step a.keys k hlt)
      have hz : (colsW (a.keys.take k)).length ≤ 3000000 := by
        have h1 := colsW_len (a.keys.take k) (fun t ht => HF.out.keysT t (List.mem_of_mem_take ht))
        have h2 : (a.keys.take k).length ≤ 200 := by have := HF.out.keys; rw [List.length_take]; omega
        have h3 := Nat.mul_le_mul_right 10019 h2
        omega
      have hz2 := HF.out.keysT a.keys[k] (List.getElem_mem _)
      have hz3 := txt_len a.keys[k]
      have d2 := fun w => putText_any (ba []) (ba a.keys[k]) w (by rw [ba_size]; simp) (by rw [ba_size]; omega)
      rw [putText_ba, List.nil_append, show ba [] = ⟨#[]⟩ from rfl] at d2
      have HZ := Lib.hid (show (N ++ colsW (a.keys.take k)).length + (txt a.keys[k]).length ≤ 140737488355328 by rw [List.length_append]; omega)
      have HZ2 := Lib.hid (show (N ++ colsW (a.keys.take k) ++ txt a.keys[k]).length + like.length ≤ 140737488355328 by rw [List.length_append, List.length_append, like_len]; omega)
      clear hz hz2 hz3 hg
      go_wp2_with fail
      refine (d2 _).mono ?_; rintro e w2 ⟨rfl, hb2⟩
      have hI2 := hI.step hb2
      clear hb2 hI
      go_wp2_with fail
      refine (hI2.write _ HZ.out).mono ?_; rintro e w3 ⟨rfl, hI3⟩
      clear hI2
      go_wp2_with fail
      refine (hI3.write _ HZ2.out).mono ?_; rintro e w4 ⟨rfl, hI4⟩
      clear hI3
      go_wp2
      go_roundw
      case rel => exact ⟨k + 1, by omega, by go_num, by rw [HS.out]; simpa using hI4⟩
      case measure => simp [intOf]; omega
    · have e : k = a.keys.length := by omega
      subst e
      rw [List.take_length] at *
      go_wp2_with fail
      refine hI.str.mono ?_; rintro e w2 ⟨rfl, hb2⟩
      go_wp2
      go_ret
      refine ⟨?_, hb2⟩
      rw [HE1.out]; rfl
end
end Go.Proofs.Ytnjifbgjglniaaa.BK
