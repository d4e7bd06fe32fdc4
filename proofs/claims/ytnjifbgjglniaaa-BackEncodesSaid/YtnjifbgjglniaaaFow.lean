/- Words for memory at layer 3: which blocks a call leaves as they were; a slice that reads as a list; the reader and the writer of a body. -/
import Derived.Test.YtnjifbgjglniaaaFoq
import Derived.Test.YtnjifbgjglniaaaFrm
import Derived.LoopTactic
namespace Go.Proofs.Ytnjifbgjglniaaa
open Go.ChangeShapes Go.WideShapes Go.ChangeAt Go.RowKit
set_option linter.unusedVariables false

/-- all blocks of w but those of S stand in w' -/
structure Keeps (S : List Nat) (w w' : World) : Prop where
  os : w'.os = w.os
  tape : w'.tape = w.tape
  output : w'.output = w.output
  size : w.heap.size ≤ w'.heap.size
  block : ∀ k, k < w.heap.size → k ∉ S → w'.heap[k]? = w.heap[k]?

section
variable {S : List Nat} {w w' a b : World}
theorem Keeps.refl (S : List Nat) (w : World) : Keeps S w w := ⟨rfl, rfl, rfl, Nat.le_refl _, fun _ _ _ => rfl⟩
theorem Keeps.trans {S' : List Nat} (h : Keeps S w a) (k : Keeps S' a b) (hs : ∀ i ∈ S', i ∈ S ∨ w.heap.size ≤ i) : Keeps S w b :=
  ⟨k.os.trans h.os, k.tape.trans h.tape, k.output.trans h.output, Nat.le_trans h.size k.size, fun i hi hn => (k.block i (Nat.lt_of_lt_of_le hi h.size) (fun e => by
    rcases hs i e with h1 | h1
    · exact hn h1
    · omega)).trans (h.block i hi hn)⟩
theorem Keeps.mono {S' : List Nat} (h : Keeps S w a) (hs : ∀ i ∈ S, i ∈ S') : Keeps S' w a := ⟨h.os, h.tape, h.output, h.size, fun i hi hn => h.block i hi (fun e => hn (hs i e))⟩
theorem Keeps.and (h : Keeps S w a) (k : Keeps S a b) : Keeps S w b := h.trans k (fun _ hi => .inl hi)
theorem Keeps.bel (h : Keeps S w a) (k : Below a.heap.size a b) : Keeps S w b := h.trans (S' := []) ⟨k.os, k.tape, k.output, k.size, fun i hi _ => k.block i hi⟩ (fun _ hi => by cases hi)
theorem Keeps.of (k : Below w.heap.size w a) : Keeps S w a := (Keeps.refl S w).bel k
theorem Keeps.grown {row : Option Nat} (h : Keeps S w a) (k : a.grownBy b row) (hr : ∀ i, row = some i → i ∈ S ∨ w.heap.size ≤ i) : Keeps S w b :=
  ⟨k.os.trans h.os, k.tape.trans h.tape, k.output.trans h.output, Nat.le_trans h.size k.size, fun i hi hn => (k.block i (Nat.lt_of_lt_of_le hi h.size) (fun e => by
    rcases hr i e.symm with h1 | h1
    · exact hn h1
    · omega)).trans (h.block i hi hn)⟩
theorem Keeps.alloc (h : Keeps S w a) (o : Obj) : Keeps S w (a.alloc o) := h.bel ((Below.refl _ _).alloc (Nat.le_refl _) o)
theorem Keeps.drewN (h : Keeps S w a) (n : Nat) : Keeps S w (a.drewN n) := ⟨h.os, h.tape, h.output, h.size, h.block⟩
theorem Keeps.drew (h : Keeps S w a) : Keeps S w a.drew := ⟨h.os, h.tape, h.output, h.size, h.block⟩
theorem Keeps.set (h : Keeps S w a) (g i : Nat) (u : Value) (hg : g ∈ S ∨ w.heap.size ≤ g) : Keeps S w (a.setCell ⟨g, i, none⟩ u) :=
  ⟨h.os, h.tape, h.output, by have := h.size; simpa [World.setCell] using this, fun k hk hn => (Below.heap_setCell _ _ _ _ (fun e => by
    subst e
    rcases hg with h1 | h1
    · exact hn h1
    · exact absurd hk (Nat.not_lt.2 h1))).trans (h.block k hk hn)⟩
theorem Keeps.below {B : Nat} (h : Keeps S w a) (hs : ∀ i ∈ S, B ≤ i) (hB : B ≤ w.heap.size) : Below B w a :=
  ⟨h.os, h.tape, h.output, h.size, fun i hi => h.block i (Nat.lt_of_lt_of_le hi hB) (fun e => by have := hs i e; omega)⟩
theorem Keeps.all (h : Keeps S w a) (hs : ∀ i ∈ S, w.heap.size ≤ i) : Below w.heap.size w a := h.below hs (Nat.le_refl _)
theorem Keeps.grown_ {g : Nat} (h : Keeps [g] w a) : w.grownBy a (some g) := ⟨h.os, h.tape, h.output, h.size, fun k hk hn => h.block k hk (fun e => hn (by rw [List.mem_singleton.1 e]))⟩
theorem Blk.keeps {g : Nat} {t : TypeId} {cs : Array Value} (h : Blk w g t cs) (k : Keeps S w a) (hg : g ∉ S) : Blk a g t cs := (k.block g h.lt hg).trans h
theorem Keeps.cells (k : Keeps S w a) (g : Nat) (hl : g < w.heap.size) (hg : g ∉ S) (o : Nat) : a.cell? ⟨g, o, none⟩ = w.cell? ⟨g, o, none⟩ := by
  unfold World.cell?; rw [k.block g hl hg]
end

/-- v is a slice that reads as xs (one cell each); its row is a block of P -/
def LR (P : Nat → Prop) (w : World) (v : Value) (xs : List Value) : Prop :=
  ∃ A cap, v = .slice A xs.length cap ∧ xs.length ≤ cap ∧ cap ≤ maxLen ∧ (xs ≠ [] → ∃ h off, A = some ⟨h, off, none⟩ ∧ P h ∧ ∀ (j : Nat) (x : Value), xs[j]? = some x → w.cell? ⟨h, off + j, none⟩ = some x)
section
variable {P P' : Nat → Prop} {w w' : World} {v : Value} {xs : List Value}
theorem LR.step (h : LR P w v xs) (k : ∀ b, P b → w'.heap[b]? = w.heap[b]?) (m : ∀ b, P b → P' b) : LR P' w' v xs := by
  obtain ⟨A, cap, e, h1, h2, h3⟩ := h
  refine ⟨A, cap, e, h1, h2, fun hn => ?_⟩
  obtain ⟨p, off, e2, hp, hc⟩ := h3 hn
  exact ⟨p, off, e2, m _ hp, fun j x hx => (World.cell?_of_block (a := ⟨p, off + j, none⟩) (k p hp)).trans (hc j x hx)⟩
theorem LR.nil (P : Nat → Prop) (w : World) : LR P w (.slice none 0 0) [] := ⟨none, 0, rfl, Nat.le_refl _, Nat.zero_le _, fun h => absurd rfl h⟩
theorem LR.own {base : Nat} {e : TypeId} {n : Nat} (hw : w.ownsRow base e 1 v n xs) : LR (fun b => base ≤ b ∧ b < w.heap.size) w v xs := by
  have hn : n = xs.length := by have := hw.1; simpa using this.symm
  subst hn
  rcases hw.2 with ⟨e, hz⟩ | ⟨g, cap, cur, e, hb, hh, hc, hm, hs, ht⟩
  · have : xs = [] := List.eq_nil_of_length_eq_zero hz
    subst this; rw [e]; exact LR.nil _ _
  · refine ⟨_, cap, e, hc, hm, fun _ => ⟨g, 0, rfl, ⟨hb, (Array.getElem?_eq_some_iff.1 hh).1⟩, fun j x hx => ?_⟩⟩
    rw [cell_of_row w g (0 + j) cur _ (0, 0) hh, Nat.zero_add]
    rw [← ht, List.getElem?_take] at hx
    split at hx
    · simpa using hx
    · cases hx
theorem LR.form (h : LR P w v xs) : ∃ A cap, v = .slice A xs.length cap ∧ xs.length ≤ cap ∧ cap ≤ maxLen := by
  obtain ⟨A, cap, e, h1, h2, _⟩ := h
  exact ⟨A, cap, e, h1, h2⟩
end
def strs (l : List Tx) : List Value := l.map fun t => .string (ba t)
def bools (l : List Bool) : List Value := l.map .bool
def ints (l : List Int) : List Value := l.map (.int .i64)

/-- an ask as a value -/
def askV (a : Ask) (kv vv av nv fv : Value) : Array Value :=
  #[u8 a.kind, .string (ba a.name), .string (ba a.portal), .string (ba a.sql), kv, vv, av, nv, fv, .int .i64 a.most, u8 a.what, .bool a.cancel, .int .i64 a.pid, .int .i64 a.secret]
/-- v is an ask that reads as a; its rows are blocks of P -/
structure AR (P : Nat → Prop) (w : World) (v : Value) (a : Ask) : Prop where
  ex : ∃ kv vv av nv fv, v = .agg (askV a kv vv av nv fv) ∧ LR P w kv (strs a.keys) ∧ LR P w vv (strs a.vals) ∧ LR P w av (strs a.args) ∧ LR P w nv (bools a.null) ∧ LR P w fv (ints a.formats)
theorem AR.step {P P' : Nat → Prop} {w w' : World} {v : Value} {a : Ask} (h : AR P w v a) (k : ∀ b, P b → w'.heap[b]? = w.heap[b]?) (m : ∀ b, P b → P' b) : AR P' w' v a := by
  obtain ⟨kv, vv, av, nv, fv, e, h1, h2, h3, h4, h5⟩ := h.ex
  exact ⟨kv, vv, av, nv, fv, e, h1.step k m, h2.step k m, h3.step k m, h4.step k m, h5.step k m⟩
theorem AR.zero (P : Nat → Prop) (w : World) : AR P w (.agg (askV {} (.slice none 0 0) (.slice none 0 0) (.slice none 0 0) (.slice none 0 0) (.slice none 0 0))) {} :=
  ⟨_, _, _, _, _, rfl, LR.nil _ _, LR.nil _ _, LR.nil _ _, LR.nil _ _, LR.nil _ _⟩

theorem bytes_drop (s : ByteArray) (p : Nat) (n : Nat) : (s.extract p (p + n)).data.toList = (s.data.toList.drop p).take n := by
  have := ba_extract s.data.toList p (p + n)
  rw [ba_of] at this
  rw [this, ba_list, Nat.add_sub_cancel_left]
theorem ins_of (s : ByteArray) (p : Nat) (h : p ≤ s.size) : insB s.size (p : Int) = true := by unfold insB; exact decide_eq_true ⟨by omega, by omega⟩
theorem drop_len (s : ByteArray) (p : Nat) : (s.data.toList.drop p).length = s.size - p := by rw [List.length_drop, ← Lib.size_eq]

theorem g32_list (s : ByteArray) (p : Nat) (h : p ≤ s.size) (x : Bool) :
    ∃ er : Int, g32 s p = ((rd4 (s.data.toList.drop p) x).1, if er = 0 then (p : Int) + 4 else 0, er) ∧
      (if er = 0 then p + 4 ≤ s.size ∧ (rd4 (s.data.toList.drop p) x).2 = (s.data.toList.drop (p + 4), x) else (rd4 (s.data.toList.drop p) x).2 = ([], true)) := by
  unfold g32 rd4
  rw [ins_of s p h, drop_len]
  by_cases hl : (s.size : Int) - p < 4
  · refine ⟨3, ?_, ?_⟩
    · rw [if_neg (by decide), if_pos hl, if_neg (by omega)]; rfl
    · rw [if_neg (by decide), if_neg (by omega)]
  · refine ⟨0, ?_, ?_⟩
    · rw [if_neg (by decide), if_neg hl, if_pos (by omega), if_pos rfl]
      have e : (s.extract (p : Int).toNat ((p : Int) + 4).toNat).data.toList = (s.data.toList.drop p).take 4 := by
        rw [show (p : Int).toNat = p by omega, show ((p : Int) + 4).toNat = p + 4 by omega]; exact bytes_drop s p 4
      rw [e]
    · rw [if_pos rfl, if_pos (by omega)]
      exact ⟨by omega, by simp [List.drop_drop]⟩
theorem g16_list (s : ByteArray) (p : Nat) (h : p ≤ s.size) (x : Bool) :
    ∃ er : Int, g16 s p = ((rd2 (s.data.toList.drop p) x).1, if er = 0 then (p : Int) + 2 else 0, er) ∧
      (if er = 0 then p + 2 ≤ s.size ∧ (rd2 (s.data.toList.drop p) x).2 = (s.data.toList.drop (p + 2), x) else (rd2 (s.data.toList.drop p) x).2 = ([], true)) := by
  unfold g16 rd2
  rw [ins_of s p h, drop_len]
  by_cases hl : (s.size : Int) - p < 2
  · refine ⟨3, ?_, ?_⟩
    · rw [if_neg (by decide), if_pos hl, if_neg (by omega)]; rfl
    · rw [if_neg (by decide), if_neg (by omega)]
  · refine ⟨0, ?_, ?_⟩
    · rw [if_neg (by decide), if_neg hl, if_pos (by omega), if_pos rfl]
      have e : (s.extract (p : Int).toNat ((p : Int) + 2).toNat).data.toList = (s.data.toList.drop p).take 2 := by
        rw [show (p : Int).toNat = p by omega, show ((p : Int) + 2).toNat = p + 2 by omega]; exact bytes_drop s p 2
      rw [e]
    · rw [if_pos rfl, if_pos (by omega)]
      exact ⟨by omega, by simp [List.drop_drop]⟩
theorem gBytes_list (s : ByteArray) (p : Nat) (n : Int) (h : p ≤ s.size) (x : Bool) :
    ∃ (er q : Int), gBytes s p n = (ba (rdB n (s.data.toList.drop p) x).1, if er = 0 then (p : Int) + n else q, er) ∧
      (if er = 0 then 0 ≤ n ∧ (p : Int) + n ≤ s.size ∧ (rdB n (s.data.toList.drop p) x).2 = (s.data.toList.drop ((p : Int) + n).toNat, x) else (rdB n (s.data.toList.drop p) x).2 = ([], true)) := by
  unfold gBytes rdB
  rw [ins_of s p h, drop_len]
  by_cases hn : n < 0
  · refine ⟨1, 0, ?_, ?_⟩
    · rw [if_pos hn, if_neg (by omega)]; rfl
    · rw [if_neg (by decide), if_neg (by omega)]
  · by_cases hl : (s.size : Int) - p < n
    · refine ⟨3, 0, ?_, ?_⟩
      · rw [if_neg hn, if_neg (by decide), if_pos hl, if_neg (by omega)]; rfl
      · rw [if_neg (by decide), if_neg (by omega)]
    · refine ⟨0, 0, ?_, ?_⟩
      · rw [if_neg hn, if_neg (by decide), if_neg hl, if_pos (by omega), if_pos rfl]
        have e : s.extract (p : Int).toNat ((p : Int) + n).toNat = ba ((s.data.toList.drop p).take n.toNat) := by
          apply ba_ext
          rw [ba_list, show (p : Int).toNat = p by omega, show ((p : Int) + n).toNat = p + n.toNat by omega]; exact bytes_drop s p _
        rw [e]
      · rw [if_pos rfl, if_pos (by omega)]
        exact ⟨by omega, by omega, by rw [show ((p : Int) + n).toNat = p + n.toNat by omega]; simp [List.drop_drop]⟩
theorem indexByte_list (l : Tx) : Lib.indexByte l 0 = if 0 ∈ l then ((upto0 l).length : Int) else -1 := by
  induction l with
  | nil => rfl
  | cons b l ih =>
    unfold Lib.indexByte
    by_cases hb : b = 0
    · subst hb; simp [upto0]
    · have hb1 : (b == 0) = false := by simpa using hb
      have hb2 : (b != 0) = true := by simpa using hb
      have hu : upto0 (b :: l) = b :: upto0 l := by unfold upto0; rw [List.takeWhile_cons, if_pos hb2]
      rw [hb1, if_neg (by decide), ih, hu]
      by_cases hm : 0 ∈ l
      · rw [if_pos hm, if_pos (List.mem_cons_of_mem _ hm)]
        have : (((upto0 l).length : Int) == -1) = false := by simp
        rw [this, if_neg (by decide), List.length_cons, Int.natCast_succ]
      · have hn : ¬ 0 ∈ b :: l := by intro h; rcases List.mem_cons.1 h with e | e; exact hb e.symm; exact hm e
        rw [if_neg hm, if_pos (by decide), if_neg hn]
theorem upto0_lt (l : Tx) (h : 0 ∈ l) : (upto0 l).length < l.length := by
  have := congrArg List.length (upto0_split l h).1
  rw [List.length_append, List.length_cons] at this
  omega
theorem upto0_take (l : Tx) : l.take (upto0 l).length = upto0 l := by
  have h : upto0 l <+: l := List.takeWhile_prefix _
  exact (List.prefix_iff_eq_take.1 h).symm
theorem ext_end (s : ByteArray) (p : Nat) : (s.extract p s.size).data.toList = s.data.toList.drop p := by
  have := ba_extract s.data.toList p s.size
  rw [ba_of] at this
  rw [this, ba_list, List.take_of_length_le (by rw [drop_len]; exact Nat.le_refl _)]
theorem gText_list (s : ByteArray) (p : Nat) (h : p ≤ s.size) (x : Bool) :
    ∃ (er : Int) (q : Nat), gText s p = (ba (rdT (s.data.toList.drop p) x).1, (q : Int), er) ∧
      (if er = 0 then q ≤ s.size ∧ (rdT (s.data.toList.drop p) x).2 = (s.data.toList.drop q, x) else (rdT (s.data.toList.drop p) x).2 = ([], true)) := by
  unfold gText rdT
  rw [ins_of s p h, show (p : Int).toNat = p by omega, ext_end, indexByte_list]
  by_cases hm : 0 ∈ s.data.toList.drop p
  · have hlt := upto0_lt _ hm
    rw [drop_len] at hlt
    refine ⟨0, p + (upto0 (s.data.toList.drop p)).length + 1, ?_, ?_⟩
    · rw [if_neg (by decide), if_pos hm, if_neg (by omega), if_pos hm]
      have e : s.extract p ((p : Int) + ((upto0 (s.data.toList.drop p)).length : Nat)).toNat = ba (upto0 (s.data.toList.drop p)) := by
        apply ba_ext
        rw [ba_list, show ((p : Int) + ((upto0 (s.data.toList.drop p)).length : Nat)).toNat = p + (upto0 (s.data.toList.drop p)).length by omega, bytes_drop, upto0_take]
      rw [e]
      rw [show ((p + (upto0 (s.data.toList.drop p)).length + 1 : Nat) : Int) = (p : Int) + ((upto0 (s.data.toList.drop p)).length : Nat) + 1 by omega]
    · rw [if_pos rfl, if_pos hm]
      exact ⟨by omega, by simp [List.drop_drop, Nat.add_assoc]⟩
  · refine ⟨3, 0, ?_, ?_⟩
    · rw [if_neg (by decide), if_neg hm, if_pos rfl, if_neg hm]; rfl
    · rw [if_neg (by decide), if_neg hm]
theorem head0_list (t : ByteArray) : (head0 t).data.toList = upto0 t.data.toList := by
  unfold head0 zix
  rw [indexByte_list]
  have e : ∀ n, (t.extract 0 n).data.toList = t.data.toList.take n := fun n => by have := bytes_drop t 0 n; rw [Nat.zero_add, List.drop_zero] at this; exact this
  by_cases hm : 0 ∈ t.data.toList
  · rw [if_pos hm, if_neg (by omega), e, show (((upto0 t.data.toList).length : Nat) : Int).toNat = (upto0 t.data.toList).length by omega, upto0_take]
  · rw [if_neg hm, if_pos rfl, e, Lib.size_eq, List.take_length, upto0_self _ hm]
theorem putText_list (s t : ByteArray) : putText s t = ba (s.data.toList ++ txt t.data.toList) := by
  apply ba_ext
  unfold putText txt
  rw [ba_list]
  simp [head0_list]
theorem putText_ba (s t : Tx) : putText (ba s) (ba t) = ba (s ++ txt t) := by rw [putText_list, ba_list, ba_list]
theorem put32_ba (s : Tx) (n : Int) : put32 (ba s) n = ba (s ++ n32 n) := by
  apply ba_ext; unfold put32; rw [ba_list]; simp [ba, n32]
theorem put16_ba (s : Tx) (n : Int) : put16 (ba s) n = ba (s ++ n16 n) := by
  apply ba_ext; unfold put16; rw [ba_list]; simp [ba, n16]
theorem txt_len (t : Tx) : (txt t).length ≤ t.length + 1 := by
  have := upto0_le t
  simp [txt]; omega
end Go.Proofs.Ytnjifbgjglniaaa
