/- The cache's keys as plain data: a key's text, a text's key. No program but octet's plain words; no condition.
   Words for memory: a block known whole, what a step may turn, a map of pointers. No program is walked here; no condition.
   A store of two rings, as plain lists and as what stands in its blocks. No program; no condition.
   A store of two rings: which blocks stand where, what a step makes of it. No program; no condition. -/
import Derived.Test.YtjngangojgjceaaGreatOct
import Derived.Test.YtjngangojgjceaaGreatRows
import Derived.WalkKit
import Derived.ProofKit
import Derived.Below
import Derived.IntWalk
import Derived.Carry
import Derived.Lib.Hide
import Derived.Lib.Walk
import Derived.Lib.Strings
import Derived.Laws.Rows
import Derived.LaidEqlPtr
import Derived.OwnWalk
import Derived.Maps.OwnSet
import Derived.StringKeys
import Derived.Deep.Draws
set_option linter.unusedSimpArgs false
set_option linter.unusedVariables false
namespace Go.Proofs.YtjngangojgjceaaGreat.CA
open Go.ChangeShapes Go.WideShapes Go.ChangeAt Go.RowKit
set_option maxRecDepth 100000
set_option linter.unusedVariables false
set_option linter.unusedSimpArgs false

/-- a key: the database, the role, the format, the normal form -/
abbrev Ky : Type := ByteArray × ByteArray × Int × ByteArray
def zK : Ky := (⟨#[]⟩, ⟨#[]⟩, 0, ⟨#[]⟩)
def cln (x : ByteArray) : Bool := decide (Lib.indexByte x.data.toList 0 = -1)
def rightK (k : Ky) : Bool := cln k.1 && cln k.2.1 && cln k.2.2.2 && (decide (k.2.2.1 = 0) || decide (k.2.2.1 = 1))
def textK (k : Ky) : ByteArray := putText (put16 (putText (putText ⟨#[]⟩ k.1) k.2.1) k.2.2.1) k.2.2.2
def txt (k : Ky) : ByteArray := if rightK k = true then textK k else ⟨#[]⟩
def readK (s : ByteArray) : Ky :=
  ((gText s 0).1, (gText s (gText s 0).2.1).1, (g16 s (gText s (gText s 0).2.1).2.1).1, (gText s (g16 s (gText s (gText s 0).2.1).2.1).2.1).1)
def okP (s : ByteArray) : Bool := rightK (readK s) && decide (textK (readK s) = s)
def parK (s : ByteArray) : Ky := if okP s = true then readK s else zK
def szK (k : Ky) (v : ByteArray) : Int := if rightK k = true then 16 + (textK k).size + v.size else 0

theorem mid (a b c : ByteArray) (i j : Nat) (hi : i = a.size) (hj : j = a.size + b.size) : (a ++ b ++ c).extract i j = b := by
  subst hi; subst hj
  have e : ((a ++ b ++ c).extract a.size (a.size + b.size)).data.toList = b.data.toList := by
    rw [Lib.extract_data, ByteArray.data_append, ByteArray.data_append, Array.toList_append, Array.toList_append, Lib.size_eq a, Lib.size_eq b]
    rw [List.append_assoc, List.drop_left, Nat.add_sub_cancel_left, List.take_left]
  apply ByteArray.ext
  exact Array.toList_inj.1 e
theorem idx_in (r : List UInt8) : ∀ l : List UInt8, Lib.indexByte l 0 = -1 → Lib.indexByte (l ++ 0 :: r) 0 = l.length
  | [], _ => rfl
  | b :: l, h => by
    unfold Lib.indexByte at h
    by_cases hb : (b == 0) = true
    · rw [if_pos hb] at h; exact absurd h (by decide)
    · rw [if_neg hb] at h
      by_cases hl : (Lib.indexByte l 0 == -1) = true
      · have ih := idx_in r l (beq_iff_eq.1 hl)
        rw [List.cons_append]
        unfold Lib.indexByte
        rw [if_neg hb, ih, if_neg (by simp <;> omega), List.length_cons]
        rfl
      · rw [if_neg hl] at h
        have := Lib.indexByte_ge l 0
        have h2 : Lib.indexByte l 0 ≠ -1 := fun e => hl (by rw [e]; rfl)
        omega
abbrev Z0 : ByteArray := ⟨#[0]⟩
theorem cln_iff {x : ByteArray} : cln x = true ↔ Lib.indexByte x.data.toList 0 = -1 := decide_eq_true_iff
theorem head_cln {x : ByteArray} (h : cln x = true) : head0 x = x := by
  unfold head0 zix
  rw [if_pos (cln_iff.1 h)]; simp
theorem gT (A t R T : ByteArray) (hT : T = A ++ t ++ Z0 ++ R) (ht : cln t = true) : gText T (A.size : Int) = (t, (A.size : Int) + (t.size : Int) + 1, 0) := by
  have zs : Z0.size = 1 := rfl
  have zl : Z0.data.toList = [0] := rfl
  generalize Z0 = Z at *
  have hs : T.size = A.size + t.size + 1 + R.size := by rw [hT]; simp only [ByteArray.size_append]; omega
  have e3 : T.extract (A.size : Int).toNat T.size = t ++ Z ++ R := by
    rw [hT, show A ++ t ++ Z ++ R = A ++ (t ++ Z ++ R) ++ ByteArray.empty by simp only [ByteArray.append_assoc, ByteArray.append_empty]]
    exact mid A (t ++ Z ++ R) _ _ _ (by omega) (by simp only [ByteArray.size_append, ByteArray.size_empty]; omega)
  have e4 : Lib.indexByte (T.extract (A.size : Int).toNat T.size).data.toList 0 = t.size := by
    rw [e3, ByteArray.data_append, Array.toList_append, ByteArray.data_append, Array.toList_append, zl, List.append_assoc]
    exact (idx_in R.data.toList _ (cln_iff.1 ht)).trans (by rw [Lib.size_eq])
  have e5 : T.extract (A.size : Int).toNat ((A.size : Int) + (t.size : Int)).toNat = t := by
    rw [hT, show A ++ t ++ Z ++ R = A ++ t ++ (Z ++ R) by simp only [ByteArray.append_assoc]]
    exact mid A t _ _ _ (by omega) (by omega)
  unfold gText
  rw [if_neg (by unfold insB; rw [decide_eq_false_iff_not]; omega), e4, if_neg (by omega), e5]
theorem gN (A R T : ByteArray) (n : Int) (hn : n = 0 ∨ n = 1) (hT : T = A ++ ⟨#[byt (n / 256), byt n]⟩ ++ R) : g16 T (A.size : Int) = (n, (A.size : Int) + 2, 0) := by
  obtain ⟨X, hX⟩ : ∃ X, X = (⟨#[byt (n / 256), byt n]⟩ : ByteArray) := ⟨_, rfl⟩
  have xs : X.size = 2 := by rw [hX]; rfl
  have bx : sgn16 (beN X.data.toList) = n := by
    rw [hX]
    rcases hn with rfl | rfl <;> kernel_rfl
  rw [← hX] at hT
  have hs : T.size = A.size + 2 + R.size := by rw [hT]; simp only [ByteArray.size_append]; omega
  unfold g16 insB
  rw [if_neg (by rw [decide_eq_false_iff_not]; omega), if_neg (by omega)]
  have : T.extract (A.size : Int).toNat ((A.size : Int) + 2).toNat = X := by
    rw [hT]
    exact mid A X _ _ _ (by omega) (by omega)
  rw [this, bx]
theorem right_iff {k : Ky} : rightK k = true ↔ cln k.1 = true ∧ cln k.2.1 = true ∧ cln k.2.2.2 = true ∧ (k.2.2.1 = 0 ∨ k.2.2.1 = 1) := by
  unfold rightK
  simp only [Bool.and_eq_true, Bool.or_eq_true, decide_eq_true_iff, and_assoc]
theorem text_is {k : Ky} (h : rightK k = true) : textK k = k.1 ++ Z0 ++ k.2.1 ++ Z0 ++ ⟨#[byt (k.2.2.1 / 256), byt k.2.2.1]⟩ ++ k.2.2.2 ++ Z0 := by
  obtain ⟨h1, h2, h3, _⟩ := right_iff.1 h
  unfold textK putText put16
  rw [head_cln h1, head_cln h2, head_cln h3]
  have : (⟨#[]⟩ : ByteArray) ++ k.1 = k.1 := ByteArray.empty_append
  rw [this]
theorem read_text {k : Ky} (h : rightK k = true) : readK (textK k) = k := by
  obtain ⟨h1, h2, h3, h4⟩ := right_iff.1 h
  have e := text_is h
  obtain ⟨db, role, n, norm⟩ := k
  simp only at h1 h2 h3 h4 e
  obtain ⟨X, hX⟩ : ∃ X, X = (⟨#[byt (n / 256), byt n]⟩ : ByteArray) := ⟨_, rfl⟩
  have xs : X.size = 2 := by rw [hX]; rfl
  have zs : Z0.size = 1 := rfl
  generalize hT : textK (db, role, n, norm) = T at *
  have g1 := gT (⟨#[]⟩) db (role ++ Z0 ++ X ++ norm ++ Z0) T (by
    have : (⟨#[]⟩ : ByteArray) ++ db = db := ByteArray.empty_append
    rw [e, this, ← hX]; simp only [ByteArray.append_assoc]) h1
  have g2 := gT (db ++ Z0) role (X ++ norm ++ Z0) T (by rw [e, ← hX]; simp only [ByteArray.append_assoc]) h2
  have g3 := gN (db ++ Z0 ++ role ++ Z0) (norm ++ Z0) T n h4 (by rw [e]; simp only [ByteArray.append_assoc])
  have g4 := gT (db ++ Z0 ++ role ++ Z0 ++ X) norm (⟨#[]⟩) T (by
    have : ∀ x : ByteArray, x ++ (⟨#[]⟩ : ByteArray) = x := fun x => ByteArray.append_empty
    rw [this, e, ← hX]) h3
  have z0 : ((⟨#[]⟩ : ByteArray).size : Int) = 0 := rfl
  have s2 : (((db ++ Z0).size : Nat) : Int) = 0 + (db.size : Int) + 1 := by simp only [ByteArray.size_append]; omega
  have s3 : (((db ++ Z0 ++ role ++ Z0).size : Nat) : Int) = 0 + (db.size : Int) + 1 + (role.size : Int) + 1 := by simp only [ByteArray.size_append]; omega
  have s4 : (((db ++ Z0 ++ role ++ Z0 ++ X).size : Nat) : Int) = 0 + (db.size : Int) + 1 + (role.size : Int) + 1 + 2 := by simp only [ByteArray.size_append]; omega
  rw [z0] at g1
  rw [s2] at g2
  rw [s3] at g3
  rw [s4] at g4
  unfold readK
  rw [g1, g2, g3, g4]
theorem ok_text {k : Ky} (h : rightK k = true) : okP (textK k) = true := by
  unfold okP
  rw [read_text h, h]; simp
theorem par_text {k : Ky} (h : rightK k = true) : parK (textK k) = k := by
  unfold parK
  rw [if_pos (ok_text h), read_text h]
theorem par_ok {s : ByteArray} (h : okP s = true) : rightK (parK s) = true ∧ textK (parK s) = s := by
  unfold parK
  rw [if_pos h]
  unfold okP at h
  simp only [Bool.and_eq_true, decide_eq_true_iff] at h
  exact h
theorem text_inj {j k : Ky} (hj : rightK j = true) (hk : rightK k = true) (h : textK j = textK k) : j = k := by rw [← par_text hj, ← par_text hk, h]
theorem text_size {k : Ky} (h : rightK k = true) : (textK k).size = k.1.size + k.2.1.size + k.2.2.2.size + 5 := by
  rw [text_is h]
  have xs : (⟨#[byt (k.2.2.1 / 256), byt k.2.2.1]⟩ : ByteArray).size = 2 := rfl
  have zs : Z0.size = 1 := rfl
  simp only [ByteArray.size_append]
  omega
theorem text_ne {k : Ky} (h : rightK k = true) : textK k ≠ ⟨#[]⟩ := fun e => by
  have := text_size h
  rw [e] at this
  have z : (⟨#[]⟩ : ByteArray).size = 0 := rfl
  omega
theorem txt_right {k : Ky} (h : rightK k = true) : txt k = textK k := if_pos h
theorem txt_not {k : Ky} (h : rightK k = false) : txt k = ⟨#[]⟩ := if_neg (by rw [h]; decide)
theorem read_none : rightK (readK ⟨#[]⟩) = true := by kernel_rfl
/-- the program's own test of a text -/
theorem txt_read (s : ByteArray) : (txt (readK s) = s) ↔ okP s = true := by
  cases h : rightK (readK s) with
  | true =>
    rw [txt_right h]
    unfold okP
    rw [h]; simp
  | false =>
    rw [txt_not h]
    unfold okP
    rw [h]
    constructor
    · intro e
      rw [← e, read_none] at h; cases h
    · intro e; cases e
theorem ok_ne {s : ByteArray} (h : okP s = true) : s ≠ ⟨#[]⟩ := by
  rw [← (par_ok h).2]
  exact text_ne (par_ok h).1
theorem gText_le (s : ByteArray) (a : Int) : (gText s a).1.size ≤ s.size := by
  unfold gText
  split
  · exact Nat.zero_le _
  · split
    · exact Nat.zero_le _
    · simp only [ByteArray.size_extract]; omega
theorem read_le (s : ByteArray) : (readK s).1.size ≤ s.size ∧ (readK s).2.1.size ≤ s.size ∧ (readK s).2.2.2.size ≤ s.size := ⟨gText_le _ _, gText_le _ _, gText_le _ _⟩
theorem sgn16_in (n : Nat) (h : n < 65536) : -32768 ≤ sgn16 n ∧ sgn16 n ≤ 32767 := by unfold sgn16; split <;> omega
end Go.Proofs.YtjngangojgjceaaGreat.CA
namespace Go.Proofs.YtjngangojgjceaaGreat.SL
open Go.ChangeShapes Go.WideShapes Go.ChangeAt Go.RowKit Go.Maps Go.ChangeMaps
set_option maxRecDepth 100000
set_option linter.unusedVariables false
set_option linter.unusedSimpArgs false

/-- block g is just these cells -/
def Bk (w : World) (g : Nat) (t : TypeId) (cs : Array Value) : Prop := w.heap[g]? = some (.cells cs t (0, 0))
section
variable {w w' : World} {g : Nat} {t : TypeId} {cs : Array Value}
theorem Bk.lt (h : Bk w g t cs) : g < w.heap.size := (Array.getElem?_eq_some_iff.1 h).1
theorem Bk.cell (h : Bk w g t cs) (i : Nat) : w.cell? ⟨g, i, none⟩ = cs[i]? := cell_of_row w g i cs t (0, 0) h
theorem Bk.frozen (h : Bk w g t cs) (i : Nat) : w.frozen? ⟨g, i, none⟩ = false := by
  unfold Bk at h
  simp [World.frozen?, h]
theorem Bk.new (w : World) (t : TypeId) (cs : Array Value) : Bk (w.alloc (.cells cs t)) w.heap.size t cs := heap_alloc_new w _
theorem Bk.alloc (h : Bk w g t cs) (o : Obj) : Bk (w.alloc o) g t cs := (Below.heap_alloc w o g h.lt).trans h
theorem Bk.set_ (h : Bk w g t cs) (i : Nat) (u : Value) : Bk (w.setCell ⟨g, i, none⟩ u) g t (cs.setIfInBounds i u) := by
  unfold Bk at h ⊢
  simp [World.setCell, Array.getElem?_modify, h]
theorem Bk.far (h : Bk w g t cs) {p : Addr} (hp : g ≠ p.block) (u : Value) : Bk (w.setCell p u) g t cs := (Below.heap_setCell w p u g hp).trans h
theorem Bk.ne_ {g' : Nat} {t' : TypeId} {cs' : Array Value} (h : Bk w g t cs) (h' : Bk w g' t' cs') (hne : t ≠ t') : g ≠ g' := by
  rintro rfl
  unfold Bk at h h'
  rw [h] at h'
  injection h' with h'
  injection h' with _ ht
  exact hne ht
theorem Bk.drew (h : Bk w g t cs) : Bk w.drew g t cs := h
theorem Bk.heap (h : Bk w g t cs) (e : w'.heap[g]? = w.heap[g]?) : Bk w' g t cs := e.trans h
end
/-- what a step turns: of what was there, the blocks of S at most -/
structure Chg (S : Nat → Prop) (w w' : World) : Prop where
  os : w'.os = w.os
  tape : w'.tape = w.tape
  output : w'.output = w.output
  size : w.heap.size ≤ w'.heap.size
  block : ∀ k, k < w.heap.size → ¬ S k → w'.heap[k]? = w.heap[k]?
section
variable {S S' : Nat → Prop} {w w1 w2 : World}
theorem Chg.refl (S : Nat → Prop) (w : World) : Chg S w w := ⟨rfl, rfl, rfl, Nat.le_refl _, fun _ _ _ => rfl⟩
theorem Chg.trans' (h : Chg S w w1) (k : Chg S' w1 w2) (hs : ∀ b, b < w.heap.size → S' b → S b) : Chg S w w2 :=
  ⟨k.os.trans h.os, k.tape.trans h.tape, k.output.trans h.output, Nat.le_trans h.size k.size, fun i hi hn => (k.block i (Nat.lt_of_lt_of_le hi h.size) (fun e => hn (hs i hi e))).trans (h.block i hi hn)⟩
theorem Chg.trans (h : Chg S w w1) (k : Chg S w1 w2) : Chg S w w2 := h.trans' k fun _ _ e => e
theorem Chg.mono (h : Chg S w w1) (hs : ∀ b, b < w.heap.size → S b → S' b) : Chg S' w w1 :=
  ⟨h.os, h.tape, h.output, h.size, fun i hi hn => h.block i hi fun e => hn (hs i hi e)⟩
theorem Chg.of_below (h : Below w.heap.size w w1) : Chg S w w1 := ⟨h.os, h.tape, h.output, h.size, fun i hi _ => h.block i hi⟩
theorem Chg.below (h : Chg S w w1) {B : Nat} (hB : B ≤ w.heap.size) (hs : ∀ b, b < B → ¬ S b) : Below B w w1 := ⟨h.os, h.tape, h.output, h.size, fun i hi => h.block i (Nat.lt_of_lt_of_le hi hB) (hs i hi)⟩
theorem Chg.alloc (h : Chg S w w1) (o : Obj) : Chg S w (w1.alloc o) := h.trans ⟨rfl, rfl, rfl, by simp, fun k hk _ => Below.heap_alloc _ _ _ hk⟩
theorem Chg.setCell (h : Chg S w w1) {p : Addr} (hp : S p.block) (u : Value) : Chg S w (w1.setCell p u) :=
  h.trans ⟨rfl, rfl, rfl, by simp [World.setCell], fun k hk hn => Below.heap_setCell _ _ _ _ (fun e => hn (by rw [e]; exact hp))⟩
theorem Chg.newCell (h : Chg S w w1) {p : Addr} (hp : w.heap.size ≤ p.block) (u : Value) : Chg S w (w1.setCell p u) :=
  ⟨h.os, h.tape, h.output, by have := h.size; simpa [World.setCell] using this, fun k hk hn => (Below.heap_setCell _ _ _ _ (by omega)).trans (h.block k hk hn)⟩
theorem Chg.drewN (h : Chg S w w1) (n : Nat) : Chg S w (w1.drewN n) := by
  have hb : Below w1.heap.size w1 (w1.drewN n) := by
    refine ⟨?_, ?_, ?_, ?_, ?_⟩ <;> first | rfl | exact Nat.le_refl _ | (intros; rfl) | simp [World.drewN]
  exact h.trans (.of_below hb)
theorem Chg.drew (h : Chg S w w1) : Chg S w w1.drew := ⟨h.os, h.tape, h.output, h.size, h.block⟩
theorem Chg.grown (h : Chg S w w1) {row : Option Nat} (hg : w1.grownBy w2 row) (hr : ∀ k, row = some k → k < w.heap.size → S k) : Chg S w w2 :=
  ⟨hg.os.trans h.os, hg.tape.trans h.tape, hg.output.trans h.output, Nat.le_trans h.size hg.size, fun i hi hn => (hg.block i (Nat.lt_of_lt_of_le hi h.size) (fun e => hn (hr i e.symm hi))).trans (h.block i hi hn)⟩
theorem Chg.cell (h : Chg S w w1) {p : Addr} (hp : p.block < w.heap.size) (hn : ¬ S p.block) : w1.cell? p = w.cell? p := World.cell?_of_block (w := w) (h.block p.block hp hn)
theorem Bk.chg {g : Nat} {t : TypeId} {cs : Array Value} (h : Bk w g t cs) (hc : Chg S w w1) (hn : ¬ S g) : Bk w1 g t cs := (hc.block g h.lt hn).trans h
end
theorem below_drewN (B : Nat) (w : World) (n : Nat) : Below B w (w.drewN n) := by
  refine ⟨?_, ?_, ?_, ?_, ?_⟩ <;> first | rfl | exact Nat.le_refl _ | (intros; rfl) | simp [World.drewN]

abbrev ptr (b : Nat) : Value := .pointer (some ⟨b, 0, none⟩)
/-- how a pointer to a whole block reads -/
def ptrE : Value → Option (DataW Unit × List MemPlace)
  | .pointer none => some (.lit (.int .i64 (-1)), [])
  | .pointer (some ⟨b, 0, none⟩) => some (.lit (.int .i64 b), [])
  | _ => none
def pD : Option Nat → DataW Unit
  | none => .lit (.int .i64 (-1))
  | some b => .lit (.int .i64 b)
def pV : Option Nat → Value
  | none => .pointer none
  | some b => ptr b
theorem ptrE_mk (o : Option Nat) : ptrE (pV o) = some (pD o, []) := by cases o <;> rfl
theorem ptrE_inv {v : Value} {o : Option Nat} {ps : List MemPlace} (h : ptrE v = some (pD o, ps)) : v = pV o := by
  unfold ptrE at h
  split at h
  · cases o with
    | none => rfl
    | some b => simp [pD] at h
  · rename_i b
    cases o with
    | none => simp [pD] at h
    | some c =>
      simp only [pD, Option.some.injEq, Prod.mk.injEq, DataW.lit.injEq, Lit.int.injEq, true_and] at h
      have : b = c := by omega
      subst this; rfl
  · cases h
theorem lit_ne {a b : ByteArray} (h : a ≠ b) : Lit.string a.data.toList ≠ Lit.string b.data.toList := fun e => by
  injection e with e
  apply h
  cases a; cases b
  simp only at e
  rw [Array.ext' e]
/-- the block is a map from texts to pointers, of at most n entries -/
def MapP (w : World) (b n : Nat) (f : ByteArray → Option Nat) : Prop :=
  ∃ D, w.ownsMap Tryz.prog 9 ptrE b n D ∧ ∀ k : ByteArray, D.atKey (.string k.data.toList) (pD none) = pD (f k)
theorem strK : Keyed Tryz.prog 9 := string_keyed Tryz.underlying9
theorem keyB (k : ByteArray) (h : k.size ≤ 281474976710656) : keyOf Tryz.prog 9 (.string k) = some (.string k.data.toList) :=
  WideMaps.keyOf_string_mk Tryz.underlying9 (by unfold maxLen; omega)
theorem MapP.lt {w : World} {b n : Nat} {f : ByteArray → Option Nat} (h : MapP w b n f) : b < w.heap.size := by
  obtain ⟨D, h, _⟩ := h; exact h.lt
theorem MapP.made (w : World) : MapP (w.alloc (.map #[] 0)) w.heap.size 0 fun _ => none := ⟨.map [], World.ownsMap_made _ _ _ _, fun k => rfl⟩
theorem MapP.keep {w w' : World} {b n : Nat} {f : ByteArray → Option Nat} (h : MapP w b n f) (e : w'.heap[b]? = w.heap[b]?) : MapP w' b n f := by
  obtain ⟨D, ⟨es, clock, hb, r⟩, hf⟩ := h
  exact ⟨D, ⟨es, clock, e.trans hb, r⟩, hf⟩
theorem MapP.put {w : World} {b n : Nat} {f : ByteArray → Option Nat} {D : DataW Unit} (h : w.ownsMap Tryz.prog 9 ptrE b n D) (hf : ∀ k : ByteArray, D.atKey (.string k.data.toList) (pD none) = pD (f k)) {w' : World} {k : ByteArray} {p m : Nat}
    (h' : w'.ownsMap Tryz.prog 9 ptrE b m (D.put (.string k.data.toList) (pD (some p)))) : MapP w' b m fun x => if x = k then some p else f x := by
  refine ⟨_, h', fun x => ?_⟩
  by_cases hx : x = k
  · subst hx
    show _ = pD (if x = x then some p else f x)
    rw [if_pos rfl]
    exact atKey_put_same (h.isMap) (show WideAt.IsKeyLit (Lit.string _) from trivial) _ _
  · show _ = pD (if x = k then some p else f x)
    rw [if_neg hx, atKey_put_other (lit_ne hx)]; exact hf x
theorem MapP.del {b : Nat} {f : ByteArray → Option Nat} {D : DataW Unit} (hf : ∀ k : ByteArray, D.atKey (.string k.data.toList) (pD none) = pD (f k)) {w' : World} {k : ByteArray} {m : Nat}
    (h' : w'.ownsMap Tryz.prog 9 ptrE b m (D.del (.string k.data.toList))) : MapP w' b m fun x => if x = k then none else f x := by
  refine ⟨_, h', fun x => ?_⟩
  by_cases hx : x = k
  · subst hx
    show _ = pD (if x = x then none else f x)
    rw [if_pos rfl]; exact atKey_del_same _
  · show _ = pD (if x = k then none else f x)
    rw [if_neg hx, atKey_del_other (lit_ne hx)]; exact hf x
theorem bk_nomap {w : World} {g b n : Nat} {t : TypeId} {cs : Array Value} {f : ByteArray → Option Nat} (h : Bk w g t cs) (hm : MapP w b n f) : g ≠ b := by
  rintro rfl
  obtain ⟨D, ⟨es, clock, hb, _⟩, _⟩ := hm
  unfold Bk at h
  rw [h] at hb
  cases hb
/-- the texts of a list, as cells -/
abbrev bV (x : ByteArray) : Value := .string x
/-- v is a slice of texts that reads as d -/
def TS (w : World) (v : Value) (d : List ByteArray) : Prop :=
  (∃ A cap, v = .slice A 0 cap ∧ d = []) ∨
  ∃ h off cap, v = .slice (some ⟨h, off, none⟩) d.length cap ∧ d.length ≤ cap ∧ ∀ (i : Nat) (x : ByteArray), d[i]? = some x → w.cell? ⟨h, off + i, none⟩ = some (.string x)
theorem TS.keep {w w' : World} {v : Value} {d : List ByteArray} (h : TS w v d) (hk : ∀ p : Addr, (w.cell? p).isSome = true → w'.cell? p = w.cell? p) : TS w' v d := by
  rcases h with h | ⟨h, off, cap, e, hc, hm⟩
  · exact .inl h
  · exact .inr ⟨h, off, cap, e, hc, fun i x hi => (hk _ (by rw [hm i x hi]; rfl)).trans (hm i x hi)⟩
theorem TS.below {w w' : World} {v : Value} {d : List ByteArray} (h : TS w v d) (hb : Below w.heap.size w w') : TS w' v d :=
  h.keep fun p hp => by
    obtain ⟨u, hu⟩ := Option.isSome_iff_exists.1 hp
    exact hb.cell (World.block_lt_of_cell? w p hu)
theorem TS.form {w : World} {v : Value} {d : List ByteArray} (h : TS w v d) : ∃ a cap, v = .slice a d.length cap := by
  rcases h with ⟨A, cap, rfl, rfl⟩ | ⟨h, off, cap, rfl, _⟩
  · exact ⟨_, _, rfl⟩
  · exact ⟨_, _, rfl⟩
theorem TS.inv {w : World} {v : Value} {d : List ByteArray} (h : TS w v d) (hp : 0 < d.length) : ∃ g off cap, v = .slice (some ⟨g, off, none⟩) d.length cap ∧ d.length ≤ cap ∧ ∀ (i : Nat) (x : ByteArray), d[i]? = some x → w.cell? ⟨g, off + i, none⟩ = some (.string x) := by
  rcases h with ⟨A, cap, rfl, rfl⟩ | h
  · simp at hp
  · exact h
/-- the call owns the texts -/
def OT (B : Nat) (w : World) (v : Value) (d : List ByteArray) : Prop := w.ownsRow B 9 1 v d.length (d.map bV)
theorem OT.ts {B : Nat} {w : World} {v : Value} {d : List ByteArray} (h : OT B w v d) : TS w v d := by
  rcases h.2 with ⟨rfl, hz⟩ | ⟨g, cap, cur, rfl, hb, hh, hc, hm, hs, ht⟩
  · exact .inl ⟨none, 0, rfl, List.eq_nil_of_length_eq_zero hz⟩
  · refine .inr ⟨g, 0, cap, rfl, hc, fun i x hi => ?_⟩
    have := World.ownsRow.cells h (g := g) rfl i (.string x) (by rw [List.getElem?_map, hi]; rfl)
    rw [Addr.add_lit, Nat.zero_add] at this
    rw [Nat.zero_add]; exact this
theorem OT.keep {B : Nat} {w w' : World} {v : Value} {d : List ByteArray} (h : OT B w v d) (hk : ∀ g, v.ownBlock = some g → w'.heap[g]? = w.heap[g]?) : OT B w' v d := by
  refine ⟨h.1, ?_⟩
  rcases h.2 with h2 | ⟨g, cap, cur, rfl, hb, hg, hr⟩
  · exact .inl h2
  · exact .inr ⟨g, cap, cur, rfl, hb, (hk g rfl).trans hg, hr⟩
theorem OT.nil (B : Nat) (w : World) : OT B w (.slice none 0 0) [] := World.ownsRow_nil _ _ _ _
theorem bool_not (b : Bool) : (!b) = true ↔ b = false := by cases b <;> simp
theorem tl_dec (a b : ByteArray) : (a.toList == b.toList) = decide (a = b) := by
  rw [Bool.eq_iff_iff, beq_iff_eq, decide_eq_true_iff]
  constructor
  · intro h
    rw [Lib.toList_data, Lib.toList_data] at h
    cases a; cases b
    simp only at h
    rw [Array.ext' h]
  · rintro rfl; rfl
end Go.Proofs.YtjngangojgjceaaGreat.SL
namespace Go.Proofs.YtjngangojgjceaaGreat.SL
open Go.ChangeShapes Go.WideShapes Go.ChangeAt Go.RowKit Go.Maps Go.ChangeMaps
set_option maxRecDepth 100000
set_option linter.unusedVariables false
set_option linter.unusedSimpArgs false

abbrev En : Type := ByteArray × Int
def sumE : List En → Int
  | [] => 0
  | x :: l => x.2 + sumE l
theorem sum_app : ∀ a b : List En, sumE (a ++ b) = sumE a + sumE b
  | [], b => by simp [sumE]
  | x :: a, b => by rw [List.cons_append, sumE, sumE, sum_app a b]; omega
def delE (k : ByteArray) (l : List En) : List En := l.filter fun x => decide (x.1 ≠ k)
def hasE (k : ByteArray) (l : List En) : Option Int := (l.find? fun x => decide (x.1 = k)).map (·.2)
/-- room is made for z bytes: what stays, which keys went -/
def roomE (al z : Int) : Nat → List En → List En → List En × List En × List ByteArray
  | 0, T, K => (T, K, [])
  | n + 1, T, K =>
    if al < sumE T + sumE K + z then
      match T.getLast? with
      | some x => let r := roomE al z n T.dropLast K; (r.1, r.2.1, x.1 :: r.2.2)
      | none => match K.getLast? with
        | some x => let r := roomE al z n T K.dropLast; (r.1, r.2.1, x.1 :: r.2.2)
        | none => (T, K, [])
    else (T, K, [])
/-- the kept segment gives up its last ones till it keeps its budget -/
def shrE (ke : Int) : Nat → List En → List En → List En × List En × List ByteArray
  | 0, T, K => (T, K, [])
  | n + 1, T, K =>
    if ke < sumE K then
      match K.getLast? with
      | some x => let r := shrE ke n (x :: T) K.dropLast; (r.1, r.2.1, x.1 :: r.2.2)
      | none => (T, K, [])
    else (T, K, [])
def putE (al : Int) (k : ByteArray) (z : Int) (T K : List En) : List En × List En × List ByteArray :=
  let r := roomE al z ((delE k T).length + (delE k K).length) (delE k T) (delE k K)
  ((k, z) :: r.1, r.2.1, r.2.2)
def touchE (ke : Int) (k : ByteArray) (z : Int) (T K : List En) : List En × List En × List ByteArray :=
  if z ≤ ke then shrE ke ((delE k K).length + 1) (delE k T) ((k, z) :: delE k K) else ((k, z) :: delE k T, delE k K, [])

/-! ### what stands in the blocks -/
structure Nd where
  k : ByteArray
  z : Int
  s : Int
  nw : Option Nat
  od : Option Nat
def pc (q : Nd) : Array Value := #[.string q.k, .int .i64 q.z, .int .i64 q.s, pV q.nw, pV q.od]
def upN (F : Nat → Nd) (b : Nat) (v : Option Nat) : Nat → Nd := fun x => if x = b then { F x with nw := v } else F x
def upO (F : Nat → Nd) (b : Nat) (v : Option Nat) : Nat → Nd := fun x => if x = b then { F x with od := v } else F x
def upS (F : Nat → Nd) (b : Nat) (v : Int) : Nat → Nd := fun x => if x = b then { F x with s := v } else F x
def upA (F : Nat → Nd) (b : Nat) (q : Nd) : Nat → Nd := fun x => if x = b then q else F x
def NN (w : World) (N : Nat → Prop) (F : Nat → Nd) : Prop := ∀ b, N b → Bk w b 148 (pc (F b))
section
variable {w w' : World} {N : Nat → Prop} {F : Nat → Nd}
theorem NN.heap (h : NN w N F) (e : ∀ b, N b → w'.heap[b]? = w.heap[b]?) : NN w' N F := fun b hb => (e b hb).trans (h b hb)
theorem NN.drew (h : NN w N F) : NN w.drew N F := h
theorem NN.far (h : NN w N F) {p : Addr} (hp : ¬ N p.block) (u : Value) : NN (w.setCell p u) N F := fun b hb => (h b hb).far (fun e => hp (by rw [← e]; exact hb)) u
theorem NN.upN (h : NN w N F) (b : Nat) (v : Option Nat) : NN (w.setCell ⟨b, 3, none⟩ (pV v)) N (upN F b v) := fun x hx => by
  by_cases e : x = b
  · subst e
    have := (h x hx).set_ 3 (pV v)
    unfold SL.upN
    rw [if_pos rfl]; exact this
  · have := (h x hx).far (p := ⟨b, 3, none⟩) e (pV v)
    unfold SL.upN
    rw [if_neg e]; exact this
theorem NN.upO (h : NN w N F) (b : Nat) (v : Option Nat) : NN (w.setCell ⟨b, 4, none⟩ (pV v)) N (upO F b v) := fun x hx => by
  by_cases e : x = b
  · subst e
    have := (h x hx).set_ 4 (pV v)
    unfold SL.upO
    rw [if_pos rfl]; exact this
  · have := (h x hx).far (p := ⟨b, 4, none⟩) e (pV v)
    unfold SL.upO
    rw [if_neg e]; exact this
theorem NN.upS (h : NN w N F) (b : Nat) (v : Int) : NN (w.setCell ⟨b, 2, none⟩ (.int .i64 v)) N (upS F b v) := fun x hx => by
  by_cases e : x = b
  · subst e
    have := (h x hx).set_ 2 (.int .i64 v)
    unfold SL.upS
    rw [if_pos rfl]; exact this
  · have := (h x hx).far (p := ⟨b, 2, none⟩) e (.int .i64 v)
    unfold SL.upS
    rw [if_neg e]; exact this
end
section
variable (F : Nat → Nd) (b x : Nat) (v : Option Nat) (s : Int)
theorem upN_k : (upN F b v x).k = (F x).k ∧ (upN F b v x).z = (F x).z ∧ (upN F b v x).s = (F x).s ∧ (upN F b v x).od = (F x).od := by unfold upN; split <;> exact ⟨rfl, rfl, rfl, rfl⟩
theorem upO_k : (upO F b v x).k = (F x).k ∧ (upO F b v x).z = (F x).z ∧ (upO F b v x).s = (F x).s ∧ (upO F b v x).nw = (F x).nw := by unfold upO; split <;> exact ⟨rfl, rfl, rfl, rfl⟩
theorem upS_k : (upS F b s x).k = (F x).k ∧ (upS F b s x).z = (F x).z ∧ (upS F b s x).nw = (F x).nw ∧ (upS F b s x).od = (F x).od := by unfold upS; split <;> exact ⟨rfl, rfl, rfl, rfl⟩
theorem upN_nw : (upN F b v x).nw = if x = b then v else (F x).nw := by unfold upN; split <;> rfl
theorem upO_od : (upO F b v x).od = if x = b then v else (F x).od := by unfold upO; split <;> rfl
theorem upS_s : (upS F b s x).s = if x = b then s else (F x).s := by unfold upS; split <;> rfl
end
/-- p stands behind e, ahead of a -/
def entF (F : Nat → Nd) (e a p : Nat) : Nat → Nd := upN (upO (upO (upN F p (some e)) p (some a)) e (some p)) a (some p)
/-- a and c are neighbours -/
def levF (F : Nat → Nd) (a c : Nat) : Nat → Nd := upN (upO F a (some c)) c (some a)
theorem entF_k (F : Nat → Nd) (e a p x : Nat) : (entF F e a p x).k = (F x).k ∧ (entF F e a p x).z = (F x).z ∧ (entF F e a p x).s = (F x).s := by
  unfold entF
  obtain ⟨a1, a2, a3, _⟩ := upN_k (upO (upO (upN F p (some e)) p (some a)) e (some p)) a x (some p)
  obtain ⟨b1, b2, b3, _⟩ := upO_k (upO (upN F p (some e)) p (some a)) e x (some p)
  obtain ⟨c1, c2, c3, _⟩ := upO_k (upN F p (some e)) p x (some a)
  obtain ⟨d1, d2, d3, _⟩ := upN_k F p x (some e)
  exact ⟨a1.trans (b1.trans (c1.trans d1)), a2.trans (b2.trans (c2.trans d2)), a3.trans (b3.trans (c3.trans d3))⟩
theorem levF_k (F : Nat → Nd) (a c x : Nat) : (levF F a c x).k = (F x).k ∧ (levF F a c x).z = (F x).z ∧ (levF F a c x).s = (F x).s := by
  unfold levF
  obtain ⟨a1, a2, a3, _⟩ := upN_k (upO F a (some c)) c x (some a)
  obtain ⟨b1, b2, b3, _⟩ := upO_k F a x (some c)
  exact ⟨a1.trans b1, a2.trans b2, a3.trans b3⟩
theorem entF_nw (F : Nat → Nd) (e a p x : Nat) : (entF F e a p x).nw = if x = a then some p else if x = p then some e else (F x).nw := by
  unfold entF
  rw [upN_nw, (upO_k _ _ _ _).2.2.2, (upO_k _ _ _ _).2.2.2, upN_nw]
theorem entF_od (F : Nat → Nd) (e a p x : Nat) : (entF F e a p x).od = if x = e then some p else if x = p then some a else (F x).od := by
  unfold entF
  rw [(upN_k _ _ _ _).2.2.2, upO_od, upO_od, (upN_k _ _ _ _).2.2.2]
theorem levF_nw (F : Nat → Nd) (a c x : Nat) : (levF F a c x).nw = if x = c then some a else (F x).nw := by
  unfold levF
  rw [upN_nw, (upO_k _ _ _ _).2.2.2]
theorem levF_od (F : Nat → Nd) (a c x : Nat) : (levF F a c x).od = if x = a then some c else (F x).od := by
  unfold levF
  rw [(upN_k _ _ _ _).2.2.2, upO_od]
/-- each block's older one is the next, whose newer one is it -/
def Lnk (F : Nat → Nd) : List Nat → Prop
  | a :: b :: t => (F a).od = some b ∧ (F b).nw = some a ∧ Lnk F (b :: t)
  | _ => True
theorem Lnk.congr {F F' : Nat → Nd} : ∀ l : List Nat, (∀ x ∈ l.dropLast, (F' x).od = (F x).od) → (∀ x ∈ l.tail, (F' x).nw = (F x).nw) → Lnk F l → Lnk F' l
  | [], _, _, _ => trivial
  | [a], _, _, _ => trivial
  | a :: b :: t, h1, h2, h => by
    obtain ⟨h3, h4, h5⟩ := h
    refine ⟨(h1 a (by simp [List.dropLast])).trans h3, (h2 b (by simp)).trans h4, Lnk.congr (b :: t) (fun x hx => h1 x ?_) (fun x hx => h2 x ?_) h5⟩
    · rw [List.dropLast_cons_of_ne_nil (by simp)]; exact List.mem_cons_of_mem _ hx
    · exact List.mem_cons_of_mem _ hx
theorem Lnk.split {F : Nat → Nd} : ∀ (A : List Nat) (p : Nat) (B : List Nat), Lnk F (A ++ p :: B) ↔ Lnk F (A ++ [p]) ∧ Lnk F (p :: B)
  | [], p, B => by simp [Lnk]
  | [a], p, B => by
    simp only [List.cons_append, List.nil_append, Lnk]
    constructor
    · rintro ⟨h1, h2, h3⟩; exact ⟨⟨h1, h2, trivial⟩, h3⟩
    · rintro ⟨⟨h1, h2, _⟩, h3⟩; exact ⟨h1, h2, h3⟩
  | a :: a' :: A, p, B => by
    have := Lnk.split (F := F) (a' :: A) p B
    simp only [List.cons_append, Lnk] at this ⊢
    rw [this]
    constructor
    · rintro ⟨h1, h2, h3, h4⟩; exact ⟨⟨h1, h2, h3⟩, h4⟩
    · rintro ⟨⟨h1, h2, h3⟩, h4⟩; exact ⟨h1, h2, h3, h4⟩
theorem cons_snoc : ∀ (e : Nat) (L : List Nat), ∃ A a, e :: L = A ++ [a]
  | e, [] => ⟨[], e, rfl⟩
  | e, x :: L => by
    obtain ⟨A, a, h⟩ := cons_snoc x L
    exact ⟨e :: A, a, by rw [h]; rfl⟩
theorem snoc_cons : ∀ (e : Nat) (L : List Nat), ∃ c B, L ++ [e] = c :: B
  | e, [] => ⟨e, [], rfl⟩
  | e, x :: L => ⟨x, L ++ [e], rfl⟩
/-- where a block stands in its ring -/
structure At (F : Nat → Nd) (e : Nat) (L : List Nat) (b a c : Nat) (L1 L2 A B : List Nat) : Prop where
  eq : L = L1 ++ b :: L2
  left : e :: L1 = A ++ [a]
  right : L2 ++ [e] = c :: B
  nw : (F b).nw = some a
  od : (F b).od = some c
theorem ring_at {F : Nat → Nd} {e : Nat} {L : List Nat} (hl : Lnk F (e :: (L ++ [e]))) {b : Nat} (hb : b ∈ L) : ∃ a c L1 L2 A B, At F e L b a c L1 L2 A B := by
  obtain ⟨L1, L2, rfl⟩ := List.append_of_mem hb
  obtain ⟨A, a, h1⟩ := cons_snoc e L1
  obtain ⟨c, B, h2⟩ := snoc_cons e L2
  refine ⟨a, c, L1, L2, A, B, rfl, h1, h2, ?_, ?_⟩
  · have e1 : e :: (L1 ++ b :: L2 ++ [e]) = A ++ a :: (b :: (L2 ++ [e])) := by
      rw [List.append_assoc, ← List.cons_append, h1]; simp
    rw [e1, Lnk.split] at hl
    exact hl.2.2.1
  · have e1 : e :: (L1 ++ b :: L2 ++ [e]) = (e :: L1) ++ b :: (c :: B) := by
      rw [← h2]; simp
    rw [e1, Lnk.split] at hl
    exact hl.2.1
theorem At.mem {F : Nat → Nd} {e : Nat} {L : List Nat} {b a c : Nat} {L1 L2 A B : List Nat} (h : At F e L b a c L1 L2 A B) : (a = e ∨ a ∈ L) ∧ (c = e ∨ c ∈ L) := by
  constructor
  · have : a ∈ e :: L1 := by rw [h.left]; simp
    rcases List.mem_cons.1 this with h1 | h1
    · exact .inl h1
    · exact .inr (by rw [h.eq]; simp [h1])
  · have : c ∈ L2 ++ [e] := by rw [h.right]; simp
    rcases List.mem_append.1 this with h1 | h1
    · exact .inr (by rw [h.eq]; simp [h1])
    · exact .inl (by simpa using h1)
theorem At.ne {F : Nat → Nd} {e : Nat} {L : List Nat} {b a c : Nat} {L1 L2 A B : List Nat} (h : At F e L b a c L1 L2 A B) (hn : (e :: L).Nodup) : a ≠ b ∧ c ≠ b := by
  rw [h.eq, ← List.cons_append] at hn
  obtain ⟨n1, n2, n3⟩ := List.nodup_append.1 hn
  constructor
  · rintro rfl
    have h1 : a ∈ e :: L1 := by rw [h.left]; simp
    exact n3 a h1 a (by simp) rfl
  · rintro rfl
    have : c ∈ L2 ++ [e] := by rw [h.right]; simp
    rcases List.mem_append.1 this with h1 | h1
    · exact (List.nodup_cons.1 n2).1 h1
    · have : c = e := by simpa using h1
      exact n3 e (by simp) c (by simp) this.symm
theorem ring_leave {F : Nat → Nd} {e : Nat} {L : List Nat} {b a c : Nat} {L1 L2 A B : List Nat} (hl : Lnk F (e :: (L ++ [e]))) (hn : (e :: L).Nodup) (h : At F e L b a c L1 L2 A B) : Lnk (levF F a c) (e :: (L1 ++ L2 ++ [e])) := by
  have hne := h.ne hn
  have e0 : e :: (L ++ [e]) = A ++ a :: (b :: (c :: B)) := by
    rw [h.eq, List.append_assoc, ← List.cons_append, h.left]; simp [← h.right]
  have e1 : e :: (L1 ++ L2 ++ [e]) = A ++ a :: (c :: B) := by
    rw [List.append_assoc, ← List.cons_append, h.left, h.right]; simp
  rw [e0, Lnk.split] at hl
  obtain ⟨l1, l2, l3, l4⟩ := hl
  obtain ⟨_, _, l5⟩ := l4
  rw [h.eq, ← List.cons_append] at hn
  obtain ⟨n1, n2, n3⟩ := List.nodup_append.1 hn
  have n1' := n1
  rw [h.left] at n1'
  obtain ⟨m1, _, m3⟩ := List.nodup_append.1 n1'
  have hA : a ∉ A := fun hx => m3 a hx a (by simp) rfl
  have hcB : (c :: B).dropLast = L2 := by rw [← h.right]; simp
  have ha1 : a ∈ e :: L1 := by rw [h.left]; simp
  have haL2 : a ∉ L2 := fun hx => n3 a ha1 a (by simp [hx]) rfl
  have hc1 : c ∈ L2 ++ [e] := by rw [h.right]; simp
  have hcL1 : c ∉ L1 := fun hx => by
    rcases List.mem_append.1 hc1 with h1 | h1
    · exact n3 c (by simp [hx]) c (by simp [h1]) rfl
    · have : c = e := by simpa using h1
      subst this
      exact (List.nodup_cons.1 n1).1 hx
  have htl : (A ++ [a]).tail = L1 := by rw [← h.left]; rfl
  have hdl : (A ++ [a]).dropLast = A := by simp
  have hcB2 : c ∉ B := by
    have : (L2 ++ [e]).Nodup := by
      rw [List.nodup_append]
      refine ⟨(List.nodup_cons.1 n2).2, by simp, fun x hx y hy => ?_⟩
      have : y = e := by simpa using hy
      subst this
      exact fun exy => n3 y (by simp) x (by simp [hx]) exy.symm
    rw [h.right] at this
    exact (List.nodup_cons.1 this).1
  rw [e1, Lnk.split]
  refine ⟨Lnk.congr _ (fun x hx => ?_) (fun x hx => ?_) l1, ?_, ?_, Lnk.congr _ (fun x hx => ?_) (fun x hx => ?_) l5⟩
  · rw [hdl] at hx
    rw [levF_od, if_neg (fun e => hA (by rw [← e]; exact hx))]
  · rw [htl] at hx
    rw [levF_nw, if_neg (fun e => hcL1 (by rw [← e]; exact hx))]
  · rw [levF_od, if_pos rfl]
  · rw [levF_nw, if_pos rfl]
  · rw [hcB] at hx
    rw [levF_od, if_neg (fun e => haL2 (by rw [← e]; exact hx))]
  · rw [List.tail_cons] at hx
    rw [levF_nw, if_neg (fun e => hcB2 (by rw [← e]; exact hx))]
/-- of a ring: what stands first behind the end, and what stands last -/
theorem ring_ends {F : Nat → Nd} {e : Nat} {L : List Nat} (hl : Lnk F (e :: (L ++ [e]))) : ∃ a A c C, L ++ [e] = a :: A ∧ (F e).od = some a ∧ e :: L = C ++ [c] ∧ (F e).nw = some c := by
  obtain ⟨a, A, h1⟩ := snoc_cons e L
  obtain ⟨C, c, h2⟩ := cons_snoc e L
  refine ⟨a, A, c, C, h1, ?_, h2, ?_⟩
  · rw [h1] at hl; exact hl.1
  · rw [← List.cons_append, h2, List.append_assoc] at hl
    have := (Lnk.split C c [e]).1 (by simpa using hl)
    exact this.2.2.1
theorem ring_enter {F : Nat → Nd} {e a p : Nat} {L A : List Nat} (hl : Lnk F (e :: (L ++ [e]))) (hn : (e :: L).Nodup) (h1 : L ++ [e] = a :: A) (hp : p ∉ e :: L) : Lnk (entF F e a p) (e :: (p :: L ++ [e])) := by
  have hpe : p ≠ e := fun e1 => hp (by simp [e1])
  have hpL : p ∉ L := fun e1 => hp (by simp [e1])
  have hal : a ∈ L ++ [e] := by rw [h1]; simp
  have hpa : p ≠ a := by
    rintro rfl
    rcases List.mem_append.1 hal with h | h
    · exact hpL h
    · exact hpe (by simpa using h)
  rw [List.cons_append, h1]
  rw [h1] at hl
  obtain ⟨l1, l2, l3⟩ := hl
  have hd : (a :: A).dropLast = L := by rw [← h1]; simp
  have heL : e ∉ L := (List.nodup_cons.1 hn).1
  have haA : a ∉ A := by
    have : (L ++ [e]).Nodup := by
      rw [List.nodup_append]
      refine ⟨(List.nodup_cons.1 hn).2, by simp, fun x hx y hy => ?_⟩
      have : y = e := by simpa using hy
      subst this
      exact fun exy => heL (by rw [← exy]; exact hx)
    rw [h1] at this
    exact (List.nodup_cons.1 this).1
  have hpA : p ∉ A := fun hx => by
    have : p ∈ L ++ [e] := by rw [h1]; simp [hx]
    rcases List.mem_append.1 this with h | h
    · exact hpL h
    · exact hpe (by simpa using h)
  refine ⟨by rw [entF_od, if_pos rfl], by rw [entF_nw, if_neg hpa, if_pos rfl], by rw [entF_od, if_neg hpe, if_pos rfl], by rw [entF_nw, if_pos rfl], Lnk.congr _ (fun x hx => ?_) (fun x hx => ?_) l3⟩
  · rw [hd] at hx
    rw [entF_od, if_neg (fun e1 => heL (by rw [← e1]; exact hx)), if_neg (fun e1 => hpL (by rw [← e1]; exact hx))]
  · rw [List.tail_cons] at hx
    rw [entF_nw, if_neg (fun e1 => haA (by rw [← e1]; exact hx)), if_neg (fun e1 => hpA (by rw [← e1]; exact hx))]
end Go.Proofs.YtjngangojgjceaaGreat.SL
namespace Go.Proofs.YtjngangojgjceaaGreat.SL
open Go.ChangeShapes Go.WideShapes Go.ChangeAt Go.RowKit Go.Maps Go.ChangeMaps
set_option maxRecDepth 100000
set_option linter.unusedVariables false
set_option linter.unusedSimpArgs false

def en (F : Nat → Nd) (L : List Nat) : List En := L.map fun b => ((F b).k, (F b).z)
theorem en_congr {F F' : Nat → Nd} {L : List Nat} (h : ∀ b ∈ L, (F' b).k = (F b).k ∧ (F' b).z = (F b).z) : en F' L = en F L := by
  unfold en
  exact List.map_congr_left fun b hb => by rw [(h b hb).1, (h b hb).2]
theorem drop_path (e : Nat) (L : List Nat) : (e :: (L ++ [e])).dropLast = e :: L := by rw [← List.cons_append, List.dropLast_concat]
/-- two rings that lie apart -/
structure GG (s0 s1 : Int) (e0 e1 : Nat) (T K : List Nat) (F : Nat → Nd) : Prop where
  l0 : Lnk F (e0 :: (T ++ [e0]))
  l1 : Lnk F (e1 :: (K ++ [e1]))
  n0 : (e0 :: T).Nodup
  n1 : (e1 :: K).Nodup
  ap : ∀ b, (b = e0 ∨ b ∈ T) → ¬ (b = e1 ∨ b ∈ K)
  z0 : (F e0).k = ByteArray.empty ∧ (F e0).z = 0
  z1 : (F e1).k = ByteArray.empty ∧ (F e1).z = 0
  sg0 : ∀ b ∈ T, (F b).s = s0
  sg1 : ∀ b ∈ K, (F b).s = s1
  pos : ∀ b, b ∈ T ∨ b ∈ K → 1 ≤ (F b).z
  uq : ∀ b c, (b ∈ T ∨ b ∈ K) → (c ∈ T ∨ c ∈ K) → (F b).k = (F c).k → b = c
section
variable {s0 s1 : Int} {e0 e1 : Nat} {T K : List Nat} {F : Nat → Nd}
theorem GG.swap (h : GG s0 s1 e0 e1 T K F) : GG s1 s0 e1 e0 K T F :=
  ⟨h.l1, h.l0, h.n1, h.n0, fun b hb hc => h.ap b hc hb, h.z1, h.z0, h.sg1, h.sg0, fun b hb => h.pos b hb.symm, fun b c hb hc => h.uq b c hb.symm hc.symm⟩
/-- what is not in the rings makes no difference -/
theorem GG.other {F' : Nat → Nd} (h : GG s0 s1 e0 e1 T K F) (hF : ∀ b, b = e0 ∨ b = e1 ∨ b ∈ T ∨ b ∈ K → F' b = F b) : GG s0 s1 e0 e1 T K F' := by
  have hT : ∀ b ∈ T, F' b = F b := fun b hb => hF b (.inr (.inr (.inl hb)))
  have hK : ∀ b ∈ K, F' b = F b := fun b hb => hF b (.inr (.inr (.inr hb)))
  have h0 := hF e0 (.inl rfl)
  have h1 := hF e1 (.inr (.inl rfl))
  have both : ∀ b, b ∈ T ∨ b ∈ K → F' b = F b := fun b hb => hb.elim (hT b) (hK b)
  refine ⟨Lnk.congr _ (fun x hx => ?_) (fun x hx => ?_) h.l0, Lnk.congr _ (fun x hx => ?_) (fun x hx => ?_) h.l1, h.n0, h.n1, h.ap, by rw [h0]; exact h.z0, by rw [h1]; exact h.z1, fun b hb => by rw [hT b hb]; exact h.sg0 b hb, fun b hb => by rw [hK b hb]; exact h.sg1 b hb, fun b hb => by rw [both b hb]; exact h.pos b hb, fun b c hb hc => by rw [both b hb, both c hc]; exact h.uq b c hb hc⟩
  · have : x ∈ e0 :: T := by rw [drop_path] at hx; exact hx
    rcases List.mem_cons.1 this with rfl | hx
    · rw [h0]
    · rw [hT x hx]
  · have : x ∈ T ∨ x = e0 := by simpa using hx
    rcases this with hx | rfl
    · rw [hT x hx]
    · rw [h0]
  · have : x ∈ e1 :: K := by rw [drop_path] at hx; exact hx
    rcases List.mem_cons.1 this with rfl | hx
    · rw [h1]
    · rw [hK x hx]
  · have : x ∈ K ∨ x = e1 := by simpa using hx
    rcases this with hx | rfl
    · rw [hK x hx]
    · rw [h1]
theorem filter_one (L1 L2 : List Nat) (b : Nat) (h : (L1 ++ b :: L2).Nodup) : (L1 ++ b :: L2).filter (fun x => decide (x ≠ b)) = L1 ++ L2 := by
  obtain ⟨n1, n2, n3⟩ := List.nodup_append.1 h
  rw [List.filter_append, List.filter_cons]
  have a1 : L1.filter (fun x => decide (x ≠ b)) = L1 := List.filter_eq_self.2 fun x hx => by simp; exact n3 x hx b (by simp)
  have a2 : L2.filter (fun x => decide (x ≠ b)) = L2 := List.filter_eq_self.2 fun x hx => by simp; rintro rfl; exact (List.nodup_cons.1 n2).1 hx
  rw [a1, a2]; simp
theorem filter_none {L : List Nat} {b : Nat} (h : b ∉ L) : L.filter (fun x => decide (x ≠ b)) = L := List.filter_eq_self.2 fun x hx => by simp; rintro rfl; exact h hx
/-- b has left the first ring -/
theorem GG.leave (h : GG s0 s1 e0 e1 T K F) {b : Nat} (hb : b ∈ T) : ∃ a c, (F b).nw = some a ∧ (F b).od = some c ∧ (a = e0 ∨ a ∈ T) ∧ (c = e0 ∨ c ∈ T) ∧ a ≠ b ∧ c ≠ b ∧ GG s0 s1 e0 e1 (T.filter fun x => decide (x ≠ b)) K (levF F a c) := by
  obtain ⟨a, c, L1, L2, A, B, hA⟩ := ring_at h.l0 hb
  obtain ⟨ma, mc⟩ := hA.mem
  obtain ⟨na, nc⟩ := hA.ne h.n0
  have hl := ring_leave h.l0 h.n0 hA
  have hT : T.filter (fun x => decide (x ≠ b)) = L1 ++ L2 := by rw [hA.eq]; exact filter_one L1 L2 b (by rw [← hA.eq]; exact (List.nodup_cons.1 h.n0).2)
  refine ⟨a, c, hA.nw, hA.od, ma, mc, na, nc, ?_⟩
  have hsub : ∀ x, x ∈ T.filter (fun x => decide (x ≠ b)) → x ∈ T := fun x hx => (List.mem_filter.1 hx).1
  have aK := h.ap a ma
  have cK := h.ap c mc
  refine ⟨by rw [hT]; exact hl, Lnk.congr _ (fun x hx => ?_) (fun x hx => ?_) h.l1, ?_, h.n1, fun x hx => h.ap x (hx.imp_right (hsub x)), ?_, ?_, fun x hx => ?_, fun x hx => ?_, fun x hx => ?_, fun x y hx hy => ?_⟩
  · have : x ∈ e1 :: K := by rw [drop_path] at hx; exact hx
    rw [levF_od, if_neg (fun e => aK (by rw [← e]; simpa using this))]
  · have : x = e1 ∨ x ∈ K := by have := (show x ∈ K ∨ x = e1 by simpa using hx); exact this.symm
    rw [levF_nw, if_neg (fun e => cK (by rw [← e]; exact this))]
  · have := h.n0
    rw [List.nodup_cons] at this ⊢
    exact ⟨fun hx => this.1 (hsub _ hx), this.2.filter _⟩
  · rw [(levF_k F a c e0).1, (levF_k F a c e0).2.1]; exact h.z0
  · rw [(levF_k F a c e1).1, (levF_k F a c e1).2.1]; exact h.z1
  · rw [(levF_k F a c x).2.2]; exact h.sg0 x (hsub x hx)
  · rw [(levF_k F a c x).2.2]; exact h.sg1 x hx
  · rw [(levF_k F a c x).2.1]; exact h.pos x (hx.imp_left (hsub x))
  · rw [(levF_k F a c x).1, (levF_k F a c y).1]; exact h.uq x y (hx.imp_left (hsub x)) (hy.imp_left (hsub y))
/-- p has entered the first ring -/
theorem GG.enter (h : GG s0 s1 e0 e1 T K F) {p : Nat} (hp : ¬ (p = e0 ∨ p = e1 ∨ p ∈ T ∨ p ∈ K)) (hs : (F p).s = s0) (hz : 1 ≤ (F p).z) (hk : ∀ b, b ∈ T ∨ b ∈ K → (F b).k ≠ (F p).k) :
    ∃ a, (F e0).od = some a ∧ (a = e0 ∨ a ∈ T) ∧ a ≠ p ∧ GG s0 s1 e0 e1 (p :: T) K (entF F e0 a p) := by
  obtain ⟨a, A, c, C, h1, h2, _, _⟩ := ring_ends h.l0
  have ma : a = e0 ∨ a ∈ T := by
    have : a ∈ T ++ [e0] := by rw [h1]; simp
    have := (show a ∈ T ∨ a = e0 by simpa using this); exact this.symm
  have hpT : p ∉ e0 :: T := fun hx => hp (by rcases List.mem_cons.1 hx with h | h <;> simp [h])
  have hpe : p ≠ e0 := fun e => hp (.inl e)
  have hap : a ≠ p := by
    rintro rfl
    exact hp (ma.elim .inl fun h => .inr (.inr (.inl h)))
  have aK := h.ap a ma
  have hkk : ∀ x, (entF F e0 a p x).k = (F x).k := fun x => (entF_k F e0 a p x).1
  have hzz : ∀ x, (entF F e0 a p x).z = (F x).z := fun x => (entF_k F e0 a p x).2.1
  have hss : ∀ x, (entF F e0 a p x).s = (F x).s := fun x => (entF_k F e0 a p x).2.2
  refine ⟨a, h2, ma, hap, ⟨ring_enter h.l0 h.n0 h1 hpT, Lnk.congr _ (fun x hx => ?_) (fun x hx => ?_) h.l1, ?_, h.n1, fun x hx => ?_, ?_, ?_, fun x hx => ?_, fun x hx => ?_, fun x hx => ?_, fun x y hx hy => ?_⟩⟩
  · have : x = e1 ∨ x ∈ K := by
      have : x ∈ e1 :: K := by rw [drop_path] at hx; exact hx
      simpa using this
    rw [entF_od, if_neg (fun e => h.ap e0 (.inl rfl) (by rw [← e]; exact this)), if_neg (fun e => hp (by rw [← e]; rcases this with h | h <;> simp [h]))]
  · have : x = e1 ∨ x ∈ K := by have := (show x ∈ K ∨ x = e1 by simpa using hx); exact this.symm
    rw [entF_nw, if_neg (fun e => aK (by rw [← e]; exact this)), if_neg (fun e => hp (by rw [← e]; rcases this with h | h <;> simp [h]))]
  · have := h.n0
    rw [List.nodup_cons] at this ⊢
    refine ⟨fun hx => ?_, List.nodup_cons.2 ⟨fun hx => hpT (by simp [hx]), this.2⟩⟩
    rcases List.mem_cons.1 hx with hx | hx
    · exact hpe hx.symm
    · exact this.1 hx
  · rcases hx with rfl | hx
    · exact h.ap x (.inl rfl)
    · rcases List.mem_cons.1 hx with rfl | hx
      · exact fun hy => hp (by rcases hy with h | h <;> simp [h])
      · exact h.ap x (.inr hx)
  · rw [hkk, hzz]; exact h.z0
  · rw [hkk, hzz]; exact h.z1
  · rw [hss]
    rcases List.mem_cons.1 hx with rfl | hx
    · exact hs
    · exact h.sg0 x hx
  · rw [hss]; exact h.sg1 x hx
  · rw [hzz]
    rcases hx with hx | hx
    · rcases List.mem_cons.1 hx with rfl | hx
      · exact hz
      · exact h.pos x (.inl hx)
    · exact h.pos x (.inr hx)
  · rw [hkk, hkk]
    have cs : ∀ z, (z ∈ p :: T ∨ z ∈ K) → z = p ∨ (z ∈ T ∨ z ∈ K) := fun z hz => by
      rcases hz with hz | hz
      · rcases List.mem_cons.1 hz with rfl | hz
        · exact .inl rfl
        · exact .inr (.inl hz)
      · exact .inr (.inr hz)
    intro he
    rcases cs x hx with hx | hx
    · rcases cs y hy with hy | hy
      · rw [hx, hy]
      · rw [hx] at he; exact absurd he.symm (hk y hy)
    · rcases cs y hy with hy | hy
      · rw [hy] at he; exact absurd he (hk x hx)
      · exact h.uq x y hx hy he
theorem en_lev (a c : Nat) (L : List Nat) : en (levF F a c) L = en F L := en_congr fun b _ => ⟨(levF_k F a c b).1, (levF_k F a c b).2.1⟩
theorem en_ent (e a p : Nat) (L : List Nat) : en (entF F e a p) L = en F L := en_congr fun b _ => ⟨(entF_k F e a p b).1, (entF_k F e a p b).2.1⟩
theorem en_upS (p : Nat) (s : Int) (L : List Nat) : en (upS F p s) L = en F L := en_congr fun b _ => ⟨(upS_k F p b s).1, (upS_k F p b s).2.1⟩
theorem en_upA {p : Nat} (q : Nd) {L : List Nat} (h : p ∉ L) : en (upA F p q) L = en F L := en_congr fun b hb => by
  unfold upA
  rw [if_neg (fun e => h (by rw [← e]; exact hb))]; exact ⟨rfl, rfl⟩
/-- leaving a block out is leaving its key out -/
theorem en_del {L : List Nat} {b : Nat} (h : ∀ c ∈ L, (F c).k = (F b).k → c = b) : en F (L.filter fun x => decide (x ≠ b)) = delE (F b).k (en F L) := by
  unfold en delE
  rw [List.filter_map]
  congr 1
  refine List.filter_congr fun x hx => ?_
  simp only [Function.comp]
  rw [Bool.eq_iff_iff, decide_eq_true_iff, decide_eq_true_iff]
  exact ⟨fun h1 h2 => h1 (h x hx h2), fun h1 h2 => h1 (by rw [h2])⟩
theorem del_none {k : ByteArray} {l : List En} (h : ∀ x ∈ l, x.1 ≠ k) : delE k l = l := List.filter_eq_self.2 fun x hx => by simpa using h x hx
theorem sum_pos : ∀ {l : List En}, (∀ x ∈ l, 1 ≤ x.2) → (l.length : Int) ≤ sumE l
  | [], _ => by simp [sumE]
  | x :: l, h => by
    have h1 := sum_pos (l := l) fun y hy => h y (by simp [hy])
    have h2 := h x (by simp)
    rw [sumE, List.length_cons]; omega
theorem GG.en_pos (h : GG s0 s1 e0 e1 T K F) : (∀ x ∈ en F T, 1 ≤ x.2) ∧ ∀ x ∈ en F K, 1 ≤ x.2 := by
  constructor
  · intro x hx
    obtain ⟨b, hb, rfl⟩ := List.mem_map.1 hx
    exact h.pos b (.inl hb)
  · intro x hx
    obtain ⟨b, hb, rfl⟩ := List.mem_map.1 hx
    exact h.pos b (.inr hb)
end
theorem sum_nonneg {l : List En} (h : ∀ x ∈ l, 1 ≤ x.2) : 0 ≤ sumE l := by have := sum_pos h; omega
theorem sum_mem : ∀ {l : List En}, (∀ x ∈ l, 1 ≤ x.2) → ∀ x ∈ l, x.2 ≤ sumE l
  | y :: l, h, x, hx => by
    have h1 := sum_nonneg (l := l) fun z hz => h z (by simp [hz])
    have h2 := h y (by simp)
    rw [sumE]
    rcases List.mem_cons.1 hx with rfl | hx
    · omega
    · have := sum_mem (fun z hz => h z (by simp [hz])) x hx; omega
/-- which blocks, which rings, which map -/
structure Sx where
  e0 : Nat
  e1 : Nat
  mb : Nat
  T : List Nat
  K : List Nat
  F : Nat → Nd
  f : ByteArray → Option Nat
def Sx.nd (x : Sx) (b : Nat) : Prop := b = x.e0 ∨ b = x.e1 ∨ b ∈ x.T ∨ b ∈ x.K
def Sx.own (x : Sx) (g b : Nat) : Prop := b = g ∨ b = x.mb ∨ x.nd b
def Sx.tE (x : Sx) : List En := en x.F x.T
def Sx.kE (x : Sx) : List En := en x.F x.K
def Lk (f : ByteArray → Option Nat) (T K : List Nat) (F : Nat → Nd) : Prop := ∀ k b, f k = some b ↔ (b ∈ T ∨ b ∈ K) ∧ (F b).k = k
abbrev cel (g : Nat) (al ke mo : Int) (e0 e1 mb : Nat) (t k : Int) : Array Value := #[ptr g, .int .i64 al, .int .i64 ke, .int .i64 mo, ptr e0, .int .i64 t, ptr e1, .int .i64 k, .map (some mb)]
/-- a store of package slru: its budgets, its blocks -/
structure St (w : World) (g n : Nat) (al ke mo : Int) (x : Sx) : Prop where
  bk : Bk w g 124 (cel g al ke mo x.e0 x.e1 x.mb (sumE x.tE) (sumE x.kE))
  nn : NN w x.nd x.F
  gg : GG 0 1 x.e0 x.e1 x.T x.K x.F
  mp : MapP w x.mb n x.f
  lk : Lk x.f x.T x.K x.F
  lim : sumE x.tE + sumE x.kE ≤ 1073741824
  cnt : n ≤ 1099511627776
theorem ty_sp : (124 : TypeId) ≠ 148 := by decide
theorem St.ng {w : World} {g n : Nat} {al ke mo : Int} {x : Sx} (h : St w g n al ke mo x) : ¬ x.nd g := fun hg => (h.bk.ne_ (h.nn g hg) ty_sp) rfl
theorem St.nm {w : World} {g n : Nat} {al ke mo : Int} {x : Sx} (h : St w g n al ke mo x) : ¬ x.nd x.mb ∧ g ≠ x.mb := ⟨fun hg => bk_nomap (h.nn _ hg) h.mp rfl, bk_nomap h.bk h.mp⟩
theorem St.keep {w w' : World} {g n : Nat} {al ke mo : Int} {x : Sx} (h : St w g n al ke mo x) (hk : ∀ b, x.own g b → w'.heap[b]? = w.heap[b]?) : St w' g n al ke mo x :=
  ⟨h.bk.heap (hk g (.inl rfl)), h.nn.heap fun b hb => hk b (.inr (.inr hb)), h.gg, h.mp.keep (hk _ (.inr (.inl rfl))), h.lk, h.lim, h.cnt⟩
theorem St.lt {w : World} {g n : Nat} {al ke mo : Int} {x : Sx} (h : St w g n al ke mo x) {b : Nat} (hb : x.own g b) : b < w.heap.size := by
  rcases hb with rfl | rfl | hb
  · exact h.bk.lt
  · exact h.mp.lt
  · exact (h.nn b hb).lt
theorem St.below {w w' : World} {g n : Nat} {al ke mo : Int} {x : Sx} (h : St w g n al ke mo x) (hb : Below w.heap.size w w') : St w' g n al ke mo x := h.keep fun b ho => hb.block b (h.lt ho)
theorem St.chg {S : Nat → Prop} {w w' : World} {g n : Nat} {al ke mo : Int} {x : Sx} (h : St w g n al ke mo x) (hc : Chg S w w') (hs : ∀ b, x.own g b → ¬ S b) : St w' g n al ke mo x := h.keep fun b ho => hc.block b (h.lt ho) (hs b ho)
end Go.Proofs.YtjngangojgjceaaGreat.SL
