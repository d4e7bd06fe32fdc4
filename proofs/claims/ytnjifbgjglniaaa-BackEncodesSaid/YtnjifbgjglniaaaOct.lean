/- What each call of package octet does, for every input: what Put16, Put32 and PutText put, what Get16, Get32, GetText and GetBytes get, or why not; below the memory that was there nothing turns. Condition: the texts are of at most 2^48 bytes. -/
import Derived.Test.YtnjifbgjglniaaaRows
import Derived.Test.YtnjifbgjglniaaaShelf
import Derived.WalkKit
import Derived.ProofKit
import Derived.OpenShut
import Derived.ShutString
import Derived.Below
import Derived.IntWalk
import Derived.Lib.Strings
import Derived.Lib.Hide
import Derived.Lib.Bytealg
import Derived.Lib.Walk
import Derived.Lib.IndexLaws
import Derived.Laws.IdiomStrings
import Derived.Deep.QuietTactic
import Derived.Deep.RegionWith
import Derived.Deep.DeepCutAuto
import Derived.BigQuiet
namespace Go.Proofs.Ytnjifbgjglniaaa
open Go.ChangeShapes Go.WideShapes Go.ChangeAt Go.RowKit
set_option maxRecDepth 100000
set_option linter.unusedVariables false

def byt (n : Int) : UInt8 := UInt8.ofNat (n % 256).toNat
theorem byt_toNat (n : Int) : ((byt n).toNat : Int) = n % 256 := by
  unfold byt
  have h : (n % 256).toNat < 256 := by omega
  simp [UInt8.toNat_ofNat', Nat.mod_eq_of_lt h]
  omega
def put16 (s : ByteArray) (n : Int) : ByteArray := s ++ ⟨#[byt (n / 256), byt n]⟩
def put32 (s : ByteArray) (n : Int) : ByteArray := s ++ ⟨#[byt (n / 16777216), byt (n / 65536), byt (n / 256), byt n]⟩

theorem put16_any (s : ByteArray) (n : Int) (hs : s.size ≤ 281474976710656) (w : World) :
    Calls Try.prog 86 #[.string s, .int .i64 n] w fun e w' => e = .returned (.string (put16 s n)) ∧ Below w.heap.size w w' := by
  have hconv : (convert 63 9 (.slice (some ⟨w.heap.size, 0, none⟩) 2 2)).run Try.prog (w.alloc (.cells #[.int .u8 (n / 256 % 256), .int .u8 (n % 256)] 5)) = .ok (.string ⟨#[byt (n / 256), byt n]⟩) (w.alloc (.cells #[.int .u8 (n / 256 % 256), .int .u8 (n % 256)] 5)) := by
    refine run_convert_bytes_back (P := Try.prog) _ 63 9 5 _ 2 [byt (n / 256), byt n] Try.underlying63 Try.underlying5 Try.underlying9 ?_
    intro j hj
    match j, hj with
    | 0, _ => simp [byt_toNat, Addr.add, go_sem]
    | 1, _ => simp [byt_toNat, Addr.add, go_sem]
  go_enter Try.func86, Try.ntmps86
  go_wp2
  go_ret
  exact ⟨rfl, (Below.refl _ _).alloc (Nat.le_refl _) _⟩

theorem put32_any (s : ByteArray) (n : Int) (hs : s.size ≤ 281474976710656) (w : World) :
    Calls Try.prog 68 #[.string s, .int .i64 n] w fun e w' => e = .returned (.string (put32 s n)) ∧ Below w.heap.size w w' := by
  have hconv : (convert 63 9 (.slice (some ⟨w.heap.size, 0, none⟩) 4 4)).run Try.prog (w.alloc (.cells #[.int .u8 (n / 16777216 % 256), .int .u8 (n / 65536 % 256), .int .u8 (n / 256 % 256), .int .u8 (n % 256)] 5)) = .ok (.string ⟨#[byt (n / 16777216), byt (n / 65536), byt (n / 256), byt n]⟩) (w.alloc (.cells #[.int .u8 (n / 16777216 % 256), .int .u8 (n / 65536 % 256), .int .u8 (n / 256 % 256), .int .u8 (n % 256)] 5)) := by
    refine run_convert_bytes_back (P := Try.prog) _ 63 9 5 _ 4 [byt (n / 16777216), byt (n / 65536), byt (n / 256), byt n] Try.underlying63 Try.underlying5 Try.underlying9 ?_
    intro j hj
    match j, hj with
    | 0, _ => simp [byt_toNat, Addr.add, go_sem]
    | 1, _ => simp [byt_toNat, Addr.add, go_sem]
    | 2, _ => simp [byt_toNat, Addr.add, go_sem]
    | 3, _ => simp [byt_toNat, Addr.add, go_sem]
  go_enter Try.func68, Try.ntmps68
  go_wp2
  go_ret
  exact ⟨rfl, (Below.refl _ _).alloc (Nat.le_refl _) _⟩


def insB (n : Nat) (a : Int) : Bool := decide (0 ≤ a ∧ a ≤ n)

theorem within_any (s : ByteArray) (a : Int) (w : World) :
    Calls Try.prog 96 #[.string s, .int .i64 a] w fun e w' => e = .returned (.bool (insB s.size a)) ∧ w' = w := by
  by_cases h0 : 0 ≤ a
  · have e : decide (0 ≤ a) = true := by simpa using h0
    go_enter Try.func96, Try.ntmps96
    go_wp2
    go_ret
    refine ⟨?_, rfl⟩
    simp [insB, h0]
  · have e : decide (0 ≤ a) = false := by simpa using h0
    go_enter Try.func96, Try.ntmps96
    go_wp2
    go_ret
    refine ⟨?_, rfl⟩
    have : insB s.size a = false := by unfold insB; exact decide_eq_false (fun h => by omega)
    rw [this]; rfl

/-- why there is nothing: 1 (a place that is none), 3 (too few bytes) -/
def whyI (n : Nat) (a : Int) : Int := if insB n a then 3 else 1
theorem why_any (s : ByteArray) (a : Int) (w : World) :
    Calls Try.prog 94 #[.string s, .int .i64 a] w fun e w' => e = .returned (.int .i64 (whyI s.size a)) ∧ w' = w := by
  cases hb : insB s.size a
  · have c := within_any s a w
    rw [hb] at c
    go_enter Try.func94, Try.ntmps94
    go_wp2_with (go_at_call 96; refine c.mono ?_; rintro e w' ⟨rfl, rfl⟩)
    go_ret
    exact ⟨by simp [whyI, hb], rfl⟩
  · have c := within_any s a w
    rw [hb] at c
    go_enter Try.func94, Try.ntmps94
    go_wp2_with (go_at_call 96; refine c.mono ?_; rintro e w' ⟨rfl, rfl⟩)
    go_ret
    exact ⟨by simp [whyI, hb], rfl⟩

/-- a piece as a value -/
def pc (b : ByteArray) (k : Int) (t : Bool) : Value := .agg #[.string b, .int .i64 k, .bool t]

theorem counted_no (s : ByteArray) (a n : Int) (w : World) (hs : s.size ≤ maxLen) (hn : 0 ≤ n) (h : insB s.size a = false ∨ (s.size : Int) - a < n) :
    Calls Try.prog 93 #[.string s, .int .i64 a, .int .i64 n] w fun e w' => e = .returned (.agg #[.string ⟨#[]⟩, .int .i64 0, .bool false]) ∧ Below w.heap.size w w' := by
  unfold maxLen at hs
  cases hb : insB s.size a
  · have c := fun w => within_any s a w
    rw [hb] at c
    go_enter Try.func93, Try.ntmps93
    go_wp2_with (go_at_call 96; refine (c _).mono ?_; rintro e w' ⟨rfl, rfl⟩)
    exact bodyPost_ret (v := .agg #[.string ⟨#[]⟩, .int .i64 0, .bool false]) (by simp [results, Try.results93, go_sem]) rfl ⟨rfl, by first | exact (Below.refl _ _).alloc (Nat.le_refl _) _ | exact ((Below.refl _ _).alloc (Nat.le_refl _) _).setCell (by simp) _⟩
  · have c := fun w => within_any s a w
    rw [hb] at c
    have hi : 0 ≤ a ∧ a ≤ s.size := by simpa [insB] using hb
    have h2 : (s.size : Int) - a < n := by simpa [hb] using h
    clear h
    go_enter Try.func93, Try.ntmps93
    go_wp2_with (go_at_call 96; refine (c _).mono ?_; rintro e w' ⟨rfl, rfl⟩)
    exact bodyPost_ret (v := .agg #[.string ⟨#[]⟩, .int .i64 0, .bool false]) (by simp [results, Try.results93, go_sem]) rfl ⟨rfl, by first | exact (Below.refl _ _).alloc (Nat.le_refl _) _ | exact ((Below.refl _ _).alloc (Nat.le_refl _) _).setCell (by simp) _⟩

theorem counted_yes (s : ByteArray) (a n : Int) (w : World) (hs : s.size ≤ maxLen) (hn : 0 ≤ n) (h : insB s.size a = true) (h2 : n ≤ (s.size : Int) - a) :
    Calls Try.prog 93 #[.string s, .int .i64 a, .int .i64 n] w fun e w' => e = .returned (.agg #[.string (s.extract a.toNat (a + n).toNat), .int .i64 (a + n), .bool true]) ∧ Below w.heap.size w w' := by
  unfold maxLen at hs
  have c := fun w => within_any s a w
  rw [h] at c
  have hi : 0 ≤ a ∧ a ≤ s.size := by simpa [insB] using h
  obtain ⟨hi1, hi2⟩ := hi
  clear h
  have h3 : a ≤ a + n := by omega
  have h4 : a + n ≤ s.size := by omega
  have h5 : 0 ≤ a + n := by omega
  go_enter Try.func93, Try.ntmps93
  go_wp2_with (go_at_call 96; refine (c _).mono ?_; rintro e w' ⟨rfl, rfl⟩)
  exact bodyPost_ret (v := .agg #[.string (s.extract a.toNat (a + n).toNat), .int .i64 (a + n), .bool true]) (by simp [results, Try.results93, go_sem]) rfl ⟨rfl, (Below.refl _ _).alloc (Nat.le_refl _) _⟩

theorem slidx_any (s : ByteArray) (c : Int) (w : World) :
    Calls Try.prog 100 #[.string s, .int .u8 c] w fun e w' => e = .returned (.int .i64 (Lib.indexByte s.data.toList c.toNat.toUInt8)) ∧ w' = w := by
  go_enter Try.func100, Try.ntmps100
  go_wp2
  rw [run_callFunc_extern Try.func102 (by kernel_rfl) (by kernel_rfl) (by kernel_rfl) (e := Extern.BytealgIndexByte.indexByte) (by kernel_rfl), Lib.run_indexByteString]
  simp only [Result.andThen]
  rw [Oper.upon_value]
  go_wp2
  go_ret
  exact ⟨rfl, rfl⟩

theorem sidx_any (s : ByteArray) (c : Int) (w : World) :
    Calls Try.prog 97 #[.string s, .int .u8 c] w fun e w' => e = .returned (.int .i64 (Lib.indexByte s.data.toList c.toNat.toUInt8)) ∧ w' = w := by
  have h := slidx_any s c
  go_enter Try.func97, Try.ntmps97
  go_wp2_with (go_at_call 100; refine (h _).mono ?_; rintro e w' ⟨rfl, rfl⟩)
  go_ret
  exact ⟨rfl, rfl⟩

theorem slix_one (s : ByteArray) (c : UInt8) (w : World) :
    Calls Try.prog 101 #[.string s, .string ⟨#[c]⟩] w fun e w' => e = .returned (.int .i64 (Lib.indexByte s.data.toList c)) ∧ w' = w := by
  go_enter Try.func101, Try.ntmps101
  go_wp2_with (go_at_call 100; refine (slidx_any _ _ _).mono ?_; rintro e w' ⟨rfl, rfl⟩)
  · have h : ([c] == s.toList) = true := by assumption
    go_ret
    refine ⟨?_, rfl⟩
    have e : s.data.toList = [c] := by rw [← Lib.toList_data]; exact (beq_iff_eq.1 h).symm
    rw [e]
    simp [Lib.indexByte]
  · go_ret
    exact ⟨rfl, rfl⟩

/-- stringslite.Cut at a separator of one byte that is there -/
theorem slcut_yes (s : ByteArray) (c : UInt8) (o : Nat) (w : World) (hs : s.size ≤ 281474976710656) (ho : o < s.size) (h : Lib.indexByte s.data.toList c = o) :
    Calls Try.prog 98 #[.string s, .string ⟨#[c]⟩] w fun e w' => e = .returned (.tuple #[.string (s.extract 0 o), .string (s.extract (o + 1) s.size), .bool true]) ∧ ∃ n, w' = w.drewN n := by
  have cx := fun w => slix_one s c w
  rw [h] at cx
  clear h
  have h1 : IntKind.i64.wrap ((o : Int) + 1) = (o : Int) + 1 := IntWalk.i64_in _ (by omega)
  have h2 : (0 : Int) ≤ (o : Int) + 1 := by omega
  have h3 : ((o : Int) + 1).toNat = o + 1 := by omega
  have h4 : (o : Int) + 1 ≤ s.size := by omega
  have h5 : (o : Int) ≤ s.size := by omega
  go_enter Try.func98, Try.ntmps98
  go_wp2_with (go_at_call 101; refine (cx _).mono ?_; rintro e w' ⟨rfl, rfl⟩)
  go_quiet (fail)
  go_wp2
  go_ret3
  exact ⟨rfl, _, rfl⟩
theorem slcut_no (s : ByteArray) (c : UInt8) (w : World) (h : Lib.indexByte s.data.toList c = -1) :
    Calls Try.prog 98 #[.string s, .string ⟨#[c]⟩] w fun e w' => e = .returned (.tuple #[.string s, .string ⟨#[]⟩, .bool false]) ∧ w' = w := by
  have cx := fun w => slix_one s c w
  rw [h] at cx
  clear h
  go_enter Try.func98, Try.ntmps98
  go_wp2_with (go_at_call 101; refine (cx _).mono ?_; rintro e w' ⟨rfl, rfl⟩)
  go_ret3
  exact ⟨rfl, rfl⟩

theorem below_drewN {B : Nat} {a w : World} (h : Below B a w) (n : Nat) : Below B a (w.drewN n) := ⟨h.os, h.tape, h.output, h.size, h.block⟩

/-- how many bytes stand ahead of the first byte 0 (all, if there is none) -/
def zix (t : ByteArray) : Nat := if Lib.indexByte t.data.toList 0 = -1 then t.size else (Lib.indexByte t.data.toList 0).toNat
theorem zix_lt (t : ByteArray) (h : Lib.indexByte t.data.toList 0 ≠ -1) : zix t < t.size ∧ Lib.indexByte t.data.toList 0 = zix t := by
  have hg := Lib.indexByte_ge t.data.toList 0
  have e : Lib.indexByte t.data.toList 0 = ((Lib.indexByte t.data.toList 0).toNat : Int) := by omega
  have hz : zix t = (Lib.indexByte t.data.toList 0).toNat := by unfold zix; rw [if_neg h]
  have := (Lib.indexByte_some e).1
  have hl := (List.getElem?_eq_some_iff.1 this).1
  rw [← Lib.size_eq] at hl
  exact ⟨by rw [hz]; exact hl, by rw [hz]; exact e⟩
theorem zix_le (t : ByteArray) : zix t ≤ t.size := by
  by_cases h : Lib.indexByte t.data.toList 0 = -1
  · unfold zix; rw [if_pos h]; exact Nat.le_refl _
  · exact Nat.le_of_lt (zix_lt t h).1
def head0 (t : ByteArray) : ByteArray := t.extract 0 (zix t)
theorem head0_size (t : ByteArray) : (head0 t).size = zix t := by
  have := zix_le t
  unfold head0; simp; omega
def putText (s t : ByteArray) : ByteArray := s ++ head0 t ++ ⟨#[0]⟩

theorem cut0_any (t : ByteArray) (w : World) (hs : t.size ≤ 281474976710656) :
    Calls Try.prog 91 #[.string t, .string ⟨#[0]⟩] w fun e w' => (∃ r b, e = .returned (.tuple #[.string (head0 t), .string r, .bool b])) ∧ Below w.heap.size w w' := by
  by_cases h : Lib.indexByte t.data.toList 0 = -1
  · have c := fun w => slcut_no t 0 w h
    have e : head0 t = t := by unfold head0 zix; rw [if_pos h]; simp
    go_enter Try.func91, Try.ntmps91
    go_wp2_with (go_at_call 98; refine (c _).mono ?_; rintro e w' ⟨rfl, rfl⟩)
    go_ret3
    exact ⟨⟨_, _, by rw [e]; rfl⟩, Below.refl _ _⟩
  · obtain ⟨h1, h2⟩ := zix_lt t h
    have c := fun w => slcut_yes t 0 (zix t) w hs h1 h2
    clear h h1 h2
    go_enter Try.func91, Try.ntmps91
    go_wp2_with (go_at_call 98; refine (c _).mono ?_; rintro e w' ⟨rfl, n, rfl⟩)
    go_ret3
    exact ⟨⟨_, _, rfl⟩, below_drewN (Below.refl _ _) _⟩

theorem putText_any (s t : ByteArray) (w : World) (hs : s.size ≤ 281474976710656) (ht : t.size ≤ 281474976710656) :
    Calls Try.prog 78 #[.string s, .string t] w fun e w' => e = .returned (.string (putText s t)) ∧ Below w.heap.size w w' := by
  have hh := head0_size t
  have hz := zix_le t
  have hH : (head0 t).size ≤ 281474976710656 := by omega
  clear hh hz
  go_enter Try.func78, Try.ntmps78
  go_wp2_with (go_at_call 91; refine (cut0_any _ _ ht).mono ?_; rintro e w' ⟨⟨r, b, rfl⟩, hb⟩)
  go_ret
  exact ⟨rfl, hb⟩


theorem bcell {W w1 : World} (hb : Below W.heap.size W w1) : (∀ b o, b < W.heap.size → w1.cell? ⟨b, o, none⟩ = W.cell? ⟨b, o, none⟩) ∧ (∀ b o, b < W.heap.size → w1.frozen? ⟨b, o, none⟩ = W.frozen? ⟨b, o, none⟩) :=
  ⟨fun b o h => hb.cell (p := ⟨b, o, none⟩) h, fun b o h => hb.frozen (p := ⟨b, o, none⟩) h⟩

theorem clone_any (s : ByteArray) (w : World) (hs : s.size ≤ 281474976710656) :
    Calls Try.prog 95 #[.string s] w fun e w' => e = .returned (.string s) ∧ Below w.heap.size w w' := by
  have c := fun w => Try.stringslite_Clone s w (by omega)
  go_enter Try.func95, Try.ntmps95
  go_wp2_with (go_at_call 99; refine (c _).mono ?_; rintro e w' ⟨rfl, hb⟩)
  go_ret
  exact ⟨rfl, hb⟩

theorem tell_no (s : ByteArray) (a : Int) (w : World) :
    Calls Try.prog 89 #[.agg #[.string ⟨#[]⟩, .int .i64 0, .bool false], .string s, .int .i64 a] w fun e w' => e = .returned (.tuple #[.string ⟨#[]⟩, .int .i64 0, .int .i64 (whyI s.size a)]) ∧ Below w.heap.size w w' := by
  go_enter Try.func89, Try.ntmps89
  go_wp2_with (go_at_call 94; refine (why_any _ _ _).mono ?_; rintro e w' ⟨rfl, rfl⟩)
  go_ret3
  exact ⟨rfl, (Below.refl _ _).alloc (Nat.le_refl _) _⟩

theorem tell_yes (b : ByteArray) (k : Int) (s : ByteArray) (a : Int) (w : World) (hb : b.size ≤ 281474976710656) :
    Calls Try.prog 89 #[.agg #[.string b, .int .i64 k, .bool true], .string s, .int .i64 a] w fun e w' => e = .returned (.tuple #[.string b, .int .i64 k, .int .i64 0]) ∧ Below w.heap.size w w' := by
  go_enter Try.func89, Try.ntmps89
  go_wp2
  go_region_with (go_at_call 95; refine (clone_any _ _ hb).mono ?_; rintro e w' ⟨rfl, hb1⟩; obtain ⟨hcc, hff⟩ := bcell hb1)
  all_goals
    go_wp2
    go_ret3
    exact ⟨rfl, (((Below.refl _ _).alloc (Nat.le_refl _) _).drew).trans (hb1.mono (by simp))⟩

theorem closed_bad (s : ByteArray) (a : Int) (w : World) (h : insB s.size a = false) :
    Calls Try.prog 90 #[.string s, .int .i64 a] w fun e w' => e = .returned (.agg #[.string ⟨#[]⟩, .int .i64 0, .bool false]) ∧ Below w.heap.size w w' := by
  have c := fun w => within_any s a w
  rw [h] at c
  go_enter Try.func90, Try.ntmps90
  go_wp2_with (go_at_call 96; refine (c _).mono ?_; rintro e w' ⟨rfl, rfl⟩)
  exact bodyPost_ret (v := .agg #[.string ⟨#[]⟩, .int .i64 0, .bool false]) (by simp [results, Try.results90, go_sem]) rfl ⟨rfl, (Below.refl _ _).alloc (Nat.le_refl _) _⟩

/-- the bytes from a on, in the walk's words -/
theorem closed_no (s : ByteArray) (a : Int) (w : World) (hs : s.size ≤ 281474976710656) (h : insB s.size a = true) (hx : Lib.indexByte (s.extract a.toNat s.size).data.toList 0 = -1) :
    Calls Try.prog 90 #[.string s, .int .i64 a] w fun e w' => e = .returned (.agg #[.string ⟨#[]⟩, .int .i64 0, .bool false]) ∧ Below w.heap.size w w' := by
  have c := fun w => within_any s a w
  rw [h] at c
  have hi : 0 ≤ a ∧ a ≤ s.size := by simpa [insB] using h
  obtain ⟨hi1, hi2⟩ := hi
  have cx := fun w => sidx_any (s.extract a.toNat s.size) 0 w
  rw [show (0 : Int).toNat.toUInt8 = 0 from rfl, hx] at cx
  clear h hx
  go_enter Try.func90, Try.ntmps90
  go_wp2_with (first | (go_at_call 96; refine (c _).mono ?_; rintro e w' ⟨rfl, rfl⟩) | (go_at_call 97; refine (cx _).mono ?_; rintro e w' ⟨rfl, rfl⟩))
  exact bodyPost_ret (v := .agg #[.string ⟨#[]⟩, .int .i64 0, .bool false]) (by simp [results, Try.results90, go_sem]) rfl ⟨rfl, (Below.refl _ _).alloc (Nat.le_refl _) _⟩

theorem closed_yes (s : ByteArray) (a : Int) (o : Nat) (w : World) (hs : s.size ≤ 281474976710656) (h : insB s.size a = true) (hx : Lib.indexByte (s.extract a.toNat s.size).data.toList 0 = o) (ho : a + o < s.size) :
    Calls Try.prog 90 #[.string s, .int .i64 a] w fun e w' => e = .returned (.agg #[.string (s.extract a.toNat (a + o).toNat), .int .i64 (a + o + 1), .bool true]) ∧ Below w.heap.size w w' := by
  have c := fun w => within_any s a w
  rw [h] at c
  have hi : 0 ≤ a ∧ a ≤ s.size := by simpa [insB] using h
  obtain ⟨hi1, hi2⟩ := hi
  have cx := fun w => sidx_any (s.extract a.toNat s.size) 0 w
  rw [show (0 : Int).toNat.toUInt8 = 0 from rfl, hx] at cx
  have h3 : a ≤ a + o := by omega
  have h4 : a + o ≤ s.size := by omega
  have h5 : 0 ≤ a + (o : Int) := by omega
  clear h hx
  go_enter Try.func90, Try.ntmps90
  go_wp2_with (first | (go_at_call 96; refine (c _).mono ?_; rintro e w' ⟨rfl, rfl⟩) | (go_at_call 97; refine (cx _).mono ?_; rintro e w' ⟨rfl, rfl⟩))
  exact bodyPost_ret (v := .agg #[.string (s.extract a.toNat (a + o).toNat), .int .i64 (a + o + 1), .bool true]) (by simp [results, Try.results90, go_sem]) rfl ⟨rfl, (Below.refl _ _).alloc (Nat.le_refl _) _⟩


def gBytes (s : ByteArray) (a n : Int) : ByteArray × Int × Int :=
  if n < 0 then (⟨#[]⟩, 0, 1) else if insB s.size a = false then (⟨#[]⟩, 0, 1) else if (s.size : Int) - a < n then (⟨#[]⟩, 0, 3) else (s.extract a.toNat (a + n).toNat, a + n, 0)

def gText (s : ByteArray) (a : Int) : ByteArray × Int × Int :=
  if insB s.size a = false then (⟨#[]⟩, 0, 1) else if Lib.indexByte (s.extract a.toNat s.size).data.toList 0 = -1 then (⟨#[]⟩, 0, 3)
  else (s.extract a.toNat (a + Lib.indexByte (s.extract a.toNat s.size).data.toList 0).toNat, a + Lib.indexByte (s.extract a.toNat s.size).data.toList 0 + 1, 0)

def res3 (r : ByteArray × Int × Int) : Value := .tuple #[.string r.1, .int .i64 r.2.1, .int .i64 r.2.2]

theorem getBytes_any (s : ByteArray) (a n : Int) (w : World) (hs : s.size ≤ 281474976710656) :
    Calls Try.prog 88 #[.string s, .int .i64 a, .int .i64 n] w fun e w' => e = .returned (res3 (gBytes s a n)) ∧ Below w.heap.size w w' := by
  have hm : s.size ≤ maxLen := by unfold maxLen; omega
  by_cases hn : n < 0
  · have e : gBytes s a n = (⟨#[]⟩, 0, 1) := by unfold gBytes; rw [if_pos hn]
    rw [e]; clear e
    go_enter Try.func88, Try.ntmps88
    go_wp2
    go_ret3
    exact ⟨rfl, Below.refl _ _⟩
  · cases hi : insB s.size a
    · have e : gBytes s a n = (⟨#[]⟩, 0, 1) := by unfold gBytes; rw [if_neg hn, if_pos hi]
      have c := fun w => counted_no s a n w hm (by omega) (.inl hi)
      have d := fun w => tell_no s a w
      have e2 : whyI s.size a = 1 := by unfold whyI; rw [hi]; rfl
      rw [e2] at d
      rw [e]; clear e e2 hi
      go_enter Try.func88, Try.ntmps88
      go_wp2_with (first | (go_at_call 93; refine (c _).mono ?_; rintro e w1 ⟨rfl, hb1⟩) | (go_at_call 89; refine (d _).mono ?_; rintro e w2 ⟨rfl, hb2⟩))
      go_ret3
      exact ⟨rfl, hb1.trans (hb2.mono hb1.size)⟩
    · by_cases hl : (s.size : Int) - a < n
      · have e : gBytes s a n = (⟨#[]⟩, 0, 3) := by unfold gBytes; rw [if_neg hn, if_neg (by rw [hi]; decide), if_pos hl]
        have c := fun w => counted_no s a n w hm (by omega) (.inr hl)
        have d := fun w => tell_no s a w
        have e2 : whyI s.size a = 3 := by unfold whyI; rw [hi]; rfl
        rw [e2] at d
        rw [e]; clear e e2 hi
        go_enter Try.func88, Try.ntmps88
        go_wp2_with (first | (go_at_call 93; refine (c _).mono ?_; rintro e w1 ⟨rfl, hb1⟩) | (go_at_call 89; refine (d _).mono ?_; rintro e w2 ⟨rfl, hb2⟩))
        go_ret3
        exact ⟨rfl, hb1.trans (hb2.mono hb1.size)⟩
      · have e : gBytes s a n = (s.extract a.toNat (a + n).toNat, a + n, 0) := by unfold gBytes; rw [if_neg hn, if_neg (by rw [hi]; decide), if_neg hl]
        have c := fun w => counted_yes s a n w hm (by omega) hi (by omega)
        have d := fun w => tell_yes (s.extract a.toNat (a + n).toNat) (a + n) s a w (by simp; omega)
        rw [e]; clear e hi
        go_enter Try.func88, Try.ntmps88
        go_wp2_with (first | (go_at_call 93; refine (c _).mono ?_; rintro e w1 ⟨rfl, hb1⟩) | (go_at_call 89; refine (d _).mono ?_; rintro e w2 ⟨rfl, hb2⟩))
        go_ret3
        exact ⟨rfl, hb1.trans (hb2.mono hb1.size)⟩

theorem getText_any (s : ByteArray) (a : Int) (w : World) (hs : s.size ≤ 281474976710656) :
    Calls Try.prog 77 #[.string s, .int .i64 a] w fun e w' => e = .returned (res3 (gText s a)) ∧ Below w.heap.size w w' := by
  cases hi : insB s.size a
  · have e : gText s a = (⟨#[]⟩, 0, 1) := by unfold gText; rw [if_pos hi]
    have c := fun w => closed_bad s a w hi
    have d := fun w => tell_no s a w
    have e2 : whyI s.size a = 1 := by unfold whyI; rw [hi]; rfl
    rw [e2] at d
    rw [e]; clear e e2 hi
    go_enter Try.func77, Try.ntmps77
    go_wp2_with (first | (go_at_call 90; refine (c _).mono ?_; rintro e w1 ⟨rfl, hb1⟩) | (go_at_call 89; refine (d _).mono ?_; rintro e w2 ⟨rfl, hb2⟩))
    go_ret3
    exact ⟨rfl, hb1.trans (hb2.mono hb1.size)⟩
  · by_cases hx : Lib.indexByte (s.extract a.toNat s.size).data.toList 0 = -1
    · have e : gText s a = (⟨#[]⟩, 0, 3) := by unfold gText; rw [if_neg (by rw [hi]; decide), if_pos hx]
      have c := fun w => closed_no s a w hs hi hx
      have d := fun w => tell_no s a w
      have e2 : whyI s.size a = 3 := by unfold whyI; rw [hi]; rfl
      rw [e2] at d
      rw [e]; clear e e2 hi hx
      go_enter Try.func77, Try.ntmps77
      go_wp2_with (first | (go_at_call 90; refine (c _).mono ?_; rintro e w1 ⟨rfl, hb1⟩) | (go_at_call 89; refine (d _).mono ?_; rintro e w2 ⟨rfl, hb2⟩))
      go_ret3
      exact ⟨rfl, hb1.trans (hb2.mono hb1.size)⟩
    · have hi2 : 0 ≤ a ∧ a ≤ s.size := by simpa [insB] using hi
      have hg := Lib.indexByte_ge (s.extract a.toNat s.size).data.toList 0
      obtain ⟨o, ho⟩ : ∃ o : Nat, Lib.indexByte (s.extract a.toNat s.size).data.toList 0 = o := ⟨_, (Int.toNat_of_nonneg (by omega)).symm⟩
      have hl : o < s.size - a.toNat := by
        have h1 := (List.getElem?_eq_some_iff.1 (Lib.indexByte_some ho).1).1
        rw [← Lib.size_eq] at h1
        simpa using h1
      have e : gText s a = (s.extract a.toNat (a + o).toNat, a + o + 1, 0) := by unfold gText; rw [if_neg (by rw [hi]; decide), if_neg hx, ho]
      have c := fun w => closed_yes s a o w hs hi ho (by omega)
      have d := fun w => tell_yes (s.extract a.toNat (a + o).toNat) (a + o + 1) s a w (by simp; omega)
      rw [e]; clear e hi hx ho
      go_enter Try.func77, Try.ntmps77
      go_wp2_with (first | (go_at_call 90; refine (c _).mono ?_; rintro e w1 ⟨rfl, hb1⟩) | (go_at_call 89; refine (d _).mono ?_; rintro e w2 ⟨rfl, hb2⟩))
      go_ret3
      exact ⟨rfl, hb1.trans (hb2.mono hb1.size)⟩


/-- bytes as a number, the greatest first -/
def beN (l : List UInt8) : Nat := l.foldl (fun r b => r * 256 + b.toNat) 0
theorem beN_snoc (l : List UInt8) (b : UInt8) : beN (l ++ [b]) = beN l * 256 + b.toNat := by unfold beN; rw [List.foldl_append]; rfl
theorem beN_from (l : List UInt8) : ∀ r : Nat, l.foldl (fun r b => r * 256 + b.toNat) r < (r + 1) * 256 ^ l.length := by
  induction l with
  | nil => intro r; simp
  | cons b l ih =>
    intro r
    have h := ih (r * 256 + b.toNat)
    have hb := b.toNat_lt
    rw [List.foldl_cons, List.length_cons, Nat.pow_succ]
    refine Nat.lt_of_lt_of_le h ?_
    have : r * 256 + b.toNat + 1 ≤ (r + 1) * 256 := by omega
    calc (r * 256 + b.toNat + 1) * 256 ^ l.length ≤ ((r + 1) * 256) * 256 ^ l.length := Nat.mul_le_mul_right _ this
      _ = (r + 1) * (256 ^ l.length * 256) := by rw [Nat.mul_assoc, Nat.mul_comm 256]
theorem beN_lt (l : List UInt8) : beN l < 256 ^ l.length := by simpa [beN] using beN_from l 0
theorem take_snoc (s : ByteArray) (k : Nat) (h : k < s.size) : s.data.toList.take (k + 1) = s.data.toList.take k ++ [s[k]] := by
  rw [List.take_succ_eq_append_getElem (by simpa using h)]; rfl

theorem or_step (m : Nat) (b : UInt8) (hm : m < 16777216) : bits .or .u32 ((m : Int) * 256 % 4294967296) ((b.toNat : Int) % 4294967296) = ((m * 256 + b.toNat : Nat) : Int) := by
  have hb := b.toNat_lt
  have e1 : (m : Int) * 256 % 4294967296 = ((m * 256 : Nat) : Int) := by omega
  have e2 : (b.toNat : Int) % 4294967296 = ((b.toNat : Nat) : Int) := by omega
  rw [e1, e2, u32_or_nat _ _ (by omega) (by omega), nat_join8 _ _ (by omega) (by omega)]

theorem unsigned_no (s : ByteArray) (a n : Int) (w : World) (hs : s.size ≤ 281474976710656) (hn : 0 ≤ n) (h : insB s.size a = false ∨ (s.size : Int) - a < n) :
    Calls Try.prog 85 #[.string s, .int .i64 a, .int .i64 n] w fun e w' => e = .returned (.tuple #[.int .u32 0, .int .i64 0, .int .i64 (whyI s.size a)]) ∧ Below w.heap.size w w' := by
  have hm : s.size ≤ maxLen := by unfold maxLen; omega
  have c := fun w => counted_no s a n w hm hn h
  have d := fun w => why_any s a w
  clear h
  go_enter Try.func85, Try.ntmps85
  go_wp2_with (first | (go_at_call 93; refine (c _).mono ?_; rintro e w1 ⟨rfl, hb1⟩) | (go_at_call 94; refine (d _).mono ?_; rintro e w2 ⟨rfl, rfl⟩))
  go_ret3
  exact ⟨rfl, (hb1.alloc hb1.size _)⟩

theorem unsigned_yes (s : ByteArray) (a : Int) (n : Nat) (w : World) (hs : s.size ≤ 281474976710656) (hn : n ≤ 4) (h : insB s.size a = true) (h2 : (n : Int) ≤ (s.size : Int) - a) :
    Calls Try.prog 85 #[.string s, .int .i64 a, .int .i64 n] w fun e w' => e = .returned (.tuple #[.int .u32 (beN (s.extract a.toNat (a + n).toNat).data.toList), .int .i64 (a + n), .int .i64 0]) ∧ Below w.heap.size w w' := by
  have hm : s.size ≤ maxLen := by unfold maxLen; omega
  have c := fun w => counted_yes s a n w hm (by omega) h h2
  have hi : 0 ≤ a ∧ a ≤ s.size := by simpa [insB] using h
  obtain ⟨hi1, hi2⟩ := hi
  have hz : (s.extract a.toNat (a + n).toNat).size = n := by simp; omega
  generalize s.extract a.toNat (a + n).toNat = r at *
  clear h
  go_enter Try.func85, Try.ntmps85
  go_wp2_with (first | (go_at_call 93; refine (c _).mono ?_; rintro e w1 ⟨rfl, hb1⟩))
  go_loop [10, 23] (fun x i => ∃ k : Nat, k ≤ n ∧ i = .int .i64 k ∧ x = .int .u32 (beN (r.data.toList.take k))) (fun _ i => n - (intOf i).toNat)
  case atStart => exact ⟨0, Nat.zero_le _, rfl, rfl⟩
  case round =>
    obtain ⟨k, hk, rfl, rfl⟩ := hrel
    by_cases hlt : k < n
    · have hkr : k < r.size := by omega
      have hb := beN_lt (r.data.toList.take k)
      have hlen : (r.data.toList.take k).length = k := by simp; omega
      have h3 : 256 ^ k ≤ 256 ^ 3 := Nat.pow_le_pow_right (by decide) (by omega)
      rw [hlen] at hb
      have hs1 : Hid (beN (r.data.toList.take (k + 1)) = beN (r.data.toList.take k) * 256 + r[k].toNat) := Lib.hid (by rw [take_snoc r k hkr, beN_snoc])
      have ho := Lib.hid (or_step (beN (r.data.toList.take k)) r[k] (by omega))
      clear hb hlen h3
      go_wp2
      go_round
      case rel => exact ⟨k + 1, by omega, by go_num, by rw [ho.out, hs1.out]⟩
      case measure => simp [intOf]; omega
    · have e : k = n := by omega
      subst e
      have ht := Lib.hid (show r.data.toList.take k = r.data.toList from List.take_of_length_le (by rw [← Lib.size_eq]; omega))
      clear hz
      go_wp2
      go_quiet (fail)
      go_wp2
      go_ret3
      refine ⟨?_, below_drewN (hb1.alloc hb1.size _) _⟩
      rw [ht.out]; rfl


def sgn16 (n : Nat) : Int := if n < 32768 then n else (n : Int) - 65536
def sgn32 (n : Nat) : Int := if n < 2147483648 then n else (n : Int) - 4294967296
theorem sgn16_wrap (n : Nat) (h : n < 65536) : wrap64 (IntKind.i16.wrap n) = sgn16 n := by
  unfold sgn16 wrap64; split <;> simp [IntKind.wrap, IntKind.bits, IntKind.signed] <;> omega
theorem sgn32_wrap (n : Nat) (h : n < 4294967296) : wrap64 (wrap32 n) = sgn32 n := by
  unfold sgn32 wrap64 wrap32; split <;> omega
def g16 (s : ByteArray) (a : Int) : Int × Int × Int :=
  if insB s.size a = false then (0, 0, 1) else if (s.size : Int) - a < 2 then (0, 0, 3) else (sgn16 (beN (s.extract a.toNat (a + 2).toNat).data.toList), a + 2, 0)
def g32 (s : ByteArray) (a : Int) : Int × Int × Int :=
  if insB s.size a = false then (0, 0, 1) else if (s.size : Int) - a < 4 then (0, 0, 3) else (sgn32 (beN (s.extract a.toNat (a + 4).toNat).data.toList), a + 4, 0)
def int3 (r : Int × Int × Int) : Value := .tuple #[.int .i64 r.1, .int .i64 r.2.1, .int .i64 r.2.2]

theorem get16_any (s : ByteArray) (a : Int) (w : World) (hs : s.size ≤ 281474976710656) :
    Calls Try.prog 92 #[.string s, .int .i64 a] w fun e w' => e = .returned (int3 (g16 s a)) ∧ Below w.heap.size w w' := by
  by_cases hc : insB s.size a = false ∨ (s.size : Int) - a < 2
  · have c := fun w => unsigned_no s a 2 w hs (by omega) hc
    have e : g16 s a = (0, 0, whyI s.size a) := by
      unfold g16 whyI
      by_cases hi : insB s.size a = false
      · rw [if_pos hi, hi]; rfl
      · rw [if_neg hi, if_pos (by rcases hc with hc | hc; exact absurd hc hi; exact hc), if_pos (by simpa using hi)]
    rw [e]; clear e hc
    go_enter Try.func92, Try.ntmps92
    go_wp2_with (go_at_call 85; refine (c _).mono ?_; rintro e w1 ⟨rfl, hb1⟩)
    go_ret3
    exact ⟨rfl, hb1⟩
  · have hi : insB s.size a = true := by cases h : insB s.size a; exact absurd (.inl h) hc; rfl
    have hl : ¬ (s.size : Int) - a < 2 := fun h => hc (.inr h)
    obtain ⟨B, hB⟩ : ∃ B, beN (s.extract a.toNat (a + 2).toNat).data.toList = B := ⟨_, rfl⟩
    have c : ∀ w, Calls Try.prog 85 #[.string s, .int .i64 a, .int .i64 2] w fun e w' => e = .returned (.tuple #[.int .u32 B, .int .i64 (a + 2), .int .i64 0]) ∧ Below w.heap.size w w' := fun w => by
      have := unsigned_yes s a 2 w hs (by omega) hi (by show (2 : Int) ≤ _; omega)
      rw [← hB]; exact this
    have e : g16 s a = (sgn16 B, a + 2, 0) := by
      unfold g16; rw [if_neg (by rw [hi]; decide), if_neg hl, hB]
    have hi2 : 0 ≤ a ∧ a ≤ s.size := by simpa [insB] using hi
    have hlt := beN_lt (s.extract a.toNat (a + 2).toNat).data.toList
    have hlen : (s.extract a.toNat (a + 2).toNat).data.toList.length = 2 := by rw [← Lib.size_eq]; simp; omega
    rw [hlen, hB] at hlt
    have hw := Lib.hid (sgn16_wrap B (by omega))
    rw [e]; clear e hc hi hl hB hlen
    go_enter Try.func92, Try.ntmps92
    go_wp2_with (go_at_call 85; refine (c _).mono ?_; rintro e w1 ⟨rfl, hb1⟩)
    go_ret3
    refine ⟨?_, hb1⟩
    show Ending.returned (.tuple #[.int .i64 (wrap64 (IntKind.i16.wrap B)), .int .i64 (a + 2), .int .i64 0]) = _
    rw [hw.out]; rfl

theorem get32_any (s : ByteArray) (a : Int) (w : World) (hs : s.size ≤ 281474976710656) :
    Calls Try.prog 71 #[.string s, .int .i64 a] w fun e w' => e = .returned (int3 (g32 s a)) ∧ Below w.heap.size w w' := by
  by_cases hc : insB s.size a = false ∨ (s.size : Int) - a < 4
  · have c := fun w => unsigned_no s a 4 w hs (by omega) hc
    have e : g32 s a = (0, 0, whyI s.size a) := by
      unfold g32 whyI
      by_cases hi : insB s.size a = false
      · rw [if_pos hi, hi]; rfl
      · rw [if_neg hi, if_pos (by rcases hc with hc | hc; exact absurd hc hi; exact hc), if_pos (by simpa using hi)]
    rw [e]; clear e hc
    go_enter Try.func71, Try.ntmps71
    go_wp2_with (go_at_call 85; refine (c _).mono ?_; rintro e w1 ⟨rfl, hb1⟩)
    go_ret3
    exact ⟨rfl, hb1⟩
  · have hi : insB s.size a = true := by cases h : insB s.size a; exact absurd (.inl h) hc; rfl
    have hl : ¬ (s.size : Int) - a < 4 := fun h => hc (.inr h)
    obtain ⟨B, hB⟩ : ∃ B, beN (s.extract a.toNat (a + 4).toNat).data.toList = B := ⟨_, rfl⟩
    have c : ∀ w, Calls Try.prog 85 #[.string s, .int .i64 a, .int .i64 4] w fun e w' => e = .returned (.tuple #[.int .u32 B, .int .i64 (a + 4), .int .i64 0]) ∧ Below w.heap.size w w' := fun w => by
      have := unsigned_yes s a 4 w hs (by omega) hi (by show (4 : Int) ≤ _; omega)
      rw [← hB]; exact this
    have e : g32 s a = (sgn32 B, a + 4, 0) := by
      unfold g32; rw [if_neg (by rw [hi]; decide), if_neg hl, hB]
    have hi2 : 0 ≤ a ∧ a ≤ s.size := by simpa [insB] using hi
    have hlt := beN_lt (s.extract a.toNat (a + 4).toNat).data.toList
    have hlen : (s.extract a.toNat (a + 4).toNat).data.toList.length = 4 := by rw [← Lib.size_eq]; simp; omega
    rw [hlen, hB] at hlt
    have hw := Lib.hid (sgn32_wrap B (by omega))
    rw [e]; clear e hc hi hl hB hlen
    go_enter Try.func71, Try.ntmps71
    go_wp2_with (go_at_call 85; refine (c _).mono ?_; rintro e w1 ⟨rfl, hb1⟩)
    go_ret3
    refine ⟨?_, hb1⟩
    show Ending.returned (.tuple #[.int .i64 (wrap64 (wrap32 B)), .int .i64 (a + 4), .int .i64 0]) = _
    rw [hw.out]; rfl
end Go.Proofs.Ytnjifbgjglniaaa
