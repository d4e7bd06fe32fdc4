/- What the document's own Fill at layer 5 answers. Conditions: how many tokens, how long their texts.
   What the laws' light at layer 5 answers. Condition: none.
   What strings.Trim answers at the ten digits: nothing is left just where all bytes are digits. Condition: a text's length.
   What package norm's param answers. Condition: how long a parameter's text.
   What package sets' isSign, isWord, isKeyWord, isName answer. Conditions: how many tokens.
   What package sets' isKeyWord answers. Condition: none.
   What package sets' isName, nameSize, behindAlias, nameText answer. Conditions: how many tokens, how long their texts.
   What package sets' behindAlias and nameText answer; a token in a list of words that the call has just made. Conditions: how many tokens, how long their texts.
   What package sets' nameText answers. Conditions: how long texts are.
   What package sets' namesFrom answers, whatever is told of each name. Conditions: how many tokens, how long their texts. -/
import Derived.Test.YtjloookjlnmgdaaGreatDoorG14
import Derived.Test.YtjloookjlnmgdaaGreatDoorG13
import Derived.Deep.WholeRow
import Derived.Lib.UnsafeStr
import Derived.Test.YtjloookjlnmgdaaGreatDoorShelf
import Derived.WalkMore
import Derived.BigQuiet
import Derived.OwnWalk
import Derived.Deep.QuietTactic
import Derived.Deep.RegionWith
import Derived.Deep.RegionHeld3
import Derived.Deep.LoopGhost
set_option linter.unusedSimpArgs false
set_option linter.unusedVariables false
namespace Go.Proofs.YtjloookjlnmgdaaGreatDoor
open Go.ChangeShapes Go.WideShapes Go.ChangeAt Go.RowKit
set_option maxRecDepth 100000
set_option linter.unusedVariables false
set_option linter.unusedSimpArgs false

/-- a slice of one-cell things reads as a list -/
def CR (w : World) (v : Value) (xs : List Value) : Prop :=
  (∃ a cap, v = .slice a 0 cap ∧ xs = []) ∨ ∃ g off cap, v = .slice (some ⟨g, off, none⟩) xs.length cap ∧ xs.length ≤ cap ∧ ∀ i x, xs[i]? = some x → w.cell? ⟨g, off + i, none⟩ = some x
theorem cr_cells {α : Type} (f : α → Value) {w : World} {v : Value} {l : List α} (h : CR w v (l.map f)) : ∃ a cap, v = .slice a l.length cap ∧ (l.length = 0 ∨ ∃ g off, a = some ⟨g, off, none⟩ ∧ l.length ≤ cap ∧ ∀ k (hk : k < l.length), w.cell? ⟨g, off + k, none⟩ = some (f l[k])) := by
  rcases h with ⟨A, cap, rfl, he⟩ | ⟨g, off, cap, rfl, hc, hx⟩
  · rw [List.map_eq_nil_iff] at he
    subst he
    exact ⟨_, _, rfl, .inl rfl⟩
  · rw [List.length_map] at hc ⊢
    exact ⟨_, _, rfl, .inr ⟨g, off, rfl, hc, fun k hk => hx k (f l[k]) (by rw [List.getElem?_map, List.getElem?_eq_getElem hk]; rfl)⟩⟩
/-- a token with its parameter's value -/
def fillT (n : Nat) (t : Tok) (args : List ByteArray) (null : List Bool) : Tok := if null.getD (n - 1) false = true then (1, ⟨#[110, 117, 108, 108]⟩, t.2.2) else (3, args.getD (n - 1) ⟨#[]⟩, t.2.2)
def fillA (l : List Tok) (args : List ByteArray) (null : List Bool) : List Tok × Int :=
  if args.length ≠ null.length then ([], 1) else match fillL l args null with | some r => (r, 0) | none => ([], 8)
def FillP (w : World) (r : List Tok × Int) (e : Ending) (w' : World) : Prop := ∃ v, e = .returned (.tuple #[v, .int .i64 r.2]) ∧ w'.ownsRow w.heap.size 27 3 v r.1.length (tokRow r.1) ∧ Below w.heap.size w w'
theorem fill_cons (t : Tok) (r : List Tok) (args : List ByteArray) (null : List Bool) : fillL (t :: r) args null = match parT t with | none => (fillL r args null).map (t :: ·) | some n => if n = 0 ∨ args.length < n then none else (fillL r args null).map (fillT n t args null :: ·) := by
  rw [fillL]
  cases parT t <;> rfl
theorem fill_more (o : Option (List Tok)) (acc : List Tok) (t : Tok) : (o.map (t :: ·)).map (acc ++ ·) = o.map ((acc ++ [t]) ++ ·) := by
  cases o with
  | none => rfl
  | some r => simp
theorem tok_kept {wr w2 : World} (t : Tok) (hb : Below (wr.alloc (.cells #[.int .i64 t.1, .string t.2.1, .int .i64 t.2.2] 27)).heap.size (wr.alloc (.cells #[.int .i64 t.1, .string t.2.1, .int .i64 t.2.2] 27)) w2) :
    w2.cell? ⟨wr.heap.size, 0, none⟩ = some (.int .i64 t.1) ∧ w2.cell? ⟨wr.heap.size, 1, none⟩ = some (.string t.2.1) ∧ w2.cell? ⟨wr.heap.size, 2, none⟩ = some (.int .i64 t.2.2) ∧
    w2.frozen? ⟨wr.heap.size, 0, none⟩ = false ∧ w2.frozen? ⟨wr.heap.size, 1, none⟩ = false ∧ w2.frozen? ⟨wr.heap.size, 2, none⟩ = false ∧ Below wr.heap.size wr w2 ∧ wr.heap.size < w2.heap.size := by
  have hs : wr.heap.size < (wr.alloc (.cells #[.int .i64 t.1, .string t.2.1, .int .i64 t.2.2] 27)).heap.size := by simp
  refine ⟨?_, ?_, ?_, ?_, ?_, ?_, ((Below.refl _ _).alloc (Nat.le_refl _) _).trans (hb.mono (by simp)), Nat.lt_of_lt_of_le hs hb.size⟩
  · rw [hb.cell (p := ⟨wr.heap.size, 0, none⟩) hs, World.cell?_alloc_mark]; rfl
  · rw [hb.cell (p := ⟨wr.heap.size, 1, none⟩) hs, World.cell?_alloc_mark]; rfl
  · rw [hb.cell (p := ⟨wr.heap.size, 2, none⟩) hs, World.cell?_alloc_mark]; rfl
  · rw [hb.frozen (p := ⟨wr.heap.size, 0, none⟩) hs, World.frozen?_alloc_mark]; rfl
  · rw [hb.frozen (p := ⟨wr.heap.size, 1, none⟩) hs, World.frozen?_alloc_mark]; rfl
  · rw [hb.frozen (p := ⟨wr.heap.size, 2, none⟩) hs, World.frozen?_alloc_mark]; rfl
end Go.Proofs.YtjloookjlnmgdaaGreatDoor
namespace Go.Proofs.YtjloookjlnmgdaaGreatDoor
open Go.ChangeShapes Go.WideShapes Go.ChangeAt Go.RowKit
set_option maxRecDepth 100000
set_option linter.unusedVariables false
set_option linter.unusedSimpArgs false

def lightL (l : List Tok) : Bool := decide (l.length ≤ 100) && l.all fun t => decide (t.2.1.size ≤ 200)
theorem light_yes {l : List Tok} (h : lightL l = true) : l.length ≤ 100 ∧ ∀ t ∈ l, t.2.1.size ≤ 200 := by
  unfold lightL at h
  rw [Bool.and_eq_true, decide_eq_true_iff, List.all_eq_true] at h
  exact ⟨h.1, fun t ht => of_decide_eq_true (h.2 t ht)⟩
end Go.Proofs.YtjloookjlnmgdaaGreatDoor
namespace Go.Proofs.YtjloookjlnmgdaaGreatDoor
open Go.ChangeShapes Go.WideShapes Go.ChangeAt Go.RowKit
set_option maxRecDepth 100000
set_option linter.unusedVariables false
set_option linter.unusedSimpArgs false

def tenT : Tx := [48, 49, 50, 51, 52, 53, 54, 55, 56, 57]
def ten_bytesT (c : UInt8) : Bool := tenT.contains c == digB c
theorem ten_bytes : ((List.range 256).all fun n => ten_bytesT (UInt8.ofNat n)) = true := by kernel_rfl
theorem ten_dig (c : UInt8) : tenT.contains c = digB c := by
  have := byte_all (f := ten_bytesT) ten_bytes c
  unfold ten_bytesT at this
  exact beq_iff_eq.1 this
theorem all_head (t : ByteArray) (h : 0 < t.size) : t.data.toList.all digB = (digB (t[0]'h) && (t.extract 1 t.size).data.toList.all digB) := by
  have e := byte_at t 0 h
  rw [List.drop_zero] at e
  rw [ext_list, e, List.all_cons]; rfl
theorem all_last (t : ByteArray) (n : Nat) (h : n < t.size) (hn : t.size = n + 1) : t.data.toList.all digB = ((t.extract 0 n).data.toList.all digB && digB (t[n]'h)) := by
  have e : t.data.toList = t.data.toList.take n ++ [t[n]'h] := by
    have h1 := byte_at t n h
    have h2 : t.data.toList.drop (n + 1) = [] := List.drop_eq_nil_of_le (by have : t.size = t.data.toList.length := rfl; omega)
    rw [h2] at h1
    conv => lhs; rw [← List.take_append_drop n t.data.toList]
    rw [h1]
  have h3 : (t.extract 0 n).data.toList = t.data.toList.take n := by
    rw [ByteArray.data_extract, Array.toList_extract, List.extract_eq_take_drop]; simp
  rw [h3]
  conv => lhs; rw [e]
  rw [List.all_append]; simp
/-- what is left: nothing just where all of s are digits -/
def LeftP (s : ByteArray) (w : World) (e : Ending) (w' : World) : Prop := ∃ t : ByteArray, e = .returned (.string t) ∧ (t.size = 0 ↔ s.data.toList.all digB = true) ∧ w = w'
def RightP (s : ByteArray) (w : World) (e : Ending) (w' : World) : Prop := ∃ t : ByteArray, e = .returned (.string t) ∧ t.data.toList.all digB = s.data.toList.all digB ∧ t.size ≤ s.size ∧ w = w'
set_option maxHeartbeats 2000000 in
theorem tleft_any (s : ByteArray) (b : Nat) (w : World) (hs : s.size ≤ 1048576) (hset : ∀ x : UInt8, w.cell? ⟨b, x.toNat, none⟩ = some (.bool (digB x))) :
    Calls Tryz.prog 144 #[.string s, .pointer (some ⟨b, 0, none⟩)] w (LeftP s w) := by
  have HS := Lib.hid hset
  clear hset
  go_enter Tryz.func144, Tryz.ntmps144
  go_wp2
  go_loop [0] (fun v => ∃ t : ByteArray, v = .string t ∧ t.size ≤ s.size ∧ Hid (t.data.toList.all digB = s.data.toList.all digB)) (fun v => match v with | .string t => t.size | _ => 0)
  case atStart => exact ⟨s, rfl, Nat.le_refl _, Lib.hid rfl⟩
  case round =>
    obtain ⟨t, rfl, hts, HA⟩ := hrel
    by_cases h0 : 0 < t.size
    · have hh := all_head t h0
      have hset := HS.out (t[0]'h0)
      cases hd : digB (t[0]'h0) with
      | true =>
        rw [hd] at hset hh
        rw [Bool.true_and] at hh
        have HH := Lib.hid (hh.symm.trans HA.out)
        clear hh hd
        go_wp2_with (go_at_call 173; (with_reducible refine (Tryz.asciiSet_contains b (t[0]'h0) true w hset).mono ?_); rintro e w' ⟨rfl, hw⟩; obtain rfl := hw.symm)
        go_round
        case rel => exact ⟨_, rfl, by rw [ByteArray.size_extract]; omega, HH⟩
        case measure => show (t.extract 1 t.size).size < t.size; rw [ByteArray.size_extract]; omega
      | false =>
        rw [hd] at hset hh
        rw [Bool.false_and] at hh
        have HH := Lib.hid (hh.symm.trans HA.out)
        clear hh hd
        go_wp2_with (go_at_call 173; (with_reducible refine (Tryz.asciiSet_contains b (t[0]'h0) false w hset).mono ?_); rintro e w' ⟨rfl, hw⟩; obtain rfl := hw.symm)
        go_ret
        exact ⟨t, rfl, ⟨fun h => by omega, fun h => by rw [← HH.out] at h; cases h⟩, rfl⟩
    · have hz : t.size = 0 := by omega
      have hnil : t.data.toList = [] := List.eq_nil_of_length_eq_zero hz
      have HN := Lib.hid hnil
      have HZ := Lib.hid hz
      clear hnil hz
      go_wp2
      go_ret
      exact ⟨t, rfl, ⟨fun _ => by rw [← HA.out, HN.out]; rfl, fun _ => HZ.out⟩, rfl⟩
set_option maxHeartbeats 2000000 in
theorem tright_any (s : ByteArray) (b : Nat) (w : World) (hs : s.size ≤ 1048576) (hset : ∀ x : UInt8, w.cell? ⟨b, x.toNat, none⟩ = some (.bool (digB x))) :
    Calls Tryz.prog 145 #[.string s, .pointer (some ⟨b, 0, none⟩)] w (RightP s w) := by
  have HS := Lib.hid hset
  clear hset
  go_enter Tryz.func145, Tryz.ntmps145
  go_wp2
  go_loop [0] (fun v => ∃ t : ByteArray, v = .string t ∧ t.size ≤ s.size ∧ Hid (t.data.toList.all digB = s.data.toList.all digB)) (fun v => match v with | .string t => t.size | _ => 0)
  case atStart => exact ⟨s, rfl, Nat.le_refl _, Lib.hid rfl⟩
  case round =>
    obtain ⟨t, rfl, hts, HA⟩ := hrel
    by_cases h0 : 0 < t.size
    · obtain ⟨n, hn⟩ : ∃ n, t.size = n + 1 := ⟨t.size - 1, by omega⟩
      have hnt : n < t.size := by omega
      have hh := all_last t n hnt hn
      have hset := HS.out (t[n]'hnt)
      have cw : IntKind.i64.wrap ((t.size : Int) - 1) = (n : Int) := by rw [show (t.size : Int) - 1 = (n : Int) by omega]; exact IntWalk.i64_in _ (by omega)
      have l1 : (0 : Int) < (t.size : Int) := by omega
      have l2 : (n : Int) < (t.size : Int) := by omega
      have l3 : (0 : Int) ≤ (n : Int) := by omega
      have l4 : (n : Int) ≤ (t.size : Int) := by omega
      have HN := Lib.hid hn
      clear hn
      cases hd : digB (t[n]'hnt) with
      | true =>
        rw [hd] at hset hh
        rw [Bool.and_true] at hh
        have HH := Lib.hid (hh.symm.trans HA.out)
        clear hh hd
        go_wp2_with (go_at_call 173; (with_reducible refine (Tryz.asciiSet_contains b (t[n]'hnt) true w hset).mono ?_); rintro e w' ⟨rfl, hw⟩; obtain rfl := hw.symm)
        go_round
        case rel => exact ⟨_, rfl, by rw [ByteArray.size_extract]; have := HN.out; omega, HH⟩
        case measure => show (t.extract 0 n).size < t.size; rw [ByteArray.size_extract]; have := HN.out; omega
      | false =>
        rw [hd] at hset hh
        rw [Bool.and_false] at hh
        clear hd
        go_wp2_with (go_at_call 173; (with_reducible refine (Tryz.asciiSet_contains b (t[n]'hnt) false w hset).mono ?_); rintro e w' ⟨rfl, hw⟩; obtain rfl := hw.symm)
        go_ret
        exact ⟨t, rfl, HA.out, hts, rfl⟩
    · go_wp2
      go_ret
      exact ⟨t, rfl, HA.out, hts, rfl⟩
end Go.Proofs.YtjloookjlnmgdaaGreatDoor
namespace Go.Proofs.YtjloookjlnmgdaaGreatDoor
open Go.ChangeShapes Go.WideShapes Go.ChangeAt Go.RowKit
set_option maxRecDepth 100000
set_option linter.unusedVariables false
set_option linter.unusedSimpArgs false

/-- what is left of s at the ten digits: nothing just where all of it are digits -/
def TrimP (s : ByteArray) (w : World) (e : Ending) (w' : World) : Prop := ∃ t : ByteArray, e = .returned (.string t) ∧ (t.size = 0 ↔ s.data.toList.all digB = true) ∧ Below w.heap.size w w'
theorem ten_set : ∃ C : Array Value, Lib.setCells (⟨#[48, 49, 50, 51, 52, 53, 54, 55, 56, 57]⟩ : ByteArray).data.toList = C ∧ C.size = 256 ∧ (∀ x : UInt8, C[x.toNat]? = some (.bool (digB x))) ∧ C.all (·.oneCell') = true :=
  ⟨_, rfl, Lib.setCells_size _, fun x => by rw [Lib.setCells_at, ← ten_dig]; rfl, Lib.setCells_one _⟩
theorem not_empty (s : ByteArray) (h : 0 < s.size) : s.toList.isEmpty = false := by
  rw [Lib.toList_data]
  cases h2 : s.data.toList with
  | nil => have : s.size = s.data.toList.length := rfl
           rw [h2, List.length_nil] at this; omega
  | cons _ _ => rfl
theorem is_empty (s : ByteArray) (h : s.size = 0) : s = ⟨#[]⟩ := by
  apply ByteArray.ext
  apply Array.eq_empty_of_size_eq_zero
  exact h
theorem set_zero : ∀ w : World, (zeroValue 162).run Tryz.prog w = .ok (.agg (Array.replicate 256 (.bool false))) w := by
  have h : (Tryz.prog.info? 162).map (·.zero) = some (some (.agg (Array.replicate 256 (.bool false)))) := by kernel_rfl
  intro w
  cases hi : Tryz.prog.info? 162 with
  | none => rw [hi] at h; cases h
  | some i =>
    rw [hi] at h
    simp only [Option.map_some, Option.some.injEq] at h
    simp [zeroValue, typeInfo, hi, h, Result.andThen]
set_option maxHeartbeats 4000000 in
theorem trim_any (s : ByteArray) (w : World) (hs : s.size ≤ 1048576) (h0 : 0 < s.size) :
    Calls Tryz.prog 112 #[.string s, .string ⟨#[48, 49, 50, 51, 52, 53, 54, 55, 56, 57]⟩] w (TrimP s w) := by
  have hM := Tryz.strings_makeASCIISet set_zero (⟨#[48, 49, 50, 51, 52, 53, 54, 55, 56, 57]⟩ : ByteArray) w (by decide) (by
    intro j b hb
    have hm : b ∈ tenT := List.mem_of_getElem? hb
    have := (ten_dig b).symm.trans (List.contains_iff_mem.2 hm)
    exact Nat.lt_of_le_of_lt (dig_le b this).2 (by decide))
  obtain ⟨C, hC, hCs, hCx, hC1⟩ := ten_set
  rw [hC] at hM
  have hne := not_empty s h0
  have hcellAt : ∀ x : UInt8, ((w.alloc (.cells C 162)).alloc (.cells C 162)).cell? ⟨w.heap.size + 1, x.toNat, none⟩ = some (.bool (digB x)) := fun x => by
    rw [World.cell?_alloc_at _ _ _ _ (by simp), hCx]
  have hsc : (storeCells ⟨w.heap.size + 1, 0, none⟩ C.toList 0).run Tryz.prog ((w.alloc (.cells C 162)).alloc (.cells Tryz.zeroCells162 162)) = .ok () ((w.alloc (.cells C 162)).alloc (.cells C 162)) := by
    have := run_storeCells_new (P := Tryz.prog) (w.alloc (.cells C 162)) 162 Tryz.zeroCells162 C (by rw [hCs]; kernel_rfl) (by rw [hCs]; kernel_rfl) hC1
    simpa using this
  have HM := Lib.hid hM
  have HC := Lib.hid hcellAt
  have HR := Lib.hid (fun w1 hset => tright_any s (w.heap.size + 1) w1 hs hset)
  clear hM hcellAt hCx hC1 hC
  go_enter Tryz.func112, Tryz.ntmps112
  go_wp2_with (go_at_call 143; (with_reducible refine HM.out.mono ?_); rintro e w1 ⟨rfl, hw1⟩; rw [hw1])
  clear hsc HM
  have hR := HR.out _ HC.out
  have hl := fun t hts => tleft_any t (w.heap.size + 1) ((w.alloc (.cells C 162)).alloc (.cells C 162)) hts HC.out
  have HB := Lib.hid (((Below.refl _ w).alloc (Nat.le_refl _) (.cells C 162)).alloc (by simp) (.cells C 162))
  have HRR := Lib.hid hR
  have HL := Lib.hid hl
  clear hR hl HR HC
  refine HRR.out.mono ?_
  rintro e w2 ⟨t, rfl, ht, hts, hw2⟩
  obtain rfl := hw2
  have hl2 := HL.out t (by omega)
  have HT := Lib.hid ht
  clear ht
  go_wp2_with fail
  refine hl2.mono ?_
  rintro e w3 ⟨u, rfl, hu, hw3⟩
  obtain rfl := hw3
  go_wp2
  go_ret
  exact ⟨u, rfl, by rw [hu, HT.out], HB.out⟩
theorem dec_from (l : Tx) : ∀ acc : Nat, l.all digB = true → Lib.decFrom acc l = some (l.foldl (fun n c => 10 * n + (c.toNat - 48)) acc) := by
  induction l with
  | nil => intro acc _; rfl
  | cons c r ih =>
    intro acc h
    rw [List.all_cons, Bool.and_eq_true] at h
    have hd := dig_le c h.1
    have e : Lib.digitVal c = some (c.toNat - 48) := if_pos hd
    rw [List.foldl_cons, ← ih _ h.2]
    show (match Lib.digitVal c with | some d => Lib.decFrom (acc * 10 + d) r | none => none) = _
    rw [e, Nat.mul_comm 10 acc]
theorem atoi_val (l : Tx) (hne : l ≠ []) (h : l.all digB = true) : Lib.atoi l = some (valL l : Int) := by
  have hd := dec_from l 0 h
  cases l with
  | nil => exact absurd rfl hne
  | cons c r =>
    have hc : digB c = true := by rw [List.all_cons, Bool.and_eq_true] at h; exact h.1
    have h45 : (c == 45) = false := by rw [beq_eq_false_iff_ne]; rintro rfl; exact absurd hc (by decide)
    have h43 : (c == 43) = false := by rw [beq_eq_false_iff_ne]; rintro rfl; exact absurd hc (by decide)
    show (if (c == 45) = true then _ else if (c == 43) = true then _ else (Lib.decNat (c :: r)).map fun (m : Nat) => (m : Int)) = _
    rw [h45, h43, if_neg (by decide), if_neg (by decide)]
    have e : Lib.decNat (c :: r) = Lib.decFrom 0 (c :: r) := rfl
    rw [e, hd]; rfl
def StrNo (w : World) (e : Ending) (w' : World) : Prop := ∃ t : ByteArray, e = .returned (.string t) ∧ t.toList.isEmpty = false ∧ Below w.heap.size w w'
theorem trim_yes (s : ByteArray) (w : World) (hs : s.size ≤ 1048576) (h0 : 0 < s.size) (h : s.data.toList.all digB = true) :
    Calls Tryz.prog 112 #[.string s, .string ⟨#[48, 49, 50, 51, 52, 53, 54, 55, 56, 57]⟩] w fun e w' => e = .returned (.string ⟨#[]⟩) ∧ Below w.heap.size w w' :=
  (trim_any s w hs h0).mono fun e w' ⟨t, he, ht, hb⟩ => ⟨by rw [he, is_empty t (ht.2 h)], hb⟩
theorem trim_no (s : ByteArray) (w : World) (hs : s.size ≤ 1048576) (h0 : 0 < s.size) (h : s.data.toList.all digB = false) :
    Calls Tryz.prog 112 #[.string s, .string ⟨#[48, 49, 50, 51, 52, 53, 54, 55, 56, 57]⟩] w (StrNo w) :=
  (trim_any s w hs h0).mono fun e w' ⟨t, he, ht, hb⟩ => ⟨t, he, not_empty t (Nat.pos_of_ne_zero fun h2 => by rw [ht.1 h2] at h; cases h), hb⟩
theorem atoi_any (s : ByteArray) (w : World) (h0 : 0 < s.size) (hs : s.size ≤ 9) (h : s.data.toList.all digB = true) :
    Calls Tryz.prog 113 #[.string s] w fun e w' => e = .returned (.tuple #[.int .i64 (valL s.data.toList : Int), .nilIface]) ∧ Below w.heap.size w w' := by
  refine (Tryz.strconv_Atoi s _ (by omega) (atoi_val _ (fun hnil => (by
    have e : s.size = s.data.toList.length := rfl
    rw [hnil, List.length_nil] at e; omega)) h) w).mono fun e w' ⟨he, t, hw⟩ => ⟨he, ?_⟩
  rw [hw]
  exact Lib.below_freeze ((Below.drew (Below.refl _ w)).alloc (Nat.le_refl _) _) (p := ⟨w.heap.size, _, none⟩) (Nat.le_refl _) 1
theorem cut_yes (tx D : ByteArray) (r : Tx) (h : tx.data.toList = 36 :: r) (hD : D = bb r) (w : World) : Calls Tryz.prog 129 #[.string tx, .string ⟨#[36]⟩] w fun e w' => e = .returned (.tuple #[.string D, .bool true]) ∧ w' = w := by
  have := Tryz.strings_CutPrefix tx ⟨#[36]⟩ w
  have e1 : Lib.hasPrefix tx.data.toList (⟨#[36]⟩ : ByteArray).data.toList = true := by rw [h]; show ([36] : Tx).isPrefixOf (36 :: r) = true; simp [List.isPrefixOf]
  have e2 : Lib.trimPrefix tx.data.toList (⟨#[36]⟩ : ByteArray).data.toList = r := by unfold Lib.trimPrefix; rw [e1, if_pos rfl, h]; rfl
  rw [e1, e2] at this
  subst hD
  exact this
theorem cut_no (tx : ByteArray) (h : tx.data.toList.head? ≠ some 36) (w : World) : Calls Tryz.prog 129 #[.string tx, .string ⟨#[36]⟩] w fun e w' => e = .returned (.tuple #[.string tx, .bool false]) ∧ w' = w := by
  have := Tryz.strings_CutPrefix tx ⟨#[36]⟩ w
  have e1 : Lib.hasPrefix tx.data.toList (⟨#[36]⟩ : ByteArray).data.toList = false := by
    cases hl : tx.data.toList with
    | nil => rfl
    | cons c r =>
      rw [hl] at h
      show ([36] : Tx).isPrefixOf (c :: r) = false
      simp only [List.isPrefixOf, Bool.and_true]
      rw [beq_eq_false_iff_ne]
      intro h2; exact h (by rw [h2]; rfl)
  have e2 : Lib.trimPrefix tx.data.toList (⟨#[36]⟩ : ByteArray).data.toList = tx.data.toList := by unfold Lib.trimPrefix; rw [e1, if_neg (by decide)]
  rw [e1, e2] at this
  exact this
theorem cut_any (tx : ByteArray) (w : World) : Calls Tryz.prog 129 #[.string tx, .string ⟨#[36]⟩] w fun e w' => ∃ (D : ByteArray) (b : Bool), e = .returned (.tuple #[.string D, .bool b]) ∧ w' = w :=
  (Tryz.strings_CutPrefix tx ⟨#[36]⟩ w).mono fun e w' ⟨h, h2⟩ => ⟨_, _, h, h2⟩
theorem part_cons (ta : Int) (tx : ByteArray) (r : Tx) (h : tx.data.toList = 36 :: r) : parT (5, tx, ta) = if r ≠ [] ∧ r.all digB = true then some (if 9 < r.length then 0 else valL r) else none := by
  have hs : tx.size = r.length + 1 := by
    have e : tx.size = tx.data.toList.length := rfl
    rw [e, h]; rfl
  show (if (5 : Int) = 5 ∧ 2 ≤ tx.size ∧ tx.data.toList.headD 0 = 36 ∧ (tx.data.toList.drop 1).all digB = true then some (if 9 < tx.size - 1 then 0 else valL (tx.data.toList.drop 1)) else none) = _
  have e1 : tx.size - 1 = r.length := by omega
  have e2 : tx.data.toList.drop 1 = r := by rw [h]; rfl
  have e3 : tx.data.toList.headD 0 = 36 := by rw [h]; rfl
  rw [e1, e2, e3]
  by_cases hr : r = []
  · subst hr
    rw [if_neg (fun h2 => by have := h2.2.1; simp at hs; omega), if_neg (fun h2 => h2.1 rfl)]
  · have h0 : 0 < r.length := List.length_pos_iff.2 hr
    by_cases ha : r.all digB = true
    · have hc : (5 : Int) = 5 ∧ 2 ≤ tx.size ∧ (36 : UInt8) = 36 ∧ r.all digB = true := ⟨rfl, by omega, rfl, ha⟩
      have hd : r ≠ [] ∧ r.all digB = true := ⟨hr, ha⟩
      rw [if_pos hc, if_pos hd]
    · rw [if_neg (fun h2 => ha h2.2.2.2), if_neg (fun h2 => ha h2.2)]
theorem part_no (kd ta : Int) (tx : ByteArray) (h : kd ≠ 5 ∨ tx.data.toList.head? ≠ some 36) : parT (kd, tx, ta) = none := by
  unfold parT
  refine if_neg fun hh => ?_
  rcases h with h | h
  · exact h hh.1
  · have h2 : 2 ≤ tx.size := hh.2.1
    have h3 : tx.data.toList.headD 0 = 36 := hh.2.2.1
    have e : tx.size = tx.data.toList.length := rfl
    cases hl : tx.data.toList with
    | nil => rw [hl, List.length_nil] at e; omega
    | cons c r => rw [hl] at h h3; exact h (by rw [show c = 36 from h3]; rfl)
end Go.Proofs.YtjloookjlnmgdaaGreatDoor
namespace Go.Proofs.YtjloookjlnmgdaaGreatDoor
open Go.ChangeShapes Go.WideShapes Go.ChangeAt Go.RowKit
set_option maxRecDepth 100000
set_option linter.unusedVariables false
set_option linter.unusedSimpArgs false

theorem tr_at {w : World} {v : Value} {l : List Tok} (h : TR w v l) : ∃ a cap, v = .slice a l.length cap ∧ (l.length = 0 ∨ ∃ g off, a = some ⟨g, off, none⟩ ∧ l.length ≤ cap ∧ ∀ k (hk : k < l.length), w.cell? ⟨g, off + k * 3, none⟩ = some (.int .i64 l[k].1) ∧ w.cell? ⟨g, off + k * 3 + 1, none⟩ = some (.string l[k].2.1)) := by
  rcases h with ⟨A, cap, rfl, rfl⟩ | ⟨g, off, cap, rfl, hc, hx⟩
  · exact ⟨_, _, rfl, .inl rfl⟩
  · refine ⟨_, _, rfl, .inr ⟨g, off, rfl, hc, fun k hk => ?_⟩⟩
    obtain ⟨a, b, c⟩ := hx k l[k] (List.getElem?_eq_getElem hk)
    exact ⟨a, b⟩
theorem isTok_in (k : Int) (ss : List Tx) {l : List Tok} {i : Nat} (hi : i < l.length) : isTok k ss l i = (l[i].1 == k && ss.contains l[i].2.1.toList) := by
  unfold isTok; rw [List.getElem?_eq_getElem hi]
theorem isTok_out (k : Int) (ss : List Tx) {l : List Tok} {i : Nat} (hi : ¬ i < l.length) : isTok k ss l i = false := by
  unfold isTok; rw [List.getElem?_eq_none (by omega)]
theorem partB_in {l : List Tok} {i : Nat} (hi : i < l.length) : partB l i = (l[i].1 == 2 || l[i].1 == 1 && !keysL.contains l[i].2.1.toList) := by
  unfold partB; rw [List.getElem?_eq_getElem hi]
theorem partB_out {l : List Tok} {i : Nat} (hi : ¬ i < l.length) : partB l i = false := by
  unfold partB; rw [List.getElem?_eq_none (by omega)]
theorem one_text (s t : Tx) : [s].contains t = (t == s) := by
  rw [Bool.eq_iff_iff]; simp
theorem bytes_inj {s t : ByteArray} (h : s.toList = t.toList) : s = t := by
  rw [Lib.toList_data, Lib.toList_data] at h
  cases s; cases t; simp only [ByteArray.mk.injEq]; exact Array.toList_inj.1 h
theorem conS (zs : List ByteArray) (x : ByteArray) : Lib.containsS (zs.take zs.length) x = (zs.map (·.toList)).contains x.toList := by
  rw [List.take_length, Bool.eq_iff_iff, Lib.containsS_iff, List.contains_iff_mem, List.mem_map]
  constructor
  · exact fun h => ⟨x, h, rfl⟩
  · rintro ⟨y, h, e⟩; rw [← bytes_inj e]; exact h
set_option maxHeartbeats 1000000 in
theorem isSign_any (v : Value) (l : List Tok) (i : Nat) (s : ByteArray) (w : World) (h : TR w v l) (hl : l.length ≤ 1099511627776) :
    Calls Tryz.prog 200 #[v, .int .i64 (i : Int), .string s] w fun e w' => e = .returned (.bool (isTok 5 [s.toList] l i)) ∧ w' = w := by
  obtain ⟨a, cap, rfl, hx⟩ := tr_at h
  clear h
  by_cases hi : i < l.length
  · rcases hx with h0 | ⟨g, off, rfl, hcap, hx⟩
    · omega
    · obtain ⟨x1, x2⟩ := hx i hi
      have l0 : (0 : Int) ≤ (i : Int) := by omega
      have l1 : (i : Int) < (l.length : Int) := by omega
      rw [isTok_in 5 [s.toList] hi, one_text]
      generalize l[i] = t at *
      obtain ⟨kd, tx, ta⟩ := t
      simp only at x1 x2 ⊢
      clear hx hi
      by_cases hk : kd = 5
      · subst hk
        obtain ⟨c, hc⟩ : ∃ c, (tx.toList == s.toList) = c := ⟨_, rfl⟩
        rw [hc]
        go_enter Tryz.func200, Tryz.ntmps200
        go_wp2
        go_ret
        exact ⟨rfl, rfl⟩
      · have hk2 : (kd == (5 : Int)) = false := by rw [beq_eq_false_iff_ne]; exact hk
        rw [hk2]
        clear hk
        go_enter Tryz.func200, Tryz.ntmps200
        go_wp2
        go_ret
        exact ⟨rfl, rfl⟩
  · have l1 : ¬ ((i : Int) < (l.length : Int)) := by omega
    rw [isTok_out 5 _ hi]
    clear hx hi
    go_enter Tryz.func200, Tryz.ntmps200
    go_wp2
    go_ret
    exact ⟨rfl, rfl⟩
set_option maxHeartbeats 1000000 in
theorem isWord_any (v : Value) (l : List Tok) (i b off cap : Nat) (zs : List ByteArray) (w : World) (h : TR w v l) (hl : l.length ≤ 1099511627776) (hzl : zs.length ≤ 100)
    (hc : ∀ j, j < zs.length → w.cell? ⟨b, off + j, none⟩ = some (.string (zs.getD j ByteArray.empty))) :
    Calls Tryz.prog 196 #[v, .int .i64 (i : Int), .slice (some ⟨b, off, none⟩) zs.length cap] w fun e w' => e = .returned (.bool (isTok 1 (zs.map (·.toList)) l i)) ∧ w' = w := by
  obtain ⟨a, ca, rfl, hx⟩ := tr_at h
  have hk := fun x => Tryz.slices_Contains_string b off zs.length cap zs x w (Nat.le_refl _) (by omega) hc
  simp only [conS] at hk
  have HK := Lib.hid hk
  clear h hc hk
  have l0 : (0 : Int) ≤ (i : Int) := by omega
  by_cases hi : i < l.length
  · rcases hx with h0 | ⟨g, off2, rfl, hcap, hx⟩
    · omega
    · obtain ⟨x1, x2⟩ := hx i hi
      have l1 : (i : Int) < (l.length : Int) := by omega
      rw [isTok_in 1 _ hi]
      generalize l[i] = t at *
      obtain ⟨kd, tx, ta⟩ := t
      simp only at x1 x2 ⊢
      clear hx hi
      by_cases hk : kd = 1
      · subst hk
        obtain ⟨c, hc⟩ : ∃ c, (zs.map (·.toList)).contains tx.toList = c := ⟨_, rfl⟩
        have hk2 := HK.out tx
        rw [hc] at hk2 ⊢
        have HK2 := Lib.hid hk2
        clear HK hk2 hc
        go_enter Tryz.func196, Tryz.ntmps196
        go_wp2_with (go_at_call 111; (with_reducible refine HK2.out.mono ?_); rintro e w2 ⟨rfl, rfl⟩)
        go_ret
        exact ⟨rfl, rfl⟩
      · have hk2 : (kd == (1 : Int)) = false := by rw [beq_eq_false_iff_ne]; exact hk
        rw [hk2]
        clear hk HK
        go_enter Tryz.func196, Tryz.ntmps196
        go_wp2
        go_ret
        exact ⟨rfl, rfl⟩
  · have l1 : ¬ ((i : Int) < (l.length : Int)) := by omega
    rw [isTok_out 1 _ hi]
    clear hx hi HK
    go_enter Tryz.func196, Tryz.ntmps196
    go_wp2
    go_ret
    exact ⟨rfl, rfl⟩
theorem isWord_neg (v ws : Value) (w : World) :
    Calls Tryz.prog 196 #[v, .int .i64 (-1), ws] w fun e w' => e = .returned (.bool false) ∧ w' = w := by
  go_enter Tryz.func196, Tryz.ntmps196
  go_wp2
  go_ret
  exact ⟨rfl, rfl⟩
end Go.Proofs.YtjloookjlnmgdaaGreatDoor
namespace Go.Proofs.YtjloookjlnmgdaaGreatDoor
open Go.ChangeShapes Go.WideShapes Go.ChangeAt Go.RowKit
set_option maxRecDepth 100000
set_option linter.unusedVariables false
set_option linter.unusedSimpArgs false

def KeyP (s : ByteArray) (w : World) (e : Ending) (w' : World) : Prop := e = .returned (.bool (keysL.contains s.toList)) ∧ w' = w
theorem key_yes {s k : Tx} (h : (s == k) = true) (hk : keysL.contains k = true) : keysL.contains s = true := by rw [beq_iff_eq.1 h]; exact hk
theorem key_no {s : Tx} (h : keysL.contains s = false) : keysL.contains s = false := h
set_option maxHeartbeats 4000000 in
theorem isKeyWord_any (s : ByteArray) (w : World) :
    Calls Tryz.prog 234 #[.string s] w (KeyP s w) := by
  go_enter Tryz.func234, Tryz.ntmps234
  go_wp2
  all_goals (go_ret; refine ⟨?_, rfl⟩)
  all_goals first
    | (exfalso; simp_all only [Bool.true_eq_false, Bool.false_eq_true]; done)
    | (rw [show keysL.contains s.toList = true from key_yes (by assumption) (by decide)]; rfl)
    | (have h : keysL.contains s.toList = false := by
         simp only [keysL, List.contains_cons, List.contains_nil, Bool.or_false, Bool.or_eq_false_iff]
         repeat' apply And.intro
         all_goals assumption
       rw [h]; rfl)
end Go.Proofs.YtjloookjlnmgdaaGreatDoor
namespace Go.Proofs.YtjloookjlnmgdaaGreatDoor
open Go.ChangeShapes Go.WideShapes Go.ChangeAt Go.RowKit
set_option maxRecDepth 100000
set_option linter.unusedVariables false
set_option linter.unusedSimpArgs false

set_option maxHeartbeats 1000000 in
theorem isName_any (v : Value) (l : List Tok) (i : Nat) (w : World) (h : TR w v l) (hl : l.length ≤ 1099511627776) :
    Calls Tryz.prog 221 #[v, .int .i64 (i : Int)] w fun e w' => e = .returned (.bool (partB l i)) ∧ w' = w := by
  obtain ⟨a, cap, rfl, hx⟩ := tr_at h
  clear h
  by_cases hi : i < l.length
  · rcases hx with h0 | ⟨g, off, rfl, hcap, hx⟩
    · omega
    · obtain ⟨x1, x2⟩ := hx i hi
      have l0 : (0 : Int) ≤ (i : Int) := by omega
      have l1 : (i : Int) < (l.length : Int) := by omega
      rw [partB_in hi]
      generalize l[i] = t at *
      obtain ⟨kd, tx, ta⟩ := t
      simp only at x1 x2 ⊢
      clear hx hi
      have hk := isKeyWord_any tx w
      obtain ⟨c, hc⟩ : ∃ c, keysL.contains tx.toList = c := ⟨_, rfl⟩
      unfold KeyP at hk
      rw [hc] at hk ⊢
      have HK := Lib.hid hk
      clear hk hc
      by_cases h2 : kd = 2
      · subst h2
        go_enter Tryz.func221, Tryz.ntmps221
        go_wp2
        go_ret
        exact ⟨rfl, rfl⟩
      · have k2 : (kd == (2 : Int)) = false := by rw [beq_eq_false_iff_ne]; exact h2
        rw [k2]
        clear h2
        by_cases h1 : kd = 1
        · subst h1
          cases c <;>
          · go_enter Tryz.func221, Tryz.ntmps221
            go_wp2_with (go_at_call 234; (with_reducible refine HK.out.mono ?_); rintro e w2 ⟨rfl, rfl⟩)
            go_ret
            exact ⟨rfl, rfl⟩
        · have k1 : (kd == (1 : Int)) = false := by rw [beq_eq_false_iff_ne]; exact h1
          rw [k1]
          clear h1
          go_enter Tryz.func221, Tryz.ntmps221
          go_wp2
          go_ret
          exact ⟨rfl, rfl⟩
  · have l1 : ((l.length : Int) ≤ (i : Int)) := by omega
    rw [partB_out hi]
    clear hx hi
    go_enter Tryz.func221, Tryz.ntmps221
    go_wp2
    go_ret
    exact ⟨rfl, rfl⟩
theorem wrap_nat {n : Nat} (h : n < 9223372036854775808) : IntKind.i64.wrap (n : Int) = (n : Int) := IntWalk.i64_in _ (by omega)
set_option maxHeartbeats 1000000 in
theorem nameSize_any (v : Value) (l : List Tok) (i : Nat) (w : World) (h : TR w v l) (hl : l.length ≤ 1099511627776) (hi : i ≤ 1099511627776) :
    Calls Tryz.prog 197 #[v, .int .i64 (i : Int)] w fun e w' => e = .returned (.int .i64 (nameW l i : Nat)) ∧ w' = w := by
  have h1 := fun n => isName_any v l n w h hl
  have h2 := fun n => isSign_any v l n ⟨#[46]⟩ w h hl
  have hn : nameW l i = if partB l i = false then 0 else if (isTok 5 [[46]] l (i + 1) && partB l (i + 2)) = true then 3 else 1 := rfl
  obtain ⟨i1, hi1⟩ : ∃ i1, i + 1 = i1 := ⟨_, rfl⟩
  obtain ⟨i2, hi2⟩ : ∃ i2, i + 2 = i2 := ⟨_, rfl⟩
  have wa : IntKind.i64.wrap ((i : Int) + 1) = (i1 : Int) := by rw [show (i : Int) + 1 = (i1 : Int) by omega]; exact wrap_nat (by omega)
  have wb : IntKind.i64.wrap ((i : Int) + 2) = (i2 : Int) := by rw [show (i : Int) + 2 = (i2 : Int) by omega]; exact wrap_nat (by omega)
  rw [hi1, hi2] at hn
  clear hi1 hi2 hi
  have h1a := h1 i
  have h1b := h1 i2
  have h2a := h2 i1
  have e0 : [(⟨#[46]⟩ : ByteArray).toList] = [[46]] := by rw [Lib.toList_data]
  rw [e0] at h2a
  generalize partB l i = p at *
  generalize isTok 5 [[46]] l i1 = q at *
  generalize partB l i2 = r at *
  generalize nameW l i = n at *
  subst hn
  have HA := Lib.hid h1a
  have HB := Lib.hid h1b
  have HC := Lib.hid h2a
  clear h1a h1b h2a h1 h2 h e0
  have step : ∀ x y : Bool, (if (x && y) = true then 3 else 1) = (if x = true then (if y = true then 3 else 1) else 1 : Nat) := by decide
  cases p
  · go_enter Tryz.func197, Tryz.ntmps197
    go_wp2_with (go_at_call 221; (with_reducible refine HA.out.mono ?_); rintro e w2 ⟨rfl, rfl⟩)
    go_ret
    exact ⟨rfl, rfl⟩
  · cases q
    · go_enter Tryz.func197, Tryz.ntmps197
      go_wp2_with (first
        | (go_at_call 221; (with_reducible refine HA.out.mono ?_); rintro e w2 ⟨rfl, rfl⟩)
        | (go_at_call 200; (with_reducible refine HC.out.mono ?_); rintro e w2 ⟨rfl, rfl⟩))
      go_ret
      exact ⟨rfl, rfl⟩
    · cases r <;>
      · go_enter Tryz.func197, Tryz.ntmps197
        go_wp2_with (first
          | (go_at_call 221; (with_reducible refine HA.out.mono ?_); rintro e w2 ⟨rfl, rfl⟩)
          | (go_at_call 221; (with_reducible refine HB.out.mono ?_); rintro e w2 ⟨rfl, rfl⟩)
          | (go_at_call 200; (with_reducible refine HC.out.mono ?_); rintro e w2 ⟨rfl, rfl⟩))
        go_ret
        exact ⟨rfl, rfl⟩
end Go.Proofs.YtjloookjlnmgdaaGreatDoor
namespace Go.Proofs.YtjloookjlnmgdaaGreatDoor
open Go.ChangeShapes Go.WideShapes Go.ChangeAt Go.RowKit
set_option maxRecDepth 100000
set_option linter.unusedVariables false
set_option linter.unusedSimpArgs false

/-- the code's own alias: a name without a point -/
def aliasC (l : List Tok) (i : Nat) : Nat := if nameW l (asB l i) = 1 then asB l i + 1 else asB l i
theorem aliasC_le (l : List Tok) (i : Nat) : i ≤ aliasC l i ∧ aliasC l i ≤ i + 2 := by have := as_le l i; unfold aliasC; split <;> omega
theorem part_nocomma {l : List Tok} {i : Nat} (h : partB l i = true) : commaB l i = false := by
  have hi := partB_lt h
  rw [partB_in hi] at h
  unfold commaB
  rw [isTok_in 5 _ hi]
  generalize l[i] = t at *
  by_cases h5 : t.1 = 5
  · rw [h5] at h; simp at h
  · have : (t.1 == 5) = false := by rw [beq_eq_false_iff_ne]; exact h5
    rw [this]; rfl
theorem dot_nocomma {l : List Tok} {i : Nat} (h : isTok 5 [[46]] l i = true) : commaB l i = false := by
  have hi := isTok_lt h
  rw [isTok_in 5 _ hi] at h
  unfold commaB
  rw [isTok_in 5 _ hi]
  generalize l[i] = t at *
  simp only [Bool.and_eq_true, beq_iff_eq, List.contains_cons, List.contains_nil, Bool.or_false] at h
  rw [h.2]; simp
/-- behind both aliases a comma stands, or behind neither -/
theorem alias_same (l : List Tok) (i : Nat) : (commaB l (aliasC l i) = true ∧ aliasC l i = aliasB l i) ∨ (commaB l (aliasC l i) = false ∧ commaB l (aliasB l i) = false) := by
  unfold aliasC aliasB
  generalize asB l i = j
  cases hp : partB l j with
  | false =>
    have : nameW l j = 0 := by unfold nameW; rw [if_pos hp]
    rw [this, if_neg (by decide), if_neg (by decide)]
    cases commaB l j with
    | true => exact .inl ⟨rfl, rfl⟩
    | false => exact .inr ⟨rfl, rfl⟩
  | true =>
    rw [if_pos rfl]
    cases hd : (isTok 5 [[46]] l (j + 1) && partB l (j + 2)) with
    | true =>
      have : nameW l j = 3 := by unfold nameW; rw [hp, hd]; rfl
      rw [this, if_neg (by decide)]
      exact .inr ⟨part_nocomma hp, dot_nocomma (Bool.and_eq_true_iff.1 hd).1⟩
    | false =>
      have : nameW l j = 1 := by unfold nameW; rw [hp, hd]; rfl
      rw [this, if_pos rfl]
      cases commaB l (j + 1) with
      | true => exact .inl ⟨rfl, rfl⟩
      | false => exact .inr ⟨rfl, rfl⟩
theorem below_new (w : World) (o : Obj) : Below w.heap.size w (w.alloc o) := (Below.refl _ _).alloc (Nat.le_refl _) _
theorem isWord1 (v : Value) (l : List Tok) (i : Nat) (s : ByteArray) (w : World) (h : TR w v l) (hl : l.length ≤ 1099511627776) :
    Calls Tryz.prog 196 #[v, .int .i64 (i : Int), .slice (some ⟨w.heap.size, 0, none⟩) 1 1] (w.alloc (.cells #[.string s] 9)) fun e w' => e = .returned (.bool (isTok 1 [s.toList] l i)) ∧ w' = w.alloc (.cells #[.string s] 9) :=
  isWord_any v l i w.heap.size 0 1 [s] _ (h.below (below_new _ _)) hl (by simp) fun j hj => by
    obtain rfl : j = 0 := by simpa using hj
    simp [go_sem]
theorem isWord2 (v : Value) (l : List Tok) (i : Nat) (s t : ByteArray) (w : World) (h : TR w v l) (hl : l.length ≤ 1099511627776) :
    Calls Tryz.prog 196 #[v, .int .i64 (i : Int), .slice (some ⟨w.heap.size, 0, none⟩) 2 2] (w.alloc (.cells #[.string s, .string t] 9)) fun e w' => e = .returned (.bool (isTok 1 [s.toList, t.toList] l i)) ∧ w' = w.alloc (.cells #[.string s, .string t] 9) :=
  isWord_any v l i w.heap.size 0 2 [s, t] _ (h.below (below_new _ _)) hl (by simp) fun j hj => by
    match j, hj with
    | 0, _ => simp [go_sem]
    | 1, _ => simp [go_sem]
theorem bytes_of (l : Tx) : (⟨l.toArray⟩ : ByteArray).toList = l := by rw [Lib.toList_data]
set_option maxHeartbeats 1000000 in
theorem behindAlias_any (v : Value) (l : List Tok) (i : Nat) (w : World) (h : TR w v l) (hl : l.length ≤ 1099511627776) (hi : i ≤ 1099511627700) :
    Calls Tryz.prog 199 #[v, .int .i64 (i : Int)] w fun e w' => e = .returned (.int .i64 (aliasC l i : Nat)) ∧ Below w.heap.size w w' := by
  obtain ⟨i1, hi1⟩ : ∃ i1, i + 1 = i1 := ⟨_, rfl⟩
  obtain ⟨i2, hi2⟩ : ∃ i2, i + 2 = i2 := ⟨_, rfl⟩
  have wa : IntKind.i64.wrap ((i : Int) + 1) = (i1 : Int) := by rw [show (i : Int) + 1 = (i1 : Int) by omega]; exact wrap_nat (by omega)
  have wb : IntKind.i64.wrap ((i1 : Int) + 1) = (i2 : Int) := by rw [show (i1 : Int) + 1 = (i2 : Int) by omega]; exact wrap_nat (by omega)
  have hw := isWord1 v l i ⟨#[97, 115]⟩ w h hl
  have hn1 := nameSize_any v l i (w.alloc (.cells #[.string ⟨#[97, 115]⟩] 9)) (h.below (below_new _ _)) hl (by omega)
  have hn2 := nameSize_any v l i1 (w.alloc (.cells #[.string ⟨#[97, 115]⟩] 9)) (h.below (below_new _ _)) hl (by omega)
  have e0 : [(⟨#[97, 115]⟩ : ByteArray).toList] = [w_as] := by rw [Lib.toList_data]; rfl
  rw [e0] at hw
  have hB := below_new w (.cells #[.string ⟨#[97, 115]⟩] 9)
  have hr : aliasC l i = if isTok 1 [w_as] l i = true then (if nameW l i1 = 1 then i2 else i1) else (if nameW l i = 1 then i1 else i) := by
    unfold aliasC asB
    subst hi2 hi1
    split <;> rfl
  generalize aliasC l i = r at *
  generalize isTok 1 [w_as] l i = b at *
  generalize nameW l i = n at *
  generalize nameW l i1 = m at *
  have HW := Lib.hid hw
  have HM := Lib.hid hn1
  have HN := Lib.hid hn2
  have HB := Lib.hid hB
  clear hw hn1 hn2 hB h hi1 hi2 hi e0
  cases b
  · by_cases h1 : n = 1
    · subst h1
      rw [if_neg (by decide), if_pos rfl] at hr
      subst hr
      go_enter Tryz.func199, Tryz.ntmps199
      go_wp2_with (first
        | (go_at_call 196; (with_reducible refine HW.out.mono ?_); rintro e w2 ⟨rfl, rfl⟩)
        | (go_at_call 197; (with_reducible refine HM.out.mono ?_); rintro e w2 ⟨rfl, rfl⟩))
      go_ret
      exact ⟨rfl, HB.out⟩
    · have e1 : ((n : Int) == (1 : Int)) = false := by rw [beq_eq_false_iff_ne]; omega
      rw [if_neg (by decide), if_neg h1] at hr
      subst hr
      clear h1
      go_enter Tryz.func199, Tryz.ntmps199
      go_wp2_with (first
        | (go_at_call 196; (with_reducible refine HW.out.mono ?_); rintro e w2 ⟨rfl, rfl⟩)
        | (go_at_call 197; (with_reducible refine HM.out.mono ?_); rintro e w2 ⟨rfl, rfl⟩))
      go_ret
      exact ⟨rfl, HB.out⟩
  · by_cases h1 : m = 1
    · subst h1
      rw [if_pos rfl, if_pos rfl] at hr
      subst hr
      go_enter Tryz.func199, Tryz.ntmps199
      go_wp2_with (first
        | (go_at_call 196; (with_reducible refine HW.out.mono ?_); rintro e w2 ⟨rfl, rfl⟩)
        | (go_at_call 197; (with_reducible refine HN.out.mono ?_); rintro e w2 ⟨rfl, rfl⟩))
      go_ret
      exact ⟨rfl, HB.out⟩
    · have e1 : ((m : Int) == (1 : Int)) = false := by rw [beq_eq_false_iff_ne]; omega
      rw [if_pos rfl, if_neg h1] at hr
      subst hr
      clear h1
      go_enter Tryz.func199, Tryz.ntmps199
      go_wp2_with (first
        | (go_at_call 196; (with_reducible refine HW.out.mono ?_); rintro e w2 ⟨rfl, rfl⟩)
        | (go_at_call 197; (with_reducible refine HN.out.mono ?_); rintro e w2 ⟨rfl, rfl⟩))
      go_ret
      exact ⟨rfl, HB.out⟩
end Go.Proofs.YtjloookjlnmgdaaGreatDoor
namespace Go.Proofs.YtjloookjlnmgdaaGreatDoor
open Go.ChangeShapes Go.WideShapes Go.ChangeAt Go.RowKit
set_option maxRecDepth 100000
set_option linter.unusedVariables false
set_option linter.unusedSimpArgs false

theorem nameText_one (v : Value) (t : Tok) (w : World) (h : TR w v [t]) (hz : t.2.1.size ≤ 281474976710656) :
    Calls Tryz.prog 198 #[v] w fun e w' => e = .returned (.string t.2.1) ∧ Below w.heap.size w w' := by
  obtain ⟨a, cap, rfl, hx⟩ := tr_at h
  clear h
  rcases hx with h0 | ⟨g, off, rfl, hcap, hx⟩
  · exact absurd h0 (by simp)
  · have x2 := (hx 0 (by simp)).2
    have hc := clone_any t.2.1 w hz
    obtain ⟨kd, tx, ta⟩ := t
    simp only [List.getElem_cons_zero, List.length_singleton, Nat.zero_mul, Nat.add_zero] at x2 hc hx ⊢
    have HC := Lib.hid hc
    clear hx hc hcap hz
    go_enter Tryz.func198, Tryz.ntmps198
    go_wp2_with (go_at_call 48; (with_reducible refine HC.out.mono ?_); rintro e w2 ⟨rfl, hb⟩)
    go_ret
    exact ⟨rfl, hb⟩
set_option maxHeartbeats 1000000 in
theorem nameText_two (v : Value) (t p q : Tok) (w : World) (h : TR w v [t, p, q]) (hz : t.2.1.size ≤ 1000000000) (hz2 : q.2.1.size ≤ 1000000000) :
    Calls Tryz.prog 198 #[v] w fun e w' => (∃ s : ByteArray, e = .returned (.string s) ∧ s.toList = t.2.1.toList ++ [46] ++ q.2.1.toList) ∧ Below w.heap.size w w' := by
  obtain ⟨a, cap, rfl, hx⟩ := tr_at h
  clear h
  rcases hx with h0 | ⟨g, off, rfl, hcap, hx⟩
  · exact absurd h0 (by simp)
  · have x1 := (hx 0 (by simp)).2
    have x2 := (hx 2 (by simp)).2
    obtain ⟨kd, tx, ta⟩ := t
    obtain ⟨kq, ty, tb⟩ := q
    simp only [List.getElem_cons_zero, List.getElem_cons_succ, List.length_cons, List.length_nil, Nat.zero_add, Nat.reduceAdd, Nat.zero_mul, Nat.add_zero, Nat.reduceMul] at x1 x2 hx hz hz2 ⊢
    clear hx hcap
    go_enter Tryz.func198, Tryz.ntmps198
    go_wp2
    go_quiet (fail)
    go_wp2
    go_ret
    refine ⟨⟨_, rfl, ?_⟩, ⟨rfl, rfl, rfl, Nat.le_refl _, fun _ _ => rfl⟩⟩
    simp only [Lib.toList_data, ByteArray.data_append, Array.toList_append]
end Go.Proofs.YtjloookjlnmgdaaGreatDoor
namespace Go.Proofs.YtjloookjlnmgdaaGreatDoor
open Go.ChangeShapes Go.WideShapes Go.ChangeAt Go.RowKit
set_option maxRecDepth 100000
set_option linter.unusedVariables false
set_option linter.unusedSimpArgs false

/-- what has been told, when one who is told may want no more -/
def toldL (more : List (Tx × Nat) → Tx × Nat → Bool) : List (Tx × Nat) → List (Tx × Nat) → List (Tx × Nat)
  | d, [] => d
  | d, x :: r => if more d x = true then toldL more (d ++ [x]) r else d ++ [x]
structure Teller (f : Nat) (lb : Array Value) (v : Value) (l : List Tok) (z : Nat) (J : List (Tx × Nat) → World → Prop) (more : List (Tx × Nat) → Tx × Nat → Bool) : Prop where
  enter : ∀ args w, Sem.run Tryz.prog (callFunc f args) w = .ok (.enter f args) w
  reads : ∀ d W, J d W → TR W v l
  keeps : ∀ d W W', J d W → Below W.heap.size W W' → J d W'
  tells : ∀ d (s : ByteArray) (p : Nat) W, J d W → d.length + 1 ≤ z → s.size ≤ 2000000001 → p < l.length → Calls Tryz.prog f (#[.string s, .int .i64 (p : Int)] ++ lb) W fun e W' => e = .returned (.bool (more d (s.toList, p))) ∧ J (d ++ [(s.toList, p)]) W'
theorem piece_tr {w : World} {g off : Nat} {l : List Tok} (hx : ∀ k (hk : k < l.length), w.cell? ⟨g, off + k * 3, none⟩ = some (.int .i64 l[k].1) ∧ w.cell? ⟨g, off + k * 3 + 1, none⟩ = some (.string l[k].2.1) ∧ w.cell? ⟨g, off + k * 3 + 2, none⟩ = some (.int .i64 l[k].2.2)) (j n c : Nat) (hj : j + n ≤ l.length) (hc : n ≤ c) :
    TR w (.slice (some ⟨g, off + j * 3, none⟩) n c) ((l.drop j).take n) := by
  have hlen : ((l.drop j).take n).length = n := by rw [List.length_take, List.length_drop]; omega
  refine .inr ⟨g, off + j * 3, c, by rw [hlen], by rw [hlen]; exact hc, fun i t hi => ?_⟩
  have hin : i < n := by have := (List.getElem?_eq_some_iff.1 hi).1; omega
  rw [List.getElem?_take_of_lt hin, List.getElem?_drop] at hi
  obtain ⟨h1, h2⟩ := List.getElem?_eq_some_iff.1 hi
  have h3 := hx (j + i) h1
  rw [h2, show off + (j + i) * 3 = off + j * 3 + i * 3 by omega] at h3
  exact h3
/-- the text of the name at a place, as nameText is asked for it -/
theorem nameText_at (v : Value) (l : List Tok) (j : Nat) (w : World) (h : TR w v l) (hz : ∀ t ∈ l, t.2.1.size ≤ 1000000000) (hn : nameW l j ≠ 0) (g off cap : Nat) (hv : v = .slice (some ⟨g, off, none⟩) l.length cap) (c : Nat) (hc : nameW l j ≤ c) :
    Calls Tryz.prog 198 #[.slice (some ⟨g, off + j * 3, none⟩) (nameW l j) c] w fun e w' => (∃ s : ByteArray, e = .returned (.string s) ∧ s.toList = nameX l j ∧ s.size ≤ 2000000001) ∧ Below w.heap.size w w' := by
  obtain ⟨hle, h1, h3⟩ := nameW_lt hn
  have hx : ∀ k (hk : k < l.length), w.cell? ⟨g, off + k * 3, none⟩ = some (.int .i64 l[k].1) ∧ w.cell? ⟨g, off + k * 3 + 1, none⟩ = some (.string l[k].2.1) ∧ w.cell? ⟨g, off + k * 3 + 2, none⟩ = some (.int .i64 l[k].2.2) := by
    rcases h with ⟨A, c2, e, rfl⟩ | ⟨g2, off2, c2, e, _, hx⟩
    · intro k hk; exact absurd hk (by simp)
    · rw [hv] at e; cases e
      exact fun k hk => hx k l[k] (List.getElem?_eq_getElem hk)
  have hp := piece_tr hx j (nameW l j) c hle hc
  have hj : j < l.length := by omega
  have t0 : txtAt l j = l[j].2.1.toList := by unfold txtAt; rw [List.getElem?_eq_getElem hj]
  have sz : ∀ k (hk : k < l.length), l[k].2.1.size ≤ 1000000000 := fun k hk => hz _ (List.getElem_mem hk)
  have hs0 := sz j hj
  have hw : nameW l j = 3 ∨ nameW l j = 1 := by
    unfold nameW at hn ⊢
    split at hn
    · exact absurd rfl hn
    · rename_i hp
      rw [if_neg hp]
      split
      · exact .inl rfl
      · exact .inr rfl
  rcases hw with e | e
  · have hj2 : j + 2 < l.length := by omega
    have hj1 : j + 1 < l.length := by omega
    have ep : (l.drop j).take 3 = [l[j], l[j + 1], l[j + 2]] := by
      rw [List.drop_eq_getElem_cons hj, List.drop_eq_getElem_cons hj1, List.drop_eq_getElem_cons hj2]; rfl
    have t2 : txtAt l (j + 2) = l[j + 2].2.1.toList := by unfold txtAt; rw [List.getElem?_eq_getElem hj2]
    have hs2 := sz (j + 2) hj2
    rw [e] at hp ⊢
    rw [ep] at hp
    refine (nameText_two _ _ _ _ w hp hs0 hs2).mono fun e2 w' ⟨⟨s, he, hs⟩, hb⟩ => ⟨⟨s, he, ?_, ?_⟩, hb⟩
    · rw [hs, nameX, if_pos e, t0, t2]
    · have h5 : s.size = s.toList.length := by rw [Lib.toList_data]; rfl
      have h6 : l[j].2.1.size = l[j].2.1.toList.length := by rw [Lib.toList_data]; rfl
      have h7 : l[j + 2].2.1.size = l[j + 2].2.1.toList.length := by rw [Lib.toList_data]; rfl
      rw [h5, hs, List.length_append, List.length_append, List.length_singleton]
      omega
  · have ep : (l.drop j).take 1 = [l[j]] := by rw [List.drop_eq_getElem_cons hj]; rfl
    rw [e] at hp ⊢
    rw [ep] at hp
    refine (nameText_one _ _ w hp (by omega)).mono fun e2 w' ⟨he, hb⟩ => ⟨⟨_, he, ?_, by omega⟩, hb⟩
    rw [nameX, if_neg (by omega), t0]
end Go.Proofs.YtjloookjlnmgdaaGreatDoor
