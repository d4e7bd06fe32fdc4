/- What package lexer's between, quoted, str answer. Condition: a text's length; that it is not empty.
   What package lexer's isTag, mark, dollars answer. Condition: the word of bytealg; a text's length.
   What package lexer's mark and dollars answer, in plain words. Condition: the word of bytealg; a text's length.
   What package lexer's list of readers holds, and what each of them answers, as one plain function. Condition: the word of bytealg; a text's length, not empty.
   How many bytes package lexer's readers take: none, minus one, or so many as there are. No program.
   Scan in plain words, and what holds of the memory while it goes on. Condition: none.
   Lists of tokens as slices read them; what the document's Same tells of two that are alike. Condition: none.
   What strings.Builder's WriteByte and WriteString do at this translation (its copy check's panic is not carried here). After the shelf's own forms. Condition: none but the builder's limit.
   Tokens as text in plain words; what package lexer's quote and shown answer. Conditions: the word of bytealg, a text's length. -/
import Derived.Test.YtjloookjlnmgdaaGreatDoorG9
import Derived.WalkMore
import Derived.BigQuiet
import Derived.IntWalk
import Derived.OwnWalk
import Derived.Deep.DeepMust
import Derived.Deep.DeepAppendWide
import Derived.Deep.QuietTactic
import Derived.Lib.Builder
import Derived.Lib.OthersKept
import Derived.Lib.AppendStr
import Derived.WalkKit
import Derived.Shelf.Strings.Builder1
import Derived.Test.YtjloookjlnmgdaaGreatDoorShelf
import Derived.Lib.ReplaceLaws
import Derived.Lib.SplitLaws
set_option linter.unusedSimpArgs false
set_option linter.unusedVariables false
namespace Go.Proofs.YtjloookjlnmgdaaGreatDoor
open Go.ChangeShapes Go.WideShapes Go.ChangeAt Go.RowKit
set_option maxRecDepth 100000
set_option linter.unusedVariables false
set_option linter.unusedSimpArgs false

/-- what stands up to a quote that ends, and how many bytes that is, the quote too -/
def betL (q : UInt8) : Tx → Option (Tx × Nat)
  | [] => none
  | c :: r => if c = q then (match r with
      | d :: r2 => if d = q then (betL q r2).map (fun p => (d :: p.1, p.2 + 2)) else some ([], 1)
      | [] => some ([], 1)) else (betL q r).map (fun p => (c :: p.1, p.2 + 1))
theorem betL_cons (q c : UInt8) (r : Tx) : betL q (c :: r) = if c = q then (match r with
      | d :: r2 => if d = q then (betL q r2).map (fun p => (d :: p.1, p.2 + 2)) else some ([], 1)
      | [] => some ([], 1)) else (betL q r).map (fun p => (c :: p.1, p.2 + 1)) := by
  rw [betL.eq_def]
  cases r <;> rfl
def u8V (c : UInt8) : Value := .int .u8 (c.toNat : Int)
theorem info5 : (Tryz.prog.info? 5).map (fun i => (i.zero, i.size, i.bytes)) = some (some (.int .u8 0), 1, 1) := by kernel_rfl
theorem i5_parts : ∃ i, Tryz.prog.info? 5 = some i ∧ i.zero = some (.int .u8 0) ∧ i.size = 1 ∧ i.bytes = 1 := by
  have h := info5
  cases e : Tryz.prog.info? 5 with
  | none => rw [e] at h; cases h
  | some i =>
    rw [e] at h
    simp only [Option.map_some, Option.some.injEq, Prod.mk.injEq] at h
    exact ⟨i, rfl, h.1, h.2.1, h.2.2⟩
theorem und47 : Tryz.prog.underlying 95 = some (.slice 5) := by kernel_rfl
theorem Own3.grown {w w1 w2 : World} {row : Option Nat} (h : Own3 w w1) (g : w1.grownBy w2 row) (hr : ∀ k, row = some k → w.heap.size + 1 ≤ k) : Own3 w w2 := by
  have b : Below (w.heap.size + 1) w1 w2 := (Below.refl _ _).grown g (by have := h.lt; omega) hr
  have l := Nat.lt_succ_self w.heap.size
  exact ⟨h.bel.trans (b.mono (Nat.le_succ _)), Nat.lt_of_lt_of_le h.lt b.size, by rw [b.cell l]; exact h.k0, by rw [b.cell l]; exact h.k1, by rw [b.cell l]; exact h.k2, by rw [b.frozen l]; exact h.f0, by rw [b.frozen l]; exact h.f1, by rw [b.frozen l]; exact h.f2⟩
structure BetI (s : ByteArray) (q : UInt8) (R : Option (Tx × Nat)) (w : World) (xs : Tx) (a : Nat) (v : Value) (wr : World) : Prop where
  own : Own3 w wr
  row : wr.ownsRow (w.heap.size + 1) 5 1 v xs.length (xs.map u8V)
  le : a ≤ s.size
  len : xs.length ≤ a
  val : R = (betL q (s.data.toList.drop a)).map (fun p => (xs ++ p.1, p.2 + a))
theorem BetI.more {s : ByteArray} {q : UInt8} {R : Option (Tx × Nat)} {w wr w2 : World} {xs : Tx} {a b : Nat} {v v2 : Value} {z : Int} (h : BetI s q R w xs a v wr) (c : UInt8) (hz : z = (c.toNat : Int))
    (hr : w2.ownsRow (w.heap.size + 1) 5 1 v2 (xs.length + 1) (xs.map u8V ++ [.int .u8 z])) (hg : (wr.alloc (.cells #[.int .u8 z] 5)).grownBy w2 v.ownBlock)
    (hb : b ≤ s.size) (hab : a < b) (hv : R = (betL q (s.data.toList.drop b)).map (fun p => (xs ++ c :: p.1, p.2 + b))) : BetI s q R w (xs ++ [c]) b v2 w2 := by
  refine ⟨(h.own.step ((Below.refl _ _).alloc (Nat.le_refl _) _)).grown hg (fun k hk => (World.ownsRow.lt h.row k hk).1), ?_, hb, by have := h.len; simp; omega, ?_⟩
  · subst hz
    simpa [u8V] using hr
  · rw [hv]; simp
theorem betV_str {w wr : World} {xs : Tx} {v : Value} (h : wr.ownsRow (w.heap.size + 1) 5 1 v xs.length (xs.map u8V)) : (convert 95 9 v).run Tryz.prog wr = .ok (.string ⟨xs.toArray⟩) wr := by
  have ht := h
  rcases h.2 with ⟨rfl, hn⟩ | ⟨g, cap, cur, rfl, _⟩
  · have : xs = [] := List.eq_nil_of_length_eq_zero hn
    subst this
    rw [run_convert_bytes_string wr 95 9 5 none 0 0 und47 (by kernel_rfl) (by kernel_rfl)]
    simp [Conv.bytesToString]
    rfl
  · refine run_convert_bytes_back (P := Tryz.prog) wr 95 9 5 ⟨g, 0, none⟩ cap xs und47 (by kernel_rfl) (by kernel_rfl) (fun j hj => ?_)
    exact World.ownsRow.cells ht rfl j _ (by simp [u8V, hj])
def betV (k : Int) (o : Option (Tx × Nat)) : Value := match o with
  | some p => pcV k ⟨p.1.toArray⟩ (p.2 : Int)
  | none => pcV 0 ⟨#[]⟩ (-1)
theorem bet_no (s : ByteArray) (q : UInt8) (k : Int) (w : World) (h : 0 < s.size) (hq : (s[0]'h) ≠ q) :
    Calls Tryz.prog 125 #[.string s, .int .u8 (q.toNat : Int), .int .i64 k] w fun e w' => e = .returned (pcV 0 ⟨#[]⟩ 0) ∧ Below w.heap.size w w' := by
  have hz : (0 : Int) < (s.size : Int) := by omega
  have g : (((s[0]'h).toNat : Int) != (q.toNat : Int)) = true := by
    rw [bne, beq_eq_false_iff_ne.2 (fun e => hq (UInt8.toNat_inj.1 (by omega)))]; rfl
  clear hq
  go_enter Tryz.func125, Tryz.ntmps125
  go_wp2
  refine bodyPost_ret (v := pcV 0 ⟨#[]⟩ 0) (by simp [results, Tryz.results125, go_sem]) rfl ?_
  exact ⟨rfl, (Below.refl _ _).alloc (Nat.le_refl _) _⟩
theorem one_cell (w : World) (z : Int) : ∀ (j : Nat) (u : Value), [Value.int .u8 z][j]? = some u → (w.alloc (.cells #[.int .u8 z] 5)).cell? ((⟨w.heap.size, 0, none⟩ : Addr).add j) = some u := by
  intro j u hj
  match j, hj with
  | 0, hj =>
    rw [Addr.add_lit, World.cell?_alloc_mark]
    simpa using hj
set_option maxHeartbeats 1000000 in
set_option maxRecDepth 100000 in
theorem bet_yes (s : ByteArray) (q : UInt8) (k : Int) (w : World) (hs : s.size ≤ 4294967296) (h : 0 < s.size) (hq : (s[0]'h) = q) (R : Option (Tx × Nat)) (hR : R = (betL q (s.data.toList.drop 1)).map (fun p => (p.1, p.2 + 1))) :
    Calls Tryz.prog 125 #[.string s, .int .u8 (q.toNat : Int), .int .i64 k] w fun e w' => e = .returned (betV k R) ∧ Below w.heap.size w w' := by
  obtain ⟨i5, hi5, hz5, hs5, hb5⟩ := i5_parts
  have hz : (0 : Int) < (s.size : Int) := by omega
  have g : (((s[0]'h).toNat : Int) != (q.toNat : Int)) = false := by
    rw [hq]; simp
  have hI : BetI s q R w [] 1 (.slice none 0 0) _ := ⟨Own3.new w, World.ownsRow_nil _ _ _ _, by omega, by simp, by rw [hR]; rfl⟩
  have HI := Lib.hid hI
  clear hI hq hR
  go_enter Tryz.func125, Tryz.ntmps125
  go_wp2
  go_loopw [7, 8] (fun u7 u8 wr => ∃ (xs : Tx) (a : Nat), u8 = .int .i64 (a : Int) ∧ BetI s q R w xs a u7 wr) (fun _ u8 _ => s.size - (match u8 with | .int _ k => k.toNat | _ => 0))
  case atStart => exact ⟨[], 1, rfl, HI.out⟩
  case round =>
    obtain ⟨xs, a, rfl, hr⟩ := hrel
    obtain ⟨hown, hrow, hle, hlen, hval⟩ := id hr
    obtain ⟨hB, hL, k0, k1, k2, f0, f1, f2⟩ := id hown
    have hconv := betV_str hrow
    have HB := Lib.hid hr
    have HV := Lib.hid hval
    have l0 : (0 : Int) ≤ (a : Int) := by omega
    clear hr hown HI hrow hval g hz
    by_cases ha : a < s.size
    · have hd := List.drop_eq_getElem_cons (show a < s.data.toList.length by rw [← Lib.size_eq]; exact ha)
      have hda : s.data.toList[a]'(by rw [← Lib.size_eq]; exact ha) = s[a]'ha := rfl
      rw [hda] at hd
      obtain ⟨b, hb⟩ : ∃ b, a + 1 = b := ⟨_, rfl⟩
      have cw : IntKind.i64.wrap ((a : Int) + 1) = (b : Int) := by rw [show (a : Int) + 1 = (b : Int) by omega]; exact IntWalk.i64_in _ (by omega)
      have la : (a : Int) < (s.size : Int) := by omega
      rw [hb] at hd
      have HD := Lib.hid hd
      have HBA := Lib.hid hb
      clear hd hda hb
      by_cases hc : s[a]'ha = q
      · have g1 : (((s[a]'ha).toNat : Int) == (q.toNat : Int)) = true := by rw [hc]; simp
        have b0 : (0 : Int) ≤ (b : Int) := by omega
        by_cases hbs : b = s.size
        · have hv : betV k R = pcV k ⟨xs.toArray⟩ (b : Int) := by
            rw [HV.out, HD.out, betL_cons, if_pos hc, List.drop_of_length_le (by rw [← Lib.size_eq]; omega)]
            simp [betV]
            have := HBA.out; omega
          have g2 : ((b : Int) == (s.size : Int)) = true := by rw [beq_iff_eq]; omega
          clear hc
          go_wp2
          refine bodyPost_ret (v := pcV k ⟨xs.toArray⟩ (b : Int)) (by simp [results, Tryz.results125, go_sem, k0, k1, k2]; try omega) rfl ?_
          try rw [hv]
          refine ⟨rfl, ((hB.setCell ?_ _).setCell ?_ _).setCell ?_ _⟩ <;> exact Nat.le_refl _
        · have hbl : b < s.size := by have := HBA.out; omega
          have lb : (b : Int) < (s.size : Int) := by omega
          have g2 : ((b : Int) == (s.size : Int)) = false := by rw [beq_eq_false_iff_ne]; omega
          have hd2 := List.drop_eq_getElem_cons (show b < s.data.toList.length by rw [← Lib.size_eq]; exact hbl)
          have hda2 : s.data.toList[b]'(by rw [← Lib.size_eq]; exact hbl) = s[b]'hbl := rfl
          rw [hda2] at hd2
          by_cases hc2 : s[b]'hbl = q
          · have g3 : (((s[b]'hbl).toNat : Int) != (q.toNat : Int)) = false := by rw [hc2]; simp
            obtain ⟨d, hdd⟩ : ∃ d, b + 1 = d := ⟨_, rfl⟩
            have cw2 : IntKind.i64.wrap ((b : Int) + 1) = (d : Int) := by rw [show (b : Int) + 1 = (d : Int) by omega]; exact IntWalk.i64_in _ (by omega)
            have hv : R = (betL q (s.data.toList.drop d)).map (fun p => (xs ++ (s[b]'hbl) :: p.1, p.2 + d)) := by
              rw [HV.out, HD.out, betL_cons, if_pos hc, hd2, hdd]
              simp only [hc2, if_true]
              rw [Option.map_map]
              congr 1
              funext p
              simp only [Function.comp]
              have := HBA.out
              rw [show p.2 + 2 + a = p.2 + d by omega]
            have HV2 := Lib.hid hv
            have HDD := Lib.hid hdd
            clear hv hc hc2 hd2 hda2 hdd
            go_wp2_with (at_builtin; go_must (
              refine wpList_append_own_wide _ rfl (.tmp 43) (.tmp 47) 95 rfl (w.heap.size + 1) 5 i5 (.int .u8 0) 1 1 und47 hi5 hz5 hs5 hb5 rfl (by decide) u7 xs.length (xs.map u8V) rfl (HB.out.row.alloc _) ⟨wr.heap.size, 0, none⟩ 1 1 [.int .u8 ((s[b]'hbl).toNat : Int)] rfl rfl ?c1 ?c2 ?c3 ?c4 ?c5 ?_
              case c1 => exact one_cell wr _
              case c2 => intro u hu; rw [List.mem_singleton.1 hu]; rfl
              case c3 => unfold maxLen; omega
              case c4 => omega
              case c5 => have := HB.out.own.lt; simp; omega
              intro v9 w9 hown9 hgr9 _))
            have hmore := HB.out.more (b := d) (s[b]'hbl) rfl hown9 hgr9 (by have := HDD.out; omega) (by have := HDD.out; have := HBA.out; omega) HV2.out
            have := HDD.out
            have := HBA.out
            refine ⟨⟨_, d, rfl, hmore⟩, ?_⟩
            simp only [Int.toNat_natCast]; omega
          · have hv : betV k R = pcV k ⟨xs.toArray⟩ (b : Int) := by
              rw [HV.out, HD.out, betL_cons, if_pos hc, hd2]
              simp only [hc2, if_false]
              simp [betV]
              have := HBA.out; omega
            have g3 : (((s[b]'hbl).toNat : Int) != (q.toNat : Int)) = true := by
              rw [bne, beq_eq_false_iff_ne.2 (fun e => hc2 (UInt8.toNat_inj.1 (by omega)))]; rfl
            clear hc hc2 hd2 hda2
            go_wp2
            refine bodyPost_ret (v := pcV k ⟨xs.toArray⟩ (b : Int)) (by simp [results, Tryz.results125, go_sem, k0, k1, k2]; try omega) rfl ?_
            try rw [hv]
            refine ⟨rfl, ((hB.setCell ?_ _).setCell ?_ _).setCell ?_ _⟩ <;> exact Nat.le_refl _
      · have g1 : (((s[a]'ha).toNat : Int) == (q.toNat : Int)) = false := by
          rw [beq_eq_false_iff_ne]; exact fun e => hc (UInt8.toNat_inj.1 (by omega))
        have hv : R = (betL q (s.data.toList.drop b)).map (fun p => (xs ++ (s[a]'ha) :: p.1, p.2 + b)) := by
          rw [HV.out, HD.out, betL_cons, if_neg hc, Option.map_map]
          congr 1
          funext p
          simp only [Function.comp]
          have := HBA.out
          rw [show p.2 + 1 + a = p.2 + b by omega]
        have HV2 := Lib.hid hv
        clear hv hc
        go_wp2_with (at_builtin; go_must (
          refine wpList_append_own_wide _ rfl (.tmp 43) (.tmp 47) 95 rfl (w.heap.size + 1) 5 i5 (.int .u8 0) 1 1 und47 hi5 hz5 hs5 hb5 rfl (by decide) u7 xs.length (xs.map u8V) rfl (HB.out.row.alloc _) ⟨wr.heap.size, 0, none⟩ 1 1 [.int .u8 ((s[a]'ha).toNat : Int)] rfl rfl ?c1 ?c2 ?c3 ?c4 ?c5 ?_
          case c1 => exact one_cell wr _
          case c2 => intro u hu; rw [List.mem_singleton.1 hu]; rfl
          case c3 => unfold maxLen; omega
          case c4 => omega
          case c5 => have := HB.out.own.lt; simp; omega
          intro v9 w9 hown9 hgr9 _))
        have hmore := HB.out.more (b := b) (s[a]'ha) rfl hown9 hgr9 (by have := HBA.out; omega) (by have := HBA.out; omega) HV2.out
        have := HBA.out
        refine ⟨⟨_, b, rfl, hmore⟩, ?_⟩
        simp only [Int.toNat_natCast]; omega
    · have la : ¬ ((a : Int) < (s.size : Int)) := by omega
      have hv : betV k R = pcV 0 ⟨#[]⟩ (-1) := by
        rw [HV.out, List.drop_of_length_le (by rw [← Lib.size_eq]; omega)]; rfl
      go_wp2
      refine bodyPost_ret (v := pcV 0 ⟨#[]⟩ (-1)) (by simp [results, Tryz.results125, go_sem, k0, k1, k2]; try omega) rfl ?_
      try rw [hv]
      refine ⟨rfl, ((hB.setCell ?_ _).setCell ?_ _).setCell ?_ _⟩ <;> exact Nat.le_refl _
def quoS (q : UInt8) (k : Int) (s : ByteArray) : Value :=
  match s.data.toList with
  | [] => pcV 0 ⟨#[]⟩ 0
  | c :: r => if c = q then betV k ((betL q r).map (fun p => (p.1, p.2 + 1))) else pcV 0 ⟨#[]⟩ 0
theorem bet_any (s : ByteArray) (q : UInt8) (k : Int) (w : World) (hs : s.size ≤ 4294967296) (h : 0 < s.size) :
    Calls Tryz.prog 125 #[.string s, .int .u8 (q.toNat : Int), .int .i64 k] w fun e w' => e = .returned (quoS q k s) ∧ Below w.heap.size w w' := by
  have hd := List.drop_eq_getElem_cons (show 0 < s.data.toList.length by rw [← Lib.size_eq]; exact h)
  rw [List.drop_zero] at hd
  have hda : s.data.toList[0]'(by rw [← Lib.size_eq]; exact h) = s[0]'h := rfl
  rw [hda] at hd
  by_cases hq : s[0]'h = q
  · have e : quoS q k s = betV k ((betL q (s.data.toList.drop 1)).map (fun p => (p.1, p.2 + 1))) := by
      unfold quoS; rw [hd]; simp only [hq, if_true, List.drop_succ_cons, List.drop_zero]
    rw [e]
    exact bet_yes s q k w hs h hq _ rfl
  · have e : quoS q k s = pcV 0 ⟨#[]⟩ 0 := by
      unfold quoS; rw [hd]; simp only [hq, if_false]
    rw [e]
    exact bet_no s q k w h hq
theorem betV_agg (k : Int) (o : Option (Tx × Nat)) : ∃ a t n, betV k o = pcV a t n := by
  cases o with
  | none => exact ⟨_, _, _, rfl⟩
  | some p => exact ⟨_, _, _, rfl⟩
theorem quoS_agg (q : UInt8) (k : Int) (s : ByteArray) : ∃ a t n, quoS q k s = pcV a t n := by
  unfold quoS
  split
  · exact ⟨_, _, _, rfl⟩
  · split
    · exact betV_agg _ _
    · exact ⟨_, _, _, rfl⟩
theorem quoted_any (s : ByteArray) (w : World) (hs : s.size ≤ 4294967296) (h : 0 < s.size) :
    Calls Tryz.prog 92 #[.string s] w fun e w' => e = .returned (quoS 34 2 s) ∧ Below w.heap.size w w' := by
  have hb := fun w => bet_any s 34 2 w hs h
  obtain ⟨a, t, n, e⟩ := quoS_agg 34 2 s
  rw [e] at hb ⊢
  have hb : ∀ w, Calls Tryz.prog 125 #[.string s, .int .u8 34, .int .i64 2] w fun e w' => e = .returned (pcV a t n) ∧ Below w.heap.size w w' := hb
  have HB := Lib.hid hb
  clear hb e
  go_enter Tryz.func92, Tryz.ntmps92
  go_wp2_with (go_at_call 125; (with_reducible refine (HB.out _).mono ?_); rintro e w1 ⟨rfl, hb1⟩; have F1 := (Own3.new w).step hb1; clear hb1; obtain ⟨hB, hL, k0, k1, k2, f0, f1, f2⟩ := id F1)
  refine bodyPost_ret (v := pcV a t n) (by simp [results, Tryz.results92, go_sem, k0, k1, k2]) rfl ?_
  refine ⟨rfl, ((hB.setCell ?_ _).setCell ?_ _).setCell ?_ _⟩ <;> exact Nat.le_refl _
theorem str_any (s : ByteArray) (w : World) (hs : s.size ≤ 4294967296) (h : 0 < s.size) :
    Calls Tryz.prog 93 #[.string s] w fun e w' => e = .returned (quoS 39 3 s) ∧ Below w.heap.size w w' := by
  have hb := fun w => bet_any s 39 3 w hs h
  obtain ⟨a, t, n, e⟩ := quoS_agg 39 3 s
  rw [e] at hb ⊢
  have hb : ∀ w, Calls Tryz.prog 125 #[.string s, .int .u8 39, .int .i64 3] w fun e w' => e = .returned (pcV a t n) ∧ Below w.heap.size w w' := hb
  have HB := Lib.hid hb
  clear hb e
  go_enter Tryz.func93, Tryz.ntmps93
  go_wp2_with (go_at_call 125; (with_reducible refine (HB.out _).mono ?_); rintro e w1 ⟨rfl, hb1⟩; have F1 := (Own3.new w).step hb1; clear hb1; obtain ⟨hB, hL, k0, k1, k2, f0, f1, f2⟩ := id F1)
  refine bodyPost_ret (v := pcV a t n) (by simp [results, Tryz.results93, go_sem, k0, k1, k2]) rfl ?_
  refine ⟨rfl, ((hB.setCell ?_ _).setCell ?_ _).setCell ?_ _⟩ <;> exact Nat.le_refl _
end Go.Proofs.YtjloookjlnmgdaaGreatDoor
namespace Go.Proofs.YtjloookjlnmgdaaGreatDoor
open Go.ChangeShapes Go.WideShapes Go.ChangeAt Go.RowKit
set_option maxRecDepth 100000
set_option linter.unusedVariables false
set_option linter.unusedSimpArgs false

def isTagL (l : Tx) : Bool := l.isEmpty || (decide (0 < rowL letB l) && decide (rowL tagB l = l.length))
theorem isTag_any (s : ByteArray) (w : World) : Calls Tryz.prog 163 #[.string s] w fun e w' => e = .returned (.bool (isTagL s.data.toList)) ∧ Below w.heap.size w w' := by
  have hr := fun w => row_letter letN letB true (Lib.hid kin_let) s w (Lib.hid (weak_ let_any))
  have hq := fun w => row_tag tagN tagB true (Lib.hid kin_tag) s w (Lib.hid (weak_ tag_any))
  have e0 : isTagL s.data.toList = (s.toList.isEmpty || (decide ((0 : Int) < (rowL letB s.data.toList : Int)) && ((rowL tagB s.data.toList : Int) == (s.size : Int)))) := by
    unfold isTagL
    rw [Lib.toList_data, ← Lib.size_eq]
    congr 1
    rw [Bool.eq_iff_iff]
    simp only [Bool.and_eq_true, decide_eq_true_eq, beq_iff_eq]
    omega
  rw [e0]
  clear e0
  generalize rowL letB s.data.toList = n at *
  generalize rowL tagB s.data.toList = m at *
  have HR := Lib.hid hr
  have HQ := Lib.hid hq
  clear hr hq
  cases h0 : s.toList.isEmpty with
  | true =>
    go_enter Tryz.func163, Tryz.ntmps163
    go_wp2
    go_ret
    exact ⟨rfl, Below.refl _ _⟩
  | false =>
    by_cases hn : (0 : Int) < (n : Int)
    · rw [decide_eq_true hn]
      cases hb : ((m : Int) == (s.size : Int)) with
      | true =>
        go_enter Tryz.func163, Tryz.ntmps163
        go_wp2_with (first
          | (go_at_call 118; (with_reducible refine (HR.out _).mono ?_); rintro e w1 ⟨rfl, hb1⟩)
          | (go_at_call 118; (with_reducible refine (HQ.out _).mono ?_); rintro e w2 ⟨rfl, hb2⟩))
        go_ret
        exact ⟨rfl, hb1.trans (hb2.mono hb1.size)⟩
      | false =>
        go_enter Tryz.func163, Tryz.ntmps163
        go_wp2_with (first
          | (go_at_call 118; (with_reducible refine (HR.out _).mono ?_); rintro e w1 ⟨rfl, hb1⟩)
          | (go_at_call 118; (with_reducible refine (HQ.out _).mono ?_); rintro e w2 ⟨rfl, hb2⟩))
        go_ret
        exact ⟨rfl, hb1.trans (hb2.mono hb1.size)⟩
    · rw [decide_eq_false hn]
      go_enter Tryz.func163, Tryz.ntmps163
      go_wp2_with (first
        | (go_at_call 118; (with_reducible refine (HR.out _).mono ?_); rintro e w1 ⟨rfl, hb1⟩))
      go_ret
      exact ⟨rfl, hb1⟩
theorem index_ge (s sub : Tx) : -1 ≤ Lib.index s sub := by
  induction s with
  | nil => unfold Lib.index; split <;> omega
  | cons b l ih =>
    unfold Lib.index
    split
    · omega
    · split <;> omega
theorem index_len (s sub : Tx) (h : 0 ≤ Lib.index s sub) : (Lib.index s sub).toNat + sub.length ≤ s.length := by
  induction s with
  | nil =>
    unfold Lib.index at h ⊢
    by_cases e : sub.isEmpty
    · rw [if_pos e]; simp at e; subst e; simp
    · rw [if_neg e] at h; omega
  | cons b l ih =>
    unfold Lib.index at h ⊢
    by_cases e : sub.isPrefixOf (b :: l)
    · rw [if_pos e]
      have := (List.isPrefixOf_iff_prefix.1 e).length_le
      simpa using this
    · rw [if_neg e] at h ⊢
      by_cases e2 : (Lib.index l sub == -1) = true
      · rw [if_pos e2] at h; omega
      · rw [if_neg e2] at h ⊢
        have g := index_ge l sub
        have n : Lib.index l sub ≠ -1 := by simpa using e2
        have := ih (by omega)
        rw [List.length_cons]; omega
theorem cut_len (s sep : Tx) (h : (Lib.cut s sep).2.2 = true) : (Lib.cut s sep).1.length + sep.length ≤ s.length := by
  unfold Lib.cut at h ⊢
  by_cases e : 0 ≤ Lib.index s sep
  · rw [if_pos e]
    have := index_len s sep e
    simp; omega
  · rw [if_neg e] at h; cases h
theorem mark_core (s r t t2 : ByteArray) (b ends ok : Bool) (m : Int) (w : World) (hm : Wd m w) (hs : s.size ≤ 281474976710656)
    (hc : ∀ w, Calls Tryz.prog 129 #[.string s, .string dolT] w fun e w' => e = .returned (.tuple #[.string r, .bool b]) ∧ w' = w)
    (hk : ∀ w, Wd m w → Calls Tryz.prog 121 #[.string r, .string dolT] w fun e w' => e = .returned (.tuple #[.string t, .string t2, .bool ends]) ∧ ∃ n, w' = w.drewN n)
    (ht : ∀ w, Calls Tryz.prog 163 #[.string t] w fun e w' => e = .returned (.bool ok) ∧ Below w.heap.size w w')
    (hle : b = true → ends = true → t.size + 2 ≤ s.size) :
    Calls Tryz.prog 126 #[.string s] w fun e w' => e = .returned (.string (if (b && ends && ok) = true then s.extract 0 (t.size + 2) else ⟨#[]⟩)) ∧ Below w.heap.size w w' := by
  have HC := Lib.hid hc
  have HK := Lib.hid hk
  have HT := Lib.hid ht
  clear hc hk ht
  cases b with
  | false =>
    rw [if_neg (by simp)]
    clear hle
    go_enter Tryz.func126, Tryz.ntmps126
    go_wp2_with (first
      | (go_at_call 129; (with_reducible refine (HC.out _).mono ?_); rintro e w1 ⟨rfl, hw⟩; obtain rfl := hw.symm)
      | (go_at_call 121; (with_reducible refine (HK.out _ hm).mono ?_); rintro e w2 ⟨rfl, nq, rfl⟩))
    go_ret
    exact ⟨rfl, below_drewN_ (Below.refl _ _) _⟩
  | true =>
  cases ends with
  | false =>
    rw [if_neg (by simp)]
    clear hle
    go_enter Tryz.func126, Tryz.ntmps126
    go_wp2_with (first
      | (go_at_call 129; (with_reducible refine (HC.out _).mono ?_); rintro e w1 ⟨rfl, hw⟩; obtain rfl := hw.symm)
      | (go_at_call 121; (with_reducible refine (HK.out _ hm).mono ?_); rintro e w2 ⟨rfl, nq, rfl⟩))
    go_ret
    exact ⟨rfl, below_drewN_ (Below.refl _ _) _⟩
  | true =>
  cases ok with
  | false =>
    rw [if_neg (by simp)]
    clear hle
    go_enter Tryz.func126, Tryz.ntmps126
    go_wp2_with (first
      | (go_at_call 129; (with_reducible refine (HC.out _).mono ?_); rintro e w1 ⟨rfl, hw⟩; obtain rfl := hw.symm)
      | (go_at_call 121; (with_reducible refine (HK.out _ hm).mono ?_); rintro e w2 ⟨rfl, nq, rfl⟩)
      | (go_at_call 163; (with_reducible refine (HT.out _).mono ?_); rintro e w3 ⟨rfl, hb3⟩))
    go_ret
    exact ⟨rfl, (below_drewN_ (Below.refl _ _) _).trans (hb3.mono (by simp))⟩
  | true =>
    rw [if_pos (show (true && true && true) = true from rfl)]
    have hl := hle rfl rfl
    clear hle
    obtain ⟨n, hn⟩ : ∃ n, t.size + 2 = n := ⟨_, rfl⟩
    have e1 : IntKind.i64.wrap (1 + (t.size : Int)) = 1 + (t.size : Int) := IntWalk.i64_in _ (by omega)
    have e2 : IntKind.i64.wrap (1 + (t.size : Int) + 1) = (n : Int) := by rw [show 1 + (t.size : Int) + 1 = (n : Int) by omega]; exact IntWalk.i64_in _ (by omega)
    have c0 : (0 : Int) ≤ (n : Int) := by omega
    have c1 : (n : Int) ≤ (s.size : Int) := by omega
    rw [hn]
    clear hn hl hs
    go_enter Tryz.func126, Tryz.ntmps126
    go_wp2_with (first
      | (go_at_call 129; (with_reducible refine (HC.out _).mono ?_); rintro e w1 ⟨rfl, hw⟩; obtain rfl := hw.symm)
      | (go_at_call 121; (with_reducible refine (HK.out _ hm).mono ?_); rintro e w2 ⟨rfl, nq, rfl⟩)
      | (go_at_call 163; (with_reducible refine (HT.out _).mono ?_); rintro e w3 ⟨rfl, hb3⟩))
    go_ret
    exact ⟨rfl, (below_drewN_ (Below.refl _ _) _).trans (hb3.mono (by simp))⟩
theorem dol_core (s mk t t2 : ByteArray) (ends : Bool) (m : Int) (w : World) (hm : Wd m w) (hs : s.size ≤ 4294967296) (hle : mk.size ≤ s.size) (hle2 : ends = true → t.size ≤ s.size)
    (hmk : ∀ w, Wd m w → Calls Tryz.prog 126 #[.string s] w fun e w' => e = .returned (.string mk) ∧ Below w.heap.size w w')
    (hk : ∀ w, Wd m w → Calls Tryz.prog 121 #[.string (s.extract mk.size s.size), .string mk] w fun e w' => e = .returned (.tuple #[.string t, .string t2, .bool ends]) ∧ ∃ n, w' = w.drewN n) :
    Calls Tryz.prog 94 #[.string s] w fun e w' => e = .returned (if mk.toList.isEmpty = true then pcV 0 ⟨#[]⟩ 0 else if ends = false then pcV 0 ⟨#[]⟩ (-1) else pcV 3 t ((mk.size : Int) + t.size + mk.size)) ∧ Below w.heap.size w w' := by
  have HW0 := Lib.hid (hm.below (Own3.new w).bel)
  have HM := Lib.hid hmk
  have HK := Lib.hid hk
  clear hmk hk hm
  cases he : mk.toList.isEmpty with
  | true =>
    rw [if_pos rfl]
    go_enter Tryz.func94, Tryz.ntmps94
    go_wp2_with (first
      | (go_at_call 126; (with_reducible refine (HM.out _ HW0.out).mono ?_); rintro e w1 ⟨rfl, hb1⟩; have F1 := (Own3.new w).step hb1; have HW1 := Lib.hid (HW0.out.below hb1); clear hb1; obtain ⟨hB, hL, k0, k1, k2, f0, f1, f2⟩ := id F1))
    refine bodyPost_ret (v := pcV 0 ⟨#[]⟩ 0) (by simp [results, Tryz.results94, go_sem, k0, k1, k2]) rfl ?_
    refine ⟨rfl, ((hB.setCell ?_ _).setCell ?_ _).setCell ?_ _⟩ <;> exact Nat.le_refl _
  | false =>
    rw [if_neg (by simp)]
    have c0 : (0 : Int) ≤ (mk.size : Int) := by omega
    have c1 : (mk.size : Int) ≤ (s.size : Int) := by omega
    cases ends with
    | false =>
    rw [if_pos rfl]
    go_enter Tryz.func94, Tryz.ntmps94
    go_wp2_with (first
      | (go_at_call 126; (with_reducible refine (HM.out _ HW0.out).mono ?_); rintro e w1 ⟨rfl, hb1⟩; have F1 := (Own3.new w).step hb1; have HW1 := Lib.hid (HW0.out.below hb1); clear hb1; obtain ⟨hB, hL, k0, k1, k2, f0, f1, f2⟩ := id F1)
      | (go_at_call 121; (with_reducible refine (HK.out _ HW1.out).mono ?_); rintro e w2 ⟨rfl, nq, rfl⟩; have F2 := F1.drewN nq; clear hB hL k0 k1 k2 f0 f1 f2; obtain ⟨hB, hL, k0, k1, k2, f0, f1, f2⟩ := id F2))
    refine bodyPost_ret (v := pcV 0 ⟨#[]⟩ (-1)) (by simp [results, Tryz.results94, go_sem, k0, k1, k2]) rfl ?_
    refine ⟨rfl, ((hB.setCell ?_ _).setCell ?_ _).setCell ?_ _⟩ <;> exact Nat.le_refl _
    | true =>
    rw [if_neg (by simp)]
    have ht := hle2 rfl
    have hc := fun w => clone_any t w (by omega)
    have HC := Lib.hid hc
    clear hc hle2
    have e1 : IntKind.i64.wrap ((mk.size : Int) + (t.size : Int)) = (mk.size : Int) + (t.size : Int) := IntWalk.i64_in _ (by omega)
    have e2 : IntKind.i64.wrap ((mk.size : Int) + (t.size : Int) + (mk.size : Int)) = (mk.size : Int) + (t.size : Int) + (mk.size : Int) := IntWalk.i64_in _ (by omega)
    go_enter Tryz.func94, Tryz.ntmps94
    go_wp2_with (first
      | (go_at_call 126; (with_reducible refine (HM.out _ HW0.out).mono ?_); rintro e w1 ⟨rfl, hb1⟩; have F1 := (Own3.new w).step hb1; have HW1 := Lib.hid (HW0.out.below hb1); clear hb1; obtain ⟨hB, hL, k0, k1, k2, f0, f1, f2⟩ := id F1)
      | (go_at_call 121; (with_reducible refine (HK.out _ HW1.out).mono ?_); rintro e w2 ⟨rfl, nq, rfl⟩; have F2 := F1.drewN nq; clear hB hL k0 k1 k2 f0 f1 f2; obtain ⟨hB, hL, k0, k1, k2, f0, f1, f2⟩ := id F2)
      | (go_at_call 48; (with_reducible refine (HC.out _).mono ?_); rintro e w3 ⟨rfl, hb3⟩; have F3 := F2.step hb3; clear hb3 hB hL k0 k1 k2 f0 f1 f2; obtain ⟨hB, hL, k0, k1, k2, f0, f1, f2⟩ := id F3))
    refine bodyPost_ret (v := pcV 3 t ((mk.size : Int) + t.size + mk.size)) (by simp [results, Tryz.results94, go_sem, k0, k1, k2]) rfl ?_
    refine ⟨rfl, ((hB.setCell ?_ _).setCell ?_ _).setCell ?_ _⟩ <;> exact Nat.le_refl _
end Go.Proofs.YtjloookjlnmgdaaGreatDoor
namespace Go.Proofs.YtjloookjlnmgdaaGreatDoor
open Go.ChangeShapes Go.WideShapes Go.ChangeAt Go.RowKit
set_option maxRecDepth 100000
set_option linter.unusedVariables false
set_option linter.unusedSimpArgs false

def cutD (s : ByteArray) : Tx × Tx × Bool := Lib.cut (dolR s).data.toList [36]
def markA (s : ByteArray) : ByteArray := if (hpB s dolT && (cutD s).2.2 && isTagL (cutD s).1) = true then s.extract 0 ((cutD s).1.length + 2) else ⟨#[]⟩
theorem arr_size (l : Tx) : (⟨l.toArray⟩ : ByteArray).size = l.length := by rw [Lib.size_eq]
theorem dolR_size (s : ByteArray) (h : hpB s dolT = true) : (dolR s).size + 1 = s.size := by
  have hle : 1 ≤ s.size := by unfold hpB at h; simp at h; exact h.1
  unfold dolR; rw [if_pos h, ByteArray.size_extract]; omega
theorem dolR_le (s : ByteArray) : (dolR s).size ≤ s.size := by
  unfold dolR; split
  · rw [ByteArray.size_extract]; omega
  · exact Nat.le_refl _
theorem mark_any (s : ByteArray) (m : Int) (w : World) (hs : s.size < 4294967281) (hm : Wd m w) :
    Calls Tryz.prog 126 #[.string s] w fun e w' => e = .returned (.string (markA s)) ∧ Below w.heap.size w w' := by
  have h := mark_core s (dolR s) ⟨(cutD s).1.toArray⟩ ⟨(cutD s).2.1.toArray⟩ (hpB s dolT) (cutD s).2.2 (isTagL (cutD s).1) m w hm (by omega) (fun w => cutp_any s dolT w)
    (fun w hw => Tryz.strings_Cut (dolR s) dolT m w (by have := dolR_le s; omega) hw)
    (fun w => isTag_any ⟨(cutD s).1.toArray⟩ w)
    (fun h1 h2 => by
      have a := dolR_size s h1
      have b := cut_len (dolR s).data.toList [36] h2
      rw [← Lib.size_eq] at b
      have b : (cutD s).1.length + 1 ≤ (dolR s).size := b
      rw [arr_size]; omega)
  rw [arr_size] at h
  exact h
theorem markA_le (s : ByteArray) : (markA s).size ≤ s.size := by
  unfold markA; split
  · rw [ByteArray.size_extract]; omega
  · exact Nat.zero_le _
def cutM (s : ByteArray) : Tx × Tx × Bool := Lib.cut (s.extract (markA s).size s.size).data.toList (markA s).data.toList
def dolS (s : ByteArray) : Value :=
  if (markA s).toList.isEmpty = true then pcV 0 ⟨#[]⟩ 0 else if (cutM s).2.2 = false then pcV 0 ⟨#[]⟩ (-1) else pcV 3 ⟨(cutM s).1.toArray⟩ (((markA s).size : Int) + (⟨(cutM s).1.toArray⟩ : ByteArray).size + (markA s).size)
theorem ext_le (s : ByteArray) (a : Nat) : (s.extract a s.size).size ≤ s.size := by rw [ByteArray.size_extract]; omega
theorem cutM_len (s : ByteArray) (h : (cutM s).2.2 = true) : (⟨(cutM s).1.toArray⟩ : ByteArray).size ≤ s.size := by
  have b := cut_len _ _ h
  rw [arr_size]
  have c : (s.extract (markA s).size s.size).data.toList.length ≤ s.size := by rw [← Lib.size_eq]; exact ext_le s _
  exact Nat.le_trans (Nat.le_trans (Nat.le_add_right _ _) b) c
theorem cutM_call (s : ByteArray) (m : Int) (hs : s.size < 4294967281) (w : World) (hw : Wd m w) : Calls Tryz.prog 121 #[.string (s.extract (markA s).size s.size), .string (markA s)] w fun e w' => e = .returned (.tuple #[.string ⟨(cutM s).1.toArray⟩, .string ⟨(cutM s).2.1.toArray⟩, .bool (cutM s).2.2]) ∧ ∃ n, w' = w.drewN n := by
  have hC : Lib.cut (s.extract (markA s).size s.size).data.toList (markA s).data.toList = cutM s := rfl
  generalize cutM s = C at *
  generalize markA s = M at *
  subst hC
  exact Tryz.strings_Cut (s.extract M.size s.size) M m w (Nat.lt_of_le_of_lt (ext_le s _) hs) hw
theorem dolS_eq (s M : ByteArray) (C : Tx × Tx × Bool) (hM : markA s = M) (hC : cutM s = C) : dolS s = if M.toList.isEmpty = true then pcV 0 ⟨#[]⟩ 0 else if C.2.2 = false then pcV 0 ⟨#[]⟩ (-1) else pcV 3 ⟨C.1.toArray⟩ ((M.size : Int) + (⟨C.1.toArray⟩ : ByteArray).size + M.size) := by
  subst hM hC
  rfl
theorem dol_any (s : ByteArray) (m : Int) (w : World) (hs : s.size < 4294967281) (hm : Wd m w) :
    Calls Tryz.prog 94 #[.string s] w fun e w' => e = .returned (dolS s) ∧ Below w.heap.size w w' := by
  have hs2 : s.size ≤ 4294967296 := by omega
  have hmk := fun w hw => mark_any s m w hs hw
  have hk := fun w hw => cutM_call s m hs w hw
  have hl := cutM_len s
  have hml := markA_le s
  rw [dolS_eq s _ _ rfl rfl]
  exact dol_core s (markA s) ⟨(cutM s).1.toArray⟩ ⟨(cutM s).2.1.toArray⟩ (cutM s).2.2 m w hm hs2 hml hl hmk hk
end Go.Proofs.YtjloookjlnmgdaaGreatDoor
namespace Go.Proofs.YtjloookjlnmgdaaGreatDoor
open Go.ChangeShapes Go.WideShapes Go.ChangeAt Go.RowKit
set_option maxRecDepth 100000
set_option linter.unusedVariables false
set_option linter.unusedSimpArgs false

abbrev Pc : Type := Int × ByteArray × Int
def pc0 : Pc := (0, ⟨#[]⟩, 0)
def pcW (p : Pc) : Value := pcV p.1 p.2.1 p.2.2
def lineP (s : ByteArray) : Pc := (0, ⟨#[]⟩, if hpB s dashT = true then ((lineA s).size : Int) else 0)
def remP (s : ByteArray) : Pc := if hpB s opnT = true then (0, ⟨#[]⟩, remI ((remL 1 (s.data.toList.drop 2)).map (· + 2))) else pc0
def wordP (s : ByteArray) : Pc := if rowL letB s.data.toList = 0 then pc0 else (1, smallA (s.extract 0 (rowL wordB s.data.toList)), (rowL wordB s.data.toList : Nat))
def betP (k : Int) (o : Option (Tx × Nat)) : Pc := match o with
  | some p => (k, ⟨p.1.toArray⟩, (p.2 : Int))
  | none => (0, ⟨#[]⟩, -1)
def quoP (q : UInt8) (k : Int) (s : ByteArray) : Pc := match s.data.toList with
  | [] => pc0
  | c :: r => if c = q then betP k ((betL q r).map (fun p => (p.1, p.2 + 1))) else pc0
def dolP (s : ByteArray) : Pc := if (markA s).toList.isEmpty = true then pc0 else if (cutM s).2.2 = false then (0, ⟨#[]⟩, -1) else (3, ⟨(cutM s).1.toArray⟩, ((markA s).size : Int) + (⟨(cutM s).1.toArray⟩ : ByteArray).size + (markA s).size)
def numP (s : ByteArray) : Pc := if rowL digB s.data.toList = 0 then pc0 else (4, s.extract 0 (rowL numB s.data.toList), (rowL numB s.data.toList : Nat))
def parP (s : ByteArray) : Pc := if hpB s dolT = false ∨ parN s = 0 then pc0 else (5, s.extract 0 (parN s + 1), ((parN s + 1 : Nat) : Int))
def signP (s : ByteArray) : Pc := match s.data.toList with
  | [] => pc0
  | c :: _ => if signI c < 0 then pc0 else (5, s.extract 0 1, 1)
/-- what the reader of each place answers -/
def rdP (i : Nat) (s : ByteArray) : Pc := match i with
  | 0 => (0, ⟨#[]⟩, (rowL fiveQ s.data.toList : Nat))
  | 1 => lineP s
  | 2 => remP s
  | 3 => wordP s
  | 4 => quoP 34 2 s
  | 5 => quoP 39 3 s
  | 6 => dolP s
  | 7 => numP s
  | 8 => parP s
  | _ => signP s
def rdF (i : Nat) : FuncId := match i with
  | 0 => 88 | 1 => 89 | 2 => 90 | 3 => 91 | 4 => 92 | 5 => 93 | 6 => 94 | 7 => 95 | 8 => 96 | _ => 97
theorem rd_call (i : Nat) (hi : i < 10) (s : ByteArray) (h : 0 < s.size) (hs : s.size < 4294967281) (m : Int) (w : World) (hm : Wd m w) :
    Calls Tryz.prog (rdF i) #[.string s] w fun e w' => e = .returned (pcW (rdP i s)) ∧ Below w.heap.size w w' := by
  have hs2 : s.size ≤ 281474976710656 := Nat.le_trans (Nat.le_of_lt hs) (by decide)
  have hs3 : s.size ≤ 4294967296 := Nat.le_trans (Nat.le_of_lt hs) (by decide)
  match i, hi with
  | 0, _ => exact gap_any s w
  | 1, _ => exact line_any s m w hs hm
  | 2, _ =>
    show Calls Tryz.prog 90 #[.string s] w fun e w' => e = .returned (pcW (remP s)) ∧ Below w.heap.size w w'
    unfold remP
    cases hb : hpB s opnT with
    | true => rw [if_pos rfl]; exact remark_yes s w hs2 hb _ rfl
    | false => rw [if_neg (by simp)]; exact remark_no s w hb
  | 3, _ =>
    show Calls Tryz.prog 91 #[.string s] w fun e w' => e = .returned (pcW (wordP s)) ∧ Below w.heap.size w w'
    unfold wordP
    by_cases hb : rowL letB s.data.toList = 0
    · rw [if_pos hb]; exact word_no s w hb
    · rw [if_neg hb]; exact word_yes s w hs2 hb
  | 4, _ =>
    have e : pcW (rdP 4 s) = quoS 34 2 s := by
      show pcW (quoP 34 2 s) = _
      unfold quoP quoS
      cases s.data.toList with
      | nil => rfl
      | cons c r =>
        simp only
        split
        · cases betL 34 r <;> rfl
        · rfl
    rw [e]; exact quoted_any s w hs3 h
  | 5, _ =>
    have e : pcW (rdP 5 s) = quoS 39 3 s := by
      show pcW (quoP 39 3 s) = _
      unfold quoP quoS
      cases s.data.toList with
      | nil => rfl
      | cons c r =>
        simp only
        split
        · cases betL 39 r <;> rfl
        · rfl
    rw [e]; exact str_any s w hs3 h
  | 6, _ =>
    have e : pcW (rdP 6 s) = dolS s := by
      show pcW (dolP s) = _
      unfold dolP dolS
      split
      · rfl
      · split <;> rfl
    rw [e]; exact dol_any s m w hs hm
  | 7, _ =>
    show Calls Tryz.prog 95 #[.string s] w fun e w' => e = .returned (pcW (numP s)) ∧ Below w.heap.size w w'
    unfold numP
    by_cases hb : rowL digB s.data.toList = 0
    · rw [if_pos hb]; exact num_no s w hb
    · rw [if_neg hb]; exact num_yes s w hs2 hb
  | 8, _ =>
    have p := param_any s w hs2
    have e : pcW (rdP 8 s) = if hpB s dolT = false ∨ parN s = 0 then pcV 0 ⟨#[]⟩ 0 else pcV 5 (s.extract 0 (parN s + 1)) ((parN s + 1 : Nat) : Int) := by
      show pcW (parP s) = _
      unfold parP
      split <;> rfl
    rw [e]; exact p
  | 9, _ =>
    have p := sign_any s h w
    have hd := List.drop_eq_getElem_cons (show 0 < s.data.toList.length by rw [← Lib.size_eq]; exact h)
    rw [List.drop_zero] at hd
    have hda : s.data.toList[0]'(by rw [← Lib.size_eq]; exact h) = s[0]'h := rfl
    rw [hda] at hd
    have e : pcW (rdP 9 s) = if signI (s[0]'h) < 0 then pcV 0 ⟨#[]⟩ 0 else pcV 5 (s.extract 0 1) 1 := by
      show pcW (signP s) = _
      unfold signP
      rw [hd]
      simp only
      split <;> rfl
    rw [e]; exact p
theorem rd_enter (i : Nat) (hi : i < 10) (args : Array Value) (w : World) : Sem.run Tryz.prog (callFunc (rdF i) args) w = .ok (.enter (rdF i) args) w := by
  match i, hi with
  | 0, _ => show Sem.run Tryz.prog (callFunc 88 args) w = _; go_simp; rfl
  | 1, _ => show Sem.run Tryz.prog (callFunc 89 args) w = _; go_simp; rfl
  | 2, _ => show Sem.run Tryz.prog (callFunc 90 args) w = _; go_simp; rfl
  | 3, _ => show Sem.run Tryz.prog (callFunc 91 args) w = _; go_simp; rfl
  | 4, _ => show Sem.run Tryz.prog (callFunc 92 args) w = _; go_simp; rfl
  | 5, _ => show Sem.run Tryz.prog (callFunc 93 args) w = _; go_simp; rfl
  | 6, _ => show Sem.run Tryz.prog (callFunc 94 args) w = _; go_simp; rfl
  | 7, _ => show Sem.run Tryz.prog (callFunc 95 args) w = _; go_simp; rfl
  | 8, _ => show Sem.run Tryz.prog (callFunc 96 args) w = _; go_simp; rfl
  | 9, _ => show Sem.run Tryz.prog (callFunc 97 args) w = _; go_simp; rfl
def rdRow : Array Value := ((List.range 10).map (fun i => Value.func (.func (rdF i)) #[] #[])).toArray
theorem readers_any (w : World) : Calls Tryz.prog 59 #[] w fun e w' => e = .returned (.slice (some ⟨w.heap.size, 0, none⟩) 10 10) ∧ w' = w.alloc (.cells rdRow 90) := by
  go_enter Tryz.func59, Tryz.ntmps59
  go_wp2
  go_ret
  exact ⟨rfl, rfl⟩
end Go.Proofs.YtjloookjlnmgdaaGreatDoor
namespace Go.Proofs.YtjloookjlnmgdaaGreatDoor
open Go.ChangeShapes Go.WideShapes Go.ChangeAt Go.RowKit
set_option maxRecDepth 100000
set_option linter.unusedVariables false
set_option linter.unusedSimpArgs false

def Sized (z : Int) (n : Nat) : Prop := z = 0 ∨ z = -1 ∨ (1 ≤ z ∧ z ≤ (n : Int))
theorem sized_nat (k n : Nat) (h : k ≤ n) : Sized (k : Int) n := by unfold Sized; omega
theorem sized_row (p : UInt8 → Bool) (s : ByteArray) : Sized (rowL p s.data.toList : Nat) s.size := sized_nat _ _ (by rw [Lib.size_eq]; exact rowL_le p _)
theorem cut_le (s sep : Tx) : (Lib.cut s sep).1.length ≤ s.length := by
  unfold Lib.cut
  split
  · simp; omega
  · exact Nat.le_refl _
theorem remL_le (d : Nat) (l : Tx) : ∀ n, remL d l = some n → n ≤ l.length := by
  fun_induction remL d l with
  | case1 l => intro n h; simp at h; omega
  | case2 d => intro n h; simp at h
  | case3 d c r hc ih =>
    intro n h
    rw [Option.map_eq_some_iff] at h
    obtain ⟨k, hk, rfl⟩ := h
    have := ih k hk
    have h2 := congrArg List.length hc
    rw [List.length_drop] at this
    simp at h2 ⊢
    omega
  | case4 d c r h1 hc ih =>
    intro n h
    rw [Option.map_eq_some_iff] at h
    obtain ⟨k, hk, rfl⟩ := h
    have := ih k hk
    have h2 := congrArg List.length hc
    rw [List.length_drop] at this
    simp at h2 ⊢
    omega
  | case5 d c r h1 h2 ih =>
    intro n h
    rw [Option.map_eq_some_iff] at h
    obtain ⟨k, hk, rfl⟩ := h
    have := ih k hk
    simp; omega
theorem betL_le (q : UInt8) (l : Tx) : ∀ p, betL q l = some p → p.2 ≤ l.length := by
  intro p
  induction hn : l.length using Nat.strongRecOn generalizing l p with
  | _ n ih =>
    intro h
    cases l with
    | nil => cases h
    | cons c r =>
      rw [betL_cons] at h
      split at h
      · cases r with
        | nil => simp at h; subst h; simp at hn ⊢; omega
        | cons d r2 =>
          simp only at h
          split at h
          · rw [Option.map_eq_some_iff] at h
            obtain ⟨k, hk, rfl⟩ := h
            have := ih r2.length (by simp at hn; omega) r2 k rfl hk
            simp at hn ⊢; omega
          · simp at h; subst h; simp at hn ⊢; omega
      · rw [Option.map_eq_some_iff] at h
        obtain ⟨k, hk, rfl⟩ := h
        have := ih r.length (by simp at hn; omega) r k rfl hk
        simp at hn ⊢; omega
theorem sized_quo (q : UInt8) (k : Int) (s : ByteArray) : Sized (quoP q k s).2.2 s.size := by
  rw [Lib.size_eq]
  unfold quoP
  cases s.data.toList with
  | nil => exact .inl rfl
  | cons c r =>
    simp only
    split
    · cases hb : betL q r with
      | none => exact .inr (.inl rfl)
      | some p =>
        have := betL_le q r p hb
        refine sized_nat (p.2 + 1) _ ?_
        rw [List.length_cons]; omega
    · exact .inl rfl
theorem cut_dol (s M : ByteArray) (C : Tx × Tx × Bool) (hC : Lib.cut (s.extract M.size s.size).data.toList M.data.toList = C) (hb : C.2.2 = true) : C.1.length + M.size ≤ s.size - M.size := by
  have c : (s.extract M.size s.size).data.toList.length = s.size - M.size := by rw [ext_list, List.length_drop, ← Lib.size_eq]
  have b := cut_len (s.extract M.size s.size).data.toList M.data.toList (by rw [hC]; exact hb)
  rw [c, hC, ← Lib.size_eq] at b
  exact b
theorem sized_dol (s : ByteArray) : Sized (dolP s).2.2 s.size := by
  unfold dolP
  split
  · exact .inl rfl
  · split
    · exact .inr (.inl rfl)
    · rename_i h1 h2
      have hb : (cutM s).2.2 = true := by simpa using h2
      have e := cut_dol s (markA s) (cutM s) rfl hb
      have hm := markA_le s
      refine sized_nat ((markA s).size + (⟨(cutM s).1.toArray⟩ : ByteArray).size + (markA s).size) _ ?_
      rw [arr_size (cutM s).1]
      generalize (cutM s).1.length = x at *
      generalize (markA s).size = y at *
      omega
theorem rd_sized (i : Nat) (s : ByteArray) (h : 0 < s.size) : Sized (rdP i s).2.2 s.size := by
  match i with
  | 0 => exact sized_row _ s
  | 1 =>
    show Sized (lineP s).2.2 s.size
    unfold lineP
    simp only
    split
    · refine sized_nat _ _ ?_
      unfold lineA
      rw [arr_size, Lib.size_eq]
      exact cut_le _ _
    · exact .inl rfl
  | 2 =>
    show Sized (remP s).2.2 s.size
    unfold remP
    split
    · rename_i hb
      have h2 : 2 ≤ s.size := by unfold hpB at hb; simp at hb; exact hb.1
      simp only
      cases hr : remL 1 (s.data.toList.drop 2) with
      | none => exact .inr (.inl rfl)
      | some n =>
        have := remL_le _ _ n hr
        rw [List.length_drop, ← Lib.size_eq] at this
        exact sized_nat (n + 2) _ (by omega)
    · exact .inl rfl
  | 3 =>
    show Sized (wordP s).2.2 s.size
    unfold wordP
    split
    · exact .inl rfl
    · exact sized_row _ s
  | 4 => exact sized_quo _ _ s
  | 5 => exact sized_quo _ _ s
  | 6 => exact sized_dol s
  | 7 =>
    show Sized (numP s).2.2 s.size
    unfold numP
    split
    · exact .inl rfl
    · exact sized_row _ s
  | 8 =>
    show Sized (parP s).2.2 s.size
    unfold parP
    split
    · exact .inl rfl
    · rename_i hb
      have h1 : hpB s dolT = true := by
        cases hc : hpB s dolT with
        | true => rfl
        | false => exact absurd (.inl hc) hb
      have a := dolR_size s h1
      have b : parN s ≤ (dolR s).size := by rw [Lib.size_eq]; exact rowL_le _ _
      refine sized_nat (parN s + 1) _ ?_
      generalize parN s = x at *
      generalize (dolR s).size = y at *
      omega
  | n + 9 =>
    show Sized (signP s).2.2 s.size
    unfold signP
    split
    · exact .inl rfl
    · split
      · exact .inl rfl
      · exact sized_nat 1 _ h
end Go.Proofs.YtjloookjlnmgdaaGreatDoor
namespace Go.Proofs.YtjloookjlnmgdaaGreatDoor
open Go.ChangeShapes Go.WideShapes Go.ChangeAt Go.RowKit
set_option maxRecDepth 100000
set_option linter.unusedVariables false
set_option linter.unusedSimpArgs false

abbrev Tok : Type := Int × ByteArray × Int
def tokCells (t : Tok) : List Value := [.int .i64 t.1, .string t.2.1, .int .i64 t.2.2]
def tokRow (l : List Tok) : List Value := l.flatMap tokCells
/-- the first of the last k readers that finds something -/
def findR : Nat → ByteArray → Option Pc
  | 0, _ => none
  | k + 1, s => if (rdP (9 - k) s).2.2 = 0 then findR k s else some (rdP (9 - k) s)
theorem findR_at (i : Nat) (hi : i < 10) (s : ByteArray) : findR (10 - i) s = if (rdP i s).2.2 = 0 then findR (10 - (i + 1)) s else some (rdP i s) := by
  have e1 : 10 - i = (9 - i) + 1 := by omega
  have e2 : 9 - (9 - i) = i := by omega
  have e3 : 10 - (i + 1) = 9 - i := by omega
  rw [e1, findR, e2, e3]
/-- what Scan answers from a place on: tokens, errno, where -/
def scanN : Nat → ByteArray → Nat → List Tok → List Tok × Int × Int
  | 0, _, _, acc => (acc, 0, 0)
  | f + 1, s, a, acc =>
    if s.size ≤ a then (acc, 0, 0) else match findR 10 (s.extract a s.size) with
    | none => ([], 7, (a : Int))
    | some p => if p.2.2 = -1 then ([], 6, (a : Int)) else scanN f s (a + p.2.2.toNat) (if p.1 = 0 then acc else acc ++ [(p.1, p.2.1, (a : Int))])
structure ScI (m : Int) (w : World) (l : List Tok) (v : Value) (wr : World) : Prop where
  bel : Below w.heap.size w wr
  wd : Wd m wr
  lt : w.heap.size < wr.heap.size
  rdr : wr.heap[w.heap.size]? = some (.cells rdRow 90 (0, 0))
  row : wr.ownsRow (w.heap.size + 1) 27 3 v l.length (tokRow l)
  glt : 1 < w.heap.size
theorem ownsRow_below {B : Nat} {e : TypeId} {z n : Nat} {v : Value} {xs : List Value} {w w2 : World} (h : w.ownsRow B e z v n xs) (b : Below w.heap.size w w2) : w2.ownsRow B e z v n xs := by
  refine ⟨h.1, ?_⟩
  rcases h.2 with h1 | ⟨g, cap, cur, h1, h2, h3, h4⟩
  · exact .inl h1
  · refine .inr ⟨g, cap, cur, h1, h2, ?_, h4⟩
    rw [b.block g (Array.getElem?_eq_some_iff.1 h3).1]
    exact h3
theorem ScI.start {m : Int} {w : World} (h : Wd m w) : ScI m w [] (.slice none 0 0) (w.alloc (.cells rdRow 90)) := by
  have b : Below w.heap.size w (w.alloc (.cells rdRow 90)) := (Below.refl _ _).alloc (Nat.le_refl _) _
  exact ⟨b, h.below b, by simp, by show (w.heap.push _)[w.heap.size]? = _; simp, World.ownsRow_nil _ _ _ _, h.lt⟩
theorem ScI.step {m : Int} {w wr w2 : World} {l : List Tok} {v : Value} (h : ScI m w l v wr) (b : Below wr.heap.size wr w2) : ScI m w l v w2 :=
  ⟨h.bel.trans (b.mono (Nat.le_of_lt h.lt)), h.wd.below b, Nat.lt_of_lt_of_le h.lt b.size, by rw [b.block _ h.lt]; exact h.rdr, ownsRow_below h.row b, h.glt⟩
theorem ScI.more {m : Int} {w wr w2 : World} {l : List Tok} {v v2 : Value} (h : ScI m w l v wr) (t : Tok) (g : wr.grownBy w2 v.ownBlock)
    (r : w2.ownsRow (w.heap.size + 1) 27 3 v2 (l.length + 1) (tokRow l ++ tokCells t)) : ScI m w (l ++ [t]) v2 w2 := by
  have b : Below (w.heap.size + 1) wr w2 := (Below.refl _ _).grown g (by have := h.lt; omega) (fun k hk => (World.ownsRow.lt h.row k hk).1)
  have hw : 1 < w.heap.size + 1 := Nat.lt_succ_of_lt h.glt
  refine ⟨h.bel.trans (b.mono (Nat.le_succ _)), ?_, Nat.lt_of_lt_of_le h.lt b.size, ?_, ?_, h.glt⟩
  · unfold Wd
    rw [b.cell (p := ⟨1, 0, none⟩) hw]
    exact h.wd
  · rw [b.block _ (Nat.lt_succ_self _)]; exact h.rdr
  · rw [List.length_append, show tokRow (l ++ [t]) = tokRow l ++ tokCells t by simp [tokRow]]
    exact r
/-- what the readers' list holds -/
theorem ScI.reader {m : Int} {w wr : World} {l : List Tok} {v : Value} (h : ScI m w l v wr) (i : Nat) (hi : i < 10) : wr.cell? ⟨w.heap.size, i, none⟩ = some (.func (.func (rdF i)) #[] #[]) := by
  have e : rdRow[i]? = some (.func (.func (rdF i)) #[] #[]) := by simp [rdRow, hi]
  unfold World.cell?
  rw [h.rdr]
  simpa using e
end Go.Proofs.YtjloookjlnmgdaaGreatDoor
namespace Go.Proofs.YtjloookjlnmgdaaGreatDoor
open Go.ChangeShapes Go.WideShapes Go.ChangeAt Go.RowKit
set_option maxRecDepth 100000
set_option linter.unusedVariables false
set_option linter.unusedSimpArgs false

/-- v is a slice of tokens that reads as l -/
def TR (w : World) (v : Value) (l : List Tok) : Prop :=
  (∃ A cap, v = .slice A 0 cap ∧ l = []) ∨
  ∃ h off cap, v = .slice (some ⟨h, off, none⟩) l.length cap ∧ l.length ≤ cap ∧ ∀ (i : Nat) (t : Tok), l[i]? = some t →
    w.cell? ⟨h, off + i * 3, none⟩ = some (.int .i64 t.1) ∧ w.cell? ⟨h, off + i * 3 + 1, none⟩ = some (.string t.2.1) ∧ w.cell? ⟨h, off + i * 3 + 2, none⟩ = some (.int .i64 t.2.2)
theorem tokRow_get (l : List Tok) : ∀ (i : Nat) (t : Tok), l[i]? = some t → (tokRow l)[i * 3]? = some (.int .i64 t.1) ∧ (tokRow l)[i * 3 + 1]? = some (.string t.2.1) ∧ (tokRow l)[i * 3 + 2]? = some (.int .i64 t.2.2) := by
  induction l with
  | nil => intro i t h; simp at h
  | cons x r ih =>
    intro i t h
    cases i with
    | zero => simp at h; subst h; exact ⟨rfl, rfl, rfl⟩
    | succ i =>
      have h' : r[i]? = some t := by simpa using h
      obtain ⟨a, b, c⟩ := ih i t h'
      have e : tokRow (x :: r) = Value.int .i64 x.1 :: Value.string x.2.1 :: Value.int .i64 x.2.2 :: tokRow r := rfl
      rw [e, show (i + 1) * 3 = i * 3 + 1 + 1 + 1 by omega]
      exact ⟨by simpa using a, by simpa using b, by simpa using c⟩
theorem TR.own {w : World} {B : Nat} {v : Value} {l : List Tok} (h : w.ownsRow B 27 3 v l.length (tokRow l)) : TR w v l := by
  rcases h.2 with ⟨rfl, hz⟩ | ⟨g, cap, cur, rfl, hb, hh, hc, hm, hs, ht⟩
  · exact .inl ⟨none, 0, rfl, List.eq_nil_of_length_eq_zero hz⟩
  · refine .inr ⟨g, 0, cap, rfl, hc, fun i t hi => ?_⟩
    obtain ⟨a, b, c⟩ := tokRow_get l i t hi
    have hcell := h.cells (g := g) rfl
    have e1 := hcell _ _ a
    have e2 := hcell _ _ b
    have e3 := hcell _ _ c
    rw [Addr.add_lit, Nat.zero_add] at e1 e2 e3
    rw [Nat.zero_add]
    exact ⟨e1, e2, e3⟩
theorem TR.keep {w w' : World} {v : Value} {l : List Tok} (h : TR w v l) (hk : ∀ p : Addr, (w.cell? p).isSome = true → w'.cell? p = w.cell? p) : TR w' v l := by
  rcases h with h | ⟨h, off, cap, e, hc, hm⟩
  · exact .inl h
  · refine .inr ⟨h, off, cap, e, hc, fun i t hi => ?_⟩
    obtain ⟨a, b, c⟩ := hm i t hi
    exact ⟨(hk _ (by rw [a]; rfl)).trans a, (hk _ (by rw [b]; rfl)).trans b, (hk _ (by rw [c]; rfl)).trans c⟩
theorem TR.below {w w' : World} {v : Value} {l : List Tok} (h : TR w v l) (hb : Below w.heap.size w w') : TR w' v l :=
  h.keep fun p hp => by
    obtain ⟨u, hu⟩ := Option.isSome_iff_exists.1 hp
    exact hb.cell (World.block_lt_of_cell? w p hu)
theorem TR.drewN {w : World} {v : Value} {l : List Tok} (h : TR w v l) (n : Nat) : TR (w.drewN n) v l := h.keep fun p _ => by cases p; simp [go_sem]
theorem TR.form {w : World} {v : Value} {l : List Tok} (h : TR w v l) : ∃ a cap, v = .slice a l.length cap := by
  rcases h with ⟨A, cap, rfl, rfl⟩ | ⟨_, _, _, rfl, _⟩
  · exact ⟨_, _, rfl⟩
  · exact ⟨_, _, rfl⟩
/-- two lists alike: with places, or without -/
def Alike (pl : Bool) (a b : List Tok) : Prop := a.length = b.length ∧ ∀ (i : Nat) (x y : Tok), a[i]? = some x → b[i]? = some y → x.1 = y.1 ∧ x.2.1 = y.2.1 ∧ (pl = true → x.2.2 = y.2.2)
theorem Alike.refl (pl : Bool) (a : List Tok) : Alike pl a a := ⟨rfl, fun i x y h1 h2 => by rw [h1] at h2; cases h2; exact ⟨rfl, rfl, fun _ => rfl⟩⟩

end Go.Proofs.YtjloookjlnmgdaaGreatDoor
namespace Go.Proofs.YtjloookjlnmgdaaGreatDoor
open Go.ChangeShapes Go.WideShapes Go.ChangeAt Go.RowKit
set_option maxRecDepth 100000
set_option linter.unusedVariables false
set_option linter.unusedSimpArgs false

abbrev IsB (B b : Nat) (l : Tx) (w : World) : Prop := Lib.IsBuilder 294 5 B b (Lib.byteCells l) w
abbrev AtB (B b : Nat) (l : Tx) (w : World) : Prop := Lib.BuilderAt 294 5 B b (.pointer (some ⟨b, 0, none⟩)) (Lib.byteCells l) w
theorem b_info : (Tryz.prog.info? 294).map (·.size) = some 2 := by kernel_rfl
theorem b_lies : liesAt Tryz.prog Tryz.prog.depth 294 (2 / Tryz.prog.cellsOf 294) 0 294 1 = true := by kernel_rfl
theorem by_info : (Tryz.prog.info? 5).map (fun i => (i.zero, i.size, i.bytes)) = some (some (.int .u8 0), 1, 1) := by kernel_rfl
set_option maxHeartbeats 1000000 in
theorem check_used (b : Nat) (w : World) (h0 : w.cell? ⟨b, 0, none⟩ = some (.pointer (some ⟨b, 0, none⟩))) :
    Calls Tryz.prog 273 #[.pointer (some ⟨b, 0, none⟩)] w fun e w' => e = .returned (.tuple #[]) ∧ w' = w := by
  obtain ⟨j, hj, _⟩ := Option.map_eq_some_iff.1 b_info
  go_enter Tryz.func273, Tryz.ntmps273
  go_wp2
  rw [Lib.run_neq_ptr_same w _ Tryz.underlying292 hj]
  go_wp2
  go_end0
  exact ⟨rfl, rfl⟩
set_option maxHeartbeats 1000000 in
theorem check_fresh (b : Nat) (w : World) (h0 : w.cell? ⟨b, 0, none⟩ = some (.pointer none)) (hsh : w.shape? b = some (294, 2)) (hfz : w.frozen? ⟨b, 0, none⟩ = false) :
    Calls Tryz.prog 273 #[.pointer (some ⟨b, 0, none⟩)] w fun e w' => e = .returned (.tuple #[]) ∧ w' = w.setCell ⟨b, 0, none⟩ (.pointer (some ⟨b, 0, none⟩)) := by
  obtain ⟨j, hj, hjs⟩ := Option.map_eq_some_iff.1 b_info
  go_enter Tryz.func273, Tryz.ntmps273
  go_wp2
  rw [Lib.run_to_unsafe w ⟨b, 0, none⟩ Tryz.underlying292 Tryz.underlying240 hj (by rw [hjs]; decide) hsh (Nat.zero_lt_succ 1)]
  simp only [Result.andThen]
  rw [Oper.upon_value]
  go_wp2
  rw [run_callFunc_extern Tryz.func275 (by kernel_rfl) (by kernel_rfl) (by kernel_rfl) (e := Extern.AbiNoEscape.same) (by kernel_rfl)]
  rw [Lib.run_noEscape]
  simp only [Result.andThen]
  rw [Oper.upon_value]
  go_wp2
  rw [Lib.run_from_unsafe w ⟨b, 0, none⟩ Tryz.underlying240 Tryz.underlying292 hj hsh b_lies]
  simp only [Result.andThen]
  rw [Oper.upon_value]
  go_wp2
  go_end0
  exact ⟨rfl, rfl⟩
theorem check_any (B b : Nat) (l : Tx) (w : World) (h : IsB B b l w) :
    Calls Tryz.prog 273 #[.pointer (some ⟨b, 0, none⟩)] w fun e w' => e = .returned (.tuple #[]) ∧ (AtB B b l w' ∧ Below B w w' ∧ Lib.OthersKept 5 (some b) w w') := by
  rcases h with h | h
  · refine (check_fresh b w h.cell0 h.shape h.frozen0).mono ?_
    rintro e w' ⟨rfl, rfl⟩
    exact ⟨rfl, h.used _, (Below.refl B w).setCell (p := ⟨b, 0, none⟩) h.1 _, (Lib.OthersKept.refl _ _ w).setCell ⟨b, 0, none⟩ rfl _⟩
  · refine (check_used b w h.cell0).mono ?_
    rintro e w' ⟨rfl, rfl⟩
    exact ⟨rfl, h, Below.refl B _, Lib.OthersKept.refl _ _ _⟩
set_option maxHeartbeats 2000000 in
set_option maxRecDepth 100000 in
theorem wstr_any (B b : Nat) (l : Tx) (s : ByteArray) (w : World) (h : IsB B b l w) (hlen : l.length + s.size ≤ 140737488355328) (hBw : B ≤ w.heap.size) :
    Calls Tryz.prog 271 #[.pointer (some ⟨b, 0, none⟩), .string s] w fun e w' => e = .returned (.tuple #[.int .i64 s.size, .nilIface]) ∧ (AtB B b (l ++ s.data.toList) w' ∧ Below B w w' ∧ Lib.OthersKept 5 (some b) w w') := by
  obtain ⟨i0, hi, hz0, hz1, hz2⟩ := info_parts by_info
  have HLN := Lib.hid hlen
  clear hlen
  go_enter Tryz.func271, Tryz.ntmps271
  go_wp2_with (go_at_call 273; (with_reducible refine (check_any B b l _ h).mono ?_))
  rintro e w1 ⟨rfl, h1, hb1, hk1⟩
  obtain ⟨hB, v, hbk, hown, hne⟩ := h1
  have c0 : w1.cell? ⟨b, 0, none⟩ = some (.pointer (some ⟨b, 0, none⟩)) := by rw [Lib.cell_of_heap hbk]; rfl
  have c1 : w1.cell? ⟨b, 1, none⟩ = some v := by rw [Lib.cell_of_heap hbk]; rfl
  have hlt : b < w1.heap.size := by
    rcases Nat.lt_or_ge b w1.heap.size with h' | h'
    · exact h'
    · simp [Array.getElem?_eq_none h'] at hbk
  go_wp2_with (at_builtin; refine Lib.wpList_append_own_string _ rfl _ _ 95 9 rfl B 5 i0 Tryz.underlying95 Tryz.underlying9 hi hz0 hz1 hz2 _ _ _ rfl hown s rfl ?c3 ?c4 ?c5 ?_)
  case c3 => have := HLN.out; rw [Lib.byteCells_length]; unfold maxLen; omega
  case c4 => have := HLN.out; have hbl := Lib.byteCells_length l; omega
  case c5 => have := hb1.size; omega
  intro v' w2 hown' hgrow _
  have hb2 : w2.heap[b]? = some (.cells #[.pointer (some ⟨b, 0, none⟩), v] 294 (0, 0)) := by
    rw [hgrow.block b hlt (fun e => hne e.symm)]; exact hbk
  have d0 : w2.cell? ⟨b, 0, none⟩ = some (.pointer (some ⟨b, 0, none⟩)) := by rw [Lib.cell_of_heap hb2]; rfl
  have d1 : w2.cell? ⟨b, 1, none⟩ = some v := by rw [Lib.cell_of_heap hb2]; rfl
  have f1 : w2.frozen? ⟨b, 1, none⟩ = false := Lib.frozen_of_heap hb2 1
  obtain ⟨ao, n', cap, rfl⟩ : ∃ ao n' cap, v' = .slice ao n' cap := by
    rcases hown'.2 with ⟨hv, _⟩ | ⟨g, cap, cur, hv, _⟩
    · exact ⟨_, _, _, hv⟩
    · exact ⟨_, _, _, hv⟩
  go_wp2
  go_ret2
  have e2 : Lib.byteCells (l ++ s.data.toList) = Lib.byteCells l ++ Lib.strCells s := by simp [Lib.byteCells, Lib.strCells]
  refine ⟨rfl, ?_, ?_, (hk1.grown hgrow (Lib.ownsRowF_kind (World.ownsRowF_of hown))).setCell ⟨b, 1, none⟩ rfl _⟩
  · exact Lib.BuilderAt.put (T := 294) (e := 5) hB hb2 (bs' := Lib.byteCells (l ++ s.data.toList)) (by rw [e2]; simpa [Lib.strCells_length] using hown') (by decide)
  · exact (hb1.grown hgrow (by have := hb1.size; omega) (fun k hk => (hown.lt k hk).1)).setCell (p := ⟨b, 1, none⟩) hB _
end Go.Proofs.YtjloookjlnmgdaaGreatDoor
namespace Go.Proofs.YtjloookjlnmgdaaGreatDoor
open Go.ChangeShapes Go.WideShapes Go.ChangeAt Go.RowKit
set_option maxRecDepth 100000
set_option linter.unusedVariables false
set_option linter.unusedSimpArgs false

/-- each q doubled -/
def dblL (q : UInt8) (l : Tx) : Tx := l.flatMap fun c => if c = q then [q, q] else [c]
theorem dbl_size (q : UInt8) (l : Tx) : (dblL q l).length ≤ 2 * l.length := by
  induction l with
  | nil => simp [dblL]
  | cons c r ih =>
    have e : dblL q (c :: r) = (if c = q then [q, q] else [c]) ++ dblL q r := by simp [dblL]
    rw [e, List.length_append, List.length_cons]
    have : (if c = q then [q, q] else [c]).length ≤ 2 := by split <;> simp
    omega
theorem rep_dbl (q : UInt8) : ∀ (l : Tx) (k : Nat), k = l.count q → Lib.replaceK [q] [q, q] k l = dblL q l := by
  intro l
  induction l with
  | nil => intro k hk; simp at hk; subst hk; rfl
  | cons c r ih =>
    intro k hk
    have e : dblL q (c :: r) = (if c = q then [q, q] else [c]) ++ dblL q r := by simp [dblL]
    rw [e]
    by_cases hc : c = q
    · subst hc
      rw [if_pos rfl]
      rw [List.count_cons_self] at hk
      subst hk
      rw [Lib.replaceK_hit [c] [c, c] _ (c :: r) 0 (by unfold Lib.index; simp)]
      have := ih _ rfl
      simpa using this
    · rw [if_neg hc]
      have hb : (c == q) = false := by rw [beq_eq_false_iff_ne]; exact hc
      have hqc : (q == c) = false := by rw [beq_eq_false_iff_ne]; exact fun h => hc h.symm
      rw [List.count_cons, hb] at hk
      simp only [Bool.false_eq_true, if_false, Nat.add_zero] at hk
      have ih' := ih k hk
      cases k with
      | zero => simp only [Lib.replaceK] at ih' ⊢; rw [← ih']; rfl
      | succ k =>
        obtain ⟨i, hi⟩ : ∃ i : Nat, Lib.index r [q] = i := Lib.index_of_count (by rw [Lib.count_one, ← hk]; omega)
        rw [Lib.replaceK_hit _ _ _ _ i hi] at ih'
        have hi2 : Lib.index (c :: r) [q] = ((i + 1 : Nat) : Int) := by
          unfold Lib.index
          rw [hi]
          simp [List.isPrefixOf, hqc]
          try omega
        rw [Lib.replaceK_hit _ _ _ _ (i + 1) hi2, ← ih']
        simp
theorem all_dbl (q : UInt8) (l : Tx) : Lib.replaceAll l [q] [q, q] = dblL q l := by
  unfold Lib.replaceAll Lib.replace
  rw [if_neg (by simp)]
  exact rep_dbl q l _ (by unfold Lib.replaceNum; rw [if_pos (by omega), Lib.count_one])
/-- a text in quotes -/
def quoL (q : UInt8) (l : Tx) : Tx := [q] ++ dblL q l ++ [q]
/-- a token as text -/
def shownL (t : Tok) : Tx := if t.1 = 2 then quoL 34 t.2.1.data.toList else if t.1 = 3 then quoL 39 t.2.1.data.toList else t.2.1.data.toList
theorem quo_size (q : UInt8) (l : Tx) : (quoL q l).length ≤ 2 * l.length + 2 := by
  have := dbl_size q l
  simp only [quoL, List.length_append, List.length_singleton]
  omega
theorem shown_size (t : Tok) : (shownL t).length ≤ 2 * t.2.1.size + 2 := by
  have h : t.2.1.data.toList.length = t.2.1.size := rfl
  unfold shownL
  split
  · have := quo_size 34 t.2.1.data.toList; omega
  · split
    · have := quo_size 39 t.2.1.data.toList; omega
    · omega
theorem app_one (q : UInt8) : (⟨#[q]⟩ : ByteArray) ++ (⟨#[q]⟩ : ByteArray) = ⟨#[q, q]⟩ := by apply ByteArray.ext; simp
theorem quo_eq (q : UInt8) (l : Tx) : (⟨#[q]⟩ : ByteArray) ++ ⟨(dblL q l).toArray⟩ ++ ⟨#[q]⟩ = ⟨(quoL q l).toArray⟩ := by apply ByteArray.ext; simp [quoL]
/-- what stands behind the first of some tokens -/
def tailL (l : List Tok) : Tx := l.flatMap fun t => 32 :: shownL t
/-- tokens as text -/
def showL : List Tok → Tx
  | [] => []
  | t :: r => shownL t ++ tailL r
theorem show_snoc (l : List Tok) (t : Tok) : showL (l ++ [t]) = showL l ++ (if l = [] then [] else [32]) ++ shownL t := by
  cases l with
  | nil => simp [showL, tailL]
  | cons x r => simp [showL, tailL]
theorem show_size (l : List Tok) (z : Nat) (h : ∀ t ∈ l, t.2.1.size ≤ z) : (showL l).length ≤ l.length * (2 * z + 3) := by
  have ht : ∀ r : List Tok, (∀ t ∈ r, t.2.1.size ≤ z) → (tailL r).length ≤ r.length * (2 * z + 3) := by
    intro r
    induction r with
    | nil => intro _; simp [tailL]
    | cons x r ih =>
      intro hr
      have e : tailL (x :: r) = 32 :: shownL x ++ tailL r := by simp [tailL]
      have h1 := shown_size x
      have h2 := hr x (by simp)
      have h3 := ih fun t h => hr t (by simp [h])
      rw [e, List.length_append, List.length_cons, List.length_cons, Nat.succ_mul]
      omega
  cases l with
  | nil => simp [showL]
  | cons x r =>
    have h1 := shown_size x
    have h2 := h x (by simp)
    have h3 := ht r fun t h' => h t (by simp [h'])
    rw [showL, List.length_append, List.length_cons, Nat.succ_mul]
    omega
end Go.Proofs.YtjloookjlnmgdaaGreatDoor
