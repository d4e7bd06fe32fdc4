/- What package lexer's between, quoted, str answer. Condition: a text's length; that it is not empty. -/
import Derived.Test.YtgnpkpboilnijaaGreatDoorG5
import Derived.WalkMore
import Derived.BigQuiet
import Derived.IntWalk
import Derived.OwnWalk
import Derived.Deep.DeepMust
import Derived.Deep.DeepAppendWide
import Derived.Deep.QuietTactic
set_option linter.unusedSimpArgs false
set_option linter.unusedVariables false
namespace Go.Proofs.YtgnpkpboilnijaaGreatDoor
open Go.ChangeShapes Go.WideShapes Go.ChangeAt Go.RowKit
set_option maxRecDepth 100000
set_option linter.unusedVariables false
set_option linter.unusedSimpArgs false

/-- what stands up to a quote that ends, and how many bytes that is, the quote too -/
def betL (q : UInt8) : Tx → Option (Tx × Nat)
  | [] => none
  | c :: r => if c = q then (match r with
      | d :: r2 => if d = q then (betL q r2).map (fun p => (d :: p.1, p.2 + 2)) else some ([], 1)
      | [] => some ([], 1)) else (betL q r).map (fun p => (c :: p.1, p.2 + 1))
theorem betL_cons (q c : UInt8) (r : Tx) : betL q (c :: r) = if c = q then (match r with
      | d :: r2 => if d = q then (betL q r2).map (fun p => (d :: p.1, p.2 + 2)) else some ([], 1)
      | [] => some ([], 1)) else (betL q r).map (fun p => (c :: p.1, p.2 + 1)) := by
  rw [betL.eq_def]
  cases r <;> rfl
def u8V (c : UInt8) : Value := .int .u8 (c.toNat : Int)
theorem info5 : (Tryz.prog.info? 5).map (fun i => (i.zero, i.size, i.bytes)) = some (some (.int .u8 0), 1, 1) := by kernel_rfl
theorem i5_parts : ∃ i, Tryz.prog.info? 5 = some i ∧ i.zero = some (.int .u8 0) ∧ i.size = 1 ∧ i.bytes = 1 := by
  have h := info5
  cases e : Tryz.prog.info? 5 with
  | none => rw [e] at h; cases h
  | some i =>
    rw [e] at h
    simp only [Option.map_some, Option.some.injEq, Prod.mk.injEq] at h
    exact ⟨i, rfl, h.1, h.2.1, h.2.2⟩
theorem und47 : Tryz.prog.underlying 58 = some (.slice 5) := by kernel_rfl
theorem Own3.grown {w w1 w2 : World} {row : Option Nat} (h : Own3 w w1) (g : w1.grownBy w2 row) (hr : ∀ k, row = some k → w.heap.size + 1 ≤ k) : Own3 w w2 := by
  have b : Below (w.heap.size + 1) w1 w2 := (Below.refl _ _).grown g (by have := h.lt; omega) hr
  have l := Nat.lt_succ_self w.heap.size
  exact ⟨h.bel.trans (b.mono (Nat.le_succ _)), Nat.lt_of_lt_of_le h.lt b.size, by rw [b.cell l]; exact h.k0, by rw [b.cell l]; exact h.k1, by rw [b.cell l]; exact h.k2, by rw [b.frozen l]; exact h.f0, by rw [b.frozen l]; exact h.f1, by rw [b.frozen l]; exact h.f2⟩
structure BetI (s : ByteArray) (q : UInt8) (R : Option (Tx × Nat)) (w : World) (xs : Tx) (a : Nat) (v : Value) (wr : World) : Prop where
  own : Own3 w wr
  row : wr.ownsRow (w.heap.size + 1) 5 1 v xs.length (xs.map u8V)
  le : a ≤ s.size
  len : xs.length ≤ a
  val : R = (betL q (s.data.toList.drop a)).map (fun p => (xs ++ p.1, p.2 + a))
theorem BetI.more {s : ByteArray} {q : UInt8} {R : Option (Tx × Nat)} {w wr w2 : World} {xs : Tx} {a b : Nat} {v v2 : Value} {z : Int} (h : BetI s q R w xs a v wr) (c : UInt8) (hz : z = (c.toNat : Int))
    (hr : w2.ownsRow (w.heap.size + 1) 5 1 v2 (xs.length + 1) (xs.map u8V ++ [.int .u8 z])) (hg : (wr.alloc (.cells #[.int .u8 z] 5)).grownBy w2 v.ownBlock)
    (hb : b ≤ s.size) (hab : a < b) (hv : R = (betL q (s.data.toList.drop b)).map (fun p => (xs ++ c :: p.1, p.2 + b))) : BetI s q R w (xs ++ [c]) b v2 w2 := by
  refine ⟨(h.own.step ((Below.refl _ _).alloc (Nat.le_refl _) _)).grown hg (fun k hk => (World.ownsRow.lt h.row k hk).1), ?_, hb, by have := h.len; simp; omega, ?_⟩
  · subst hz
    simpa [u8V] using hr
  · rw [hv]; simp
theorem betV_str {w wr : World} {xs : Tx} {v : Value} (h : wr.ownsRow (w.heap.size + 1) 5 1 v xs.length (xs.map u8V)) : (convert 58 9 v).run Tryz.prog wr = .ok (.string ⟨xs.toArray⟩) wr := by
  have ht := h
  rcases h.2 with ⟨rfl, hn⟩ | ⟨g, cap, cur, rfl, _⟩
  · have : xs = [] := List.eq_nil_of_length_eq_zero hn
    subst this
    rw [run_convert_bytes_string wr 58 9 5 none 0 0 und47 (by kernel_rfl) (by kernel_rfl)]
    simp [Conv.bytesToString]
    rfl
  · refine run_convert_bytes_back (P := Tryz.prog) wr 58 9 5 ⟨g, 0, none⟩ cap xs und47 (by kernel_rfl) (by kernel_rfl) (fun j hj => ?_)
    exact World.ownsRow.cells ht rfl j _ (by simp [u8V, hj])
def betV (k : Int) (o : Option (Tx × Nat)) : Value := match o with
  | some p => pcV k ⟨p.1.toArray⟩ (p.2 : Int)
  | none => pcV 0 ⟨#[]⟩ (-1)
theorem bet_no (s : ByteArray) (q : UInt8) (k : Int) (w : World) (h : 0 < s.size) (hq : (s[0]'h) ≠ q) :
    Calls Tryz.prog 87 #[.string s, .int .u8 (q.toNat : Int), .int .i64 k] w fun e w' => e = .returned (pcV 0 ⟨#[]⟩ 0) ∧ Below w.heap.size w w' := by
  have hz : (0 : Int) < (s.size : Int) := by omega
  have g : (((s[0]'h).toNat : Int) != (q.toNat : Int)) = true := by
    rw [bne, beq_eq_false_iff_ne.2 (fun e => hq (UInt8.toNat_inj.1 (by omega)))]; rfl
  clear hq
  go_enter Tryz.func87, Tryz.ntmps87
  go_wp2
  refine bodyPost_ret (v := pcV 0 ⟨#[]⟩ 0) (by simp [results, Tryz.results87, go_sem]) rfl ?_
  exact ⟨rfl, (Below.refl _ _).alloc (Nat.le_refl _) _⟩
theorem one_cell (w : World) (z : Int) : ∀ (j : Nat) (u : Value), [Value.int .u8 z][j]? = some u → (w.alloc (.cells #[.int .u8 z] 5)).cell? ((⟨w.heap.size, 0, none⟩ : Addr).add j) = some u := by
  intro j u hj
  match j, hj with
  | 0, hj =>
    rw [Addr.add_lit, World.cell?_alloc_mark]
    simpa using hj
set_option maxHeartbeats 1000000 in
set_option maxRecDepth 100000 in
theorem bet_yes (s : ByteArray) (q : UInt8) (k : Int) (w : World) (hs : s.size ≤ 4294967296) (h : 0 < s.size) (hq : (s[0]'h) = q) (R : Option (Tx × Nat)) (hR : R = (betL q (s.data.toList.drop 1)).map (fun p => (p.1, p.2 + 1))) :
    Calls Tryz.prog 87 #[.string s, .int .u8 (q.toNat : Int), .int .i64 k] w fun e w' => e = .returned (betV k R) ∧ Below w.heap.size w w' := by
  obtain ⟨i5, hi5, hz5, hs5, hb5⟩ := i5_parts
  have hz : (0 : Int) < (s.size : Int) := by omega
  have g : (((s[0]'h).toNat : Int) != (q.toNat : Int)) = false := by
    rw [hq]; simp
  have hI : BetI s q R w [] 1 (.slice none 0 0) _ := ⟨Own3.new w, World.ownsRow_nil _ _ _ _, by omega, by simp, by rw [hR]; rfl⟩
  have HI := Lib.hid hI
  clear hI hq hR
  go_enter Tryz.func87, Tryz.ntmps87
  go_wp2
  go_loopw [7, 8] (fun u7 u8 wr => ∃ (xs : Tx) (a : Nat), u8 = .int .i64 (a : Int) ∧ BetI s q R w xs a u7 wr) (fun _ u8 _ => s.size - (match u8 with | .int _ k => k.toNat | _ => 0))
  case atStart => exact ⟨[], 1, rfl, HI.out⟩
  case round =>
    obtain ⟨xs, a, rfl, hr⟩ := hrel
    obtain ⟨hown, hrow, hle, hlen, hval⟩ := id hr
    obtain ⟨hB, hL, k0, k1, k2, f0, f1, f2⟩ := id hown
    have hconv := betV_str hrow
    have HB := Lib.hid hr
    have HV := Lib.hid hval
    have l0 : (0 : Int) ≤ (a : Int) := by omega
    clear hr hown HI hrow hval g hz
    by_cases ha : a < s.size
    · have hd := List.drop_eq_getElem_cons (show a < s.data.toList.length by rw [← Lib.size_eq]; exact ha)
      have hda : s.data.toList[a]'(by rw [← Lib.size_eq]; exact ha) = s[a]'ha := rfl
      rw [hda] at hd
      obtain ⟨b, hb⟩ : ∃ b, a + 1 = b := ⟨_, rfl⟩
      have cw : IntKind.i64.wrap ((a : Int) + 1) = (b : Int) := by rw [show (a : Int) + 1 = (b : Int) by omega]; exact IntWalk.i64_in _ (by omega)
      have la : (a : Int) < (s.size : Int) := by omega
      rw [hb] at hd
      have HD := Lib.hid hd
      have HBA := Lib.hid hb
      clear hd hda hb
      by_cases hc : s[a]'ha = q
      · have g1 : (((s[a]'ha).toNat : Int) == (q.toNat : Int)) = true := by rw [hc]; simp
        have b0 : (0 : Int) ≤ (b : Int) := by omega
        by_cases hbs : b = s.size
        · have hv : betV k R = pcV k ⟨xs.toArray⟩ (b : Int) := by
            rw [HV.out, HD.out, betL_cons, if_pos hc, List.drop_of_length_le (by rw [← Lib.size_eq]; omega)]
            simp [betV]
            have := HBA.out; omega
          have g2 : ((b : Int) == (s.size : Int)) = true := by rw [beq_iff_eq]; omega
          clear hc
          go_wp2
          refine bodyPost_ret (v := pcV k ⟨xs.toArray⟩ (b : Int)) (by simp [results, Tryz.results87, go_sem, k0, k1, k2]; try omega) rfl ?_
          try rw [hv]
          refine ⟨rfl, ((hB.setCell ?_ _).setCell ?_ _).setCell ?_ _⟩ <;> exact Nat.le_refl _
        · have hbl : b < s.size := by have := HBA.out; omega
          have lb : (b : Int) < (s.size : Int) := by omega
          have g2 : ((b : Int) == (s.size : Int)) = false := by rw [beq_eq_false_iff_ne]; omega
          have hd2 := List.drop_eq_getElem_cons (show b < s.data.toList.length by rw [← Lib.size_eq]; exact hbl)
          have hda2 : s.data.toList[b]'(by rw [← Lib.size_eq]; exact hbl) = s[b]'hbl := rfl
          rw [hda2] at hd2
          by_cases hc2 : s[b]'hbl = q
          · have g3 : (((s[b]'hbl).toNat : Int) != (q.toNat : Int)) = false := by rw [hc2]; simp
            obtain ⟨d, hdd⟩ : ∃ d, b + 1 = d := ⟨_, rfl⟩
            have cw2 : IntKind.i64.wrap ((b : Int) + 1) = (d : Int) := by rw [show (b : Int) + 1 = (d : Int) by omega]; exact IntWalk.i64_in _ (by omega)
            have hv : R = (betL q (s.data.toList.drop d)).map (fun p => (xs ++ (s[b]'hbl) :: p.1, p.2 + d)) := by
              rw [HV.out, HD.out, betL_cons, if_pos hc, hd2, hdd]
              simp only [hc2, if_true]
              rw [Option.map_map]
              congr 1
              funext p
              simp only [Function.comp]
              have := HBA.out
              rw [show p.2 + 2 + a = p.2 + d by omega]
            have HV2 := Lib.hid hv
            have HDD := Lib.hid hdd
            clear hv hc hc2 hd2 hda2 hdd
            go_wp2_with (at_builtin; go_must (
              refine wpList_append_own_wide _ rfl (.tmp 43) (.tmp 47) 58 rfl (w.heap.size + 1) 5 i5 (.int .u8 0) 1 1 und47 hi5 hz5 hs5 hb5 rfl (by decide) u7 xs.length (xs.map u8V) rfl (HB.out.row.alloc _) ⟨wr.heap.size, 0, none⟩ 1 1 [.int .u8 ((s[b]'hbl).toNat : Int)] rfl rfl ?c1 ?c2 ?c3 ?c4 ?c5 ?_
              case c1 => exact one_cell wr _
              case c2 => intro u hu; rw [List.mem_singleton.1 hu]; rfl
              case c3 => unfold maxLen; omega
              case c4 => omega
              case c5 => have := HB.out.own.lt; simp; omega
              intro v9 w9 hown9 hgr9 _))
            have hmore := HB.out.more (b := d) (s[b]'hbl) rfl hown9 hgr9 (by have := HDD.out; omega) (by have := HDD.out; have := HBA.out; omega) HV2.out
            have := HDD.out
            have := HBA.out
            refine ⟨⟨_, d, rfl, hmore⟩, ?_⟩
            simp only [Int.toNat_natCast]; omega
          · have hv : betV k R = pcV k ⟨xs.toArray⟩ (b : Int) := by
              rw [HV.out, HD.out, betL_cons, if_pos hc, hd2]
              simp only [hc2, if_false]
              simp [betV]
              have := HBA.out; omega
            have g3 : (((s[b]'hbl).toNat : Int) != (q.toNat : Int)) = true := by
              rw [bne, beq_eq_false_iff_ne.2 (fun e => hc2 (UInt8.toNat_inj.1 (by omega)))]; rfl
            clear hc hc2 hd2 hda2
            go_wp2
            refine bodyPost_ret (v := pcV k ⟨xs.toArray⟩ (b : Int)) (by simp [results, Tryz.results87, go_sem, k0, k1, k2]; try omega) rfl ?_
            try rw [hv]
            refine ⟨rfl, ((hB.setCell ?_ _).setCell ?_ _).setCell ?_ _⟩ <;> exact Nat.le_refl _
      · have g1 : (((s[a]'ha).toNat : Int) == (q.toNat : Int)) = false := by
          rw [beq_eq_false_iff_ne]; exact fun e => hc (UInt8.toNat_inj.1 (by omega))
        have hv : R = (betL q (s.data.toList.drop b)).map (fun p => (xs ++ (s[a]'ha) :: p.1, p.2 + b)) := by
          rw [HV.out, HD.out, betL_cons, if_neg hc, Option.map_map]
          congr 1
          funext p
          simp only [Function.comp]
          have := HBA.out
          rw [show p.2 + 1 + a = p.2 + b by omega]
        have HV2 := Lib.hid hv
        clear hv hc
        go_wp2_with (at_builtin; go_must (
          refine wpList_append_own_wide _ rfl (.tmp 43) (.tmp 47) 58 rfl (w.heap.size + 1) 5 i5 (.int .u8 0) 1 1 und47 hi5 hz5 hs5 hb5 rfl (by decide) u7 xs.length (xs.map u8V) rfl (HB.out.row.alloc _) ⟨wr.heap.size, 0, none⟩ 1 1 [.int .u8 ((s[a]'ha).toNat : Int)] rfl rfl ?c1 ?c2 ?c3 ?c4 ?c5 ?_
          case c1 => exact one_cell wr _
          case c2 => intro u hu; rw [List.mem_singleton.1 hu]; rfl
          case c3 => unfold maxLen; omega
          case c4 => omega
          case c5 => have := HB.out.own.lt; simp; omega
          intro v9 w9 hown9 hgr9 _))
        have hmore := HB.out.more (b := b) (s[a]'ha) rfl hown9 hgr9 (by have := HBA.out; omega) (by have := HBA.out; omega) HV2.out
        have := HBA.out
        refine ⟨⟨_, b, rfl, hmore⟩, ?_⟩
        simp only [Int.toNat_natCast]; omega
    · have la : ¬ ((a : Int) < (s.size : Int)) := by omega
      have hv : betV k R = pcV 0 ⟨#[]⟩ (-1) := by
        rw [HV.out, List.drop_of_length_le (by rw [← Lib.size_eq]; omega)]; rfl
      go_wp2
      refine bodyPost_ret (v := pcV 0 ⟨#[]⟩ (-1)) (by simp [results, Tryz.results87, go_sem, k0, k1, k2]; try omega) rfl ?_
      try rw [hv]
      refine ⟨rfl, ((hB.setCell ?_ _).setCell ?_ _).setCell ?_ _⟩ <;> exact Nat.le_refl _
def quoS (q : UInt8) (k : Int) (s : ByteArray) : Value :=
  match s.data.toList with
  | [] => pcV 0 ⟨#[]⟩ 0
  | c :: r => if c = q then betV k ((betL q r).map (fun p => (p.1, p.2 + 1))) else pcV 0 ⟨#[]⟩ 0
theorem bet_any (s : ByteArray) (q : UInt8) (k : Int) (w : World) (hs : s.size ≤ 4294967296) (h : 0 < s.size) :
    Calls Tryz.prog 87 #[.string s, .int .u8 (q.toNat : Int), .int .i64 k] w fun e w' => e = .returned (quoS q k s) ∧ Below w.heap.size w w' := by
  have hd := List.drop_eq_getElem_cons (show 0 < s.data.toList.length by rw [← Lib.size_eq]; exact h)
  rw [List.drop_zero] at hd
  have hda : s.data.toList[0]'(by rw [← Lib.size_eq]; exact h) = s[0]'h := rfl
  rw [hda] at hd
  by_cases hq : s[0]'h = q
  · have e : quoS q k s = betV k ((betL q (s.data.toList.drop 1)).map (fun p => (p.1, p.2 + 1))) := by
      unfold quoS; rw [hd]; simp only [hq, if_true, List.drop_succ_cons, List.drop_zero]
    rw [e]
    exact bet_yes s q k w hs h hq _ rfl
  · have e : quoS q k s = pcV 0 ⟨#[]⟩ 0 := by
      unfold quoS; rw [hd]; simp only [hq, if_false]
    rw [e]
    exact bet_no s q k w h hq
theorem betV_agg (k : Int) (o : Option (Tx × Nat)) : ∃ a t n, betV k o = pcV a t n := by
  cases o with
  | none => exact ⟨_, _, _, rfl⟩
  | some p => exact ⟨_, _, _, rfl⟩
theorem quoS_agg (q : UInt8) (k : Int) (s : ByteArray) : ∃ a t n, quoS q k s = pcV a t n := by
  unfold quoS
  split
  · exact ⟨_, _, _, rfl⟩
  · split
    · exact betV_agg _ _
    · exact ⟨_, _, _, rfl⟩
theorem quoted_any (s : ByteArray) (w : World) (hs : s.size ≤ 4294967296) (h : 0 < s.size) :
    Calls Tryz.prog 59 #[.string s] w fun e w' => e = .returned (quoS 34 2 s) ∧ Below w.heap.size w w' := by
  have hb := fun w => bet_any s 34 2 w hs h
  obtain ⟨a, t, n, e⟩ := quoS_agg 34 2 s
  rw [e] at hb ⊢
  have hb : ∀ w, Calls Tryz.prog 87 #[.string s, .int .u8 34, .int .i64 2] w fun e w' => e = .returned (pcV a t n) ∧ Below w.heap.size w w' := hb
  have HB := Lib.hid hb
  clear hb e
  go_enter Tryz.func59, Tryz.ntmps59
  go_wp2_with (go_at_call 87; (with_reducible refine (HB.out _).mono ?_); rintro e w1 ⟨rfl, hb1⟩; have F1 := (Own3.new w).step hb1; clear hb1; obtain ⟨hB, hL, k0, k1, k2, f0, f1, f2⟩ := id F1)
  refine bodyPost_ret (v := pcV a t n) (by simp [results, Tryz.results59, go_sem, k0, k1, k2]) rfl ?_
  refine ⟨rfl, ((hB.setCell ?_ _).setCell ?_ _).setCell ?_ _⟩ <;> exact Nat.le_refl _
theorem str_any (s : ByteArray) (w : World) (hs : s.size ≤ 4294967296) (h : 0 < s.size) :
    Calls Tryz.prog 60 #[.string s] w fun e w' => e = .returned (quoS 39 3 s) ∧ Below w.heap.size w w' := by
  have hb := fun w => bet_any s 39 3 w hs h
  obtain ⟨a, t, n, e⟩ := quoS_agg 39 3 s
  rw [e] at hb ⊢
  have hb : ∀ w, Calls Tryz.prog 87 #[.string s, .int .u8 39, .int .i64 3] w fun e w' => e = .returned (pcV a t n) ∧ Below w.heap.size w w' := hb
  have HB := Lib.hid hb
  clear hb e
  go_enter Tryz.func60, Tryz.ntmps60
  go_wp2_with (go_at_call 87; (with_reducible refine (HB.out _).mono ?_); rintro e w1 ⟨rfl, hb1⟩; have F1 := (Own3.new w).step hb1; clear hb1; obtain ⟨hB, hL, k0, k1, k2, f0, f1, f2⟩ := id F1)
  refine bodyPost_ret (v := pcV a t n) (by simp [results, Tryz.results60, go_sem, k0, k1, k2]) rfl ?_
  refine ⟨rfl, ((hB.setCell ?_ _).setCell ?_ _).setCell ?_ _⟩ <;> exact Nat.le_refl _
end Go.Proofs.YtgnpkpboilnijaaGreatDoor
