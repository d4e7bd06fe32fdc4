/- What package lexer's Scan answers. Condition: the word of bytealg.
   What package lexer's Show answers. Conditions: the word of bytealg, how many tokens, how long their texts.
   The statements of tokens in plain words; what holds of the memory while lists are put together; what package lexer's with answers. Condition: none.
   What package lexer's Split answers. Conditions: how many tokens, how long their texts.
   What the document's own double and Show at layer 4 answer. Conditions: how many tokens, how long their texts.
   What the document's own starts, sign and row answer. Conditions: a text's length.
   What the document's own remark answers. Conditions: a text's length; a remark begins there. -/
import Derived.Test.YtjloookjlnmgdaaGreatDoorG10
import Derived.WalkMore
import Derived.BigQuiet
import Derived.OwnWalk
import Derived.Deep.LoopGhost
import Derived.Deep.DeepMust
import Derived.Deep.DeepAppendWide
import Derived.Deep.QuietTactic
import Derived.Deep.AppendLies
set_option linter.unusedSimpArgs false
set_option linter.unusedVariables false
namespace Go.Proofs.YtjloookjlnmgdaaGreatDoor
open Go.ChangeShapes Go.WideShapes Go.ChangeAt Go.RowKit
set_option maxRecDepth 100000
set_option linter.unusedVariables false
set_option linter.unusedSimpArgs false

theorem info30 : (Tryz.prog.info? 27).map (fun i => (i.zero, i.size, i.bytes)) = some (some (.agg #[.int .i64 0, .string ByteArray.empty, .int .i64 0]), 3, 32) := by kernel_rfl
theorem i30_parts : ∃ i, Tryz.prog.info? 27 = some i ∧ i.zero = some (.agg #[.int .i64 0, .string ByteArray.empty, .int .i64 0]) ∧ i.size = 3 ∧ i.bytes = 32 := by
  have h := info30
  cases e : Tryz.prog.info? 27 with
  | none => rw [e] at h; cases h
  | some i =>
    rw [e] at h
    simp only [Option.map_some, Option.some.injEq, Prod.mk.injEq] at h
    exact ⟨i, rfl, h.1, h.2.1, h.2.2⟩
theorem und23 : Tryz.prog.underlying 22 = some (.slice 27) := by kernel_rfl
theorem tok_cells (w : World) (t : Tok) : ∀ (j : Nat) (u : Value), (tokCells t)[j]? = some u → (w.alloc (.cells #[.int .i64 t.1, .string t.2.1, .int .i64 t.2.2] 27)).cell? ((⟨w.heap.size, 0, none⟩ : Addr).add j) = some u := by
  intro j u hj
  rw [Addr.add_lit, Nat.zero_add, World.cell?_alloc_mark]
  match j, hj with
  | 0, hj => simpa [tokCells] using hj
  | 1, hj => simpa [tokCells] using hj
  | 2, hj => simpa [tokCells] using hj
  | n + 3, hj => simp [tokCells] at hj
theorem tok_cells2 (w : World) (o : Obj) (t : Tok) : ∀ (j : Nat) (u : Value), (tokCells t)[j]? = some u → ((w.alloc o).alloc (.cells #[.int .i64 t.1, .string t.2.1, .int .i64 t.2.2] 27)).cell? ((⟨w.heap.size + 1, 0, none⟩ : Addr).add j) = some u := by
  have e : (w.alloc o).heap.size = w.heap.size + 1 := by simp
  rw [← e]
  exact tok_cells (w.alloc o) t
theorem tok_one (t : Tok) : ∀ u ∈ tokCells t, u.oneCell' = true := by
  intro u hu
  simp only [tokCells, List.mem_cons, List.not_mem_nil, or_false] at hu
  rcases hu with rfl | rfl | rfl <;> rfl
theorem two_more (w w2 : World) (o p : Obj) (h : w.heap.size < w2.heap.size) : w.heap.size + 1 ≤ ((w2.alloc o).alloc p).heap.size := by simp; omega
theorem two_below (w2 : World) (o p : Obj) : Below w2.heap.size w2 ((w2.alloc o).alloc p) := ((Below.refl _ _).alloc (Nat.le_refl _) _).alloc (by simp) _
theorem piece_left {w2 w9 : World} {row : Option Nat} (kd n : Int) (t : ByteArray) (T : Obj) (g : ((w2.alloc (.cells #[.int .i64 kd, .string t, .int .i64 n] 92)).alloc T).grownBy w9 row) (hr : ∀ k, row = some k → k < w2.heap.size) :
    w9.cell? ⟨w2.heap.size, 2, none⟩ = some (.int .i64 n) := by
  obtain ⟨_, _, _, _, h⟩ := g
  have e : ((w2.alloc (.cells #[.int .i64 kd, .string t, .int .i64 n] 92)).alloc T).cell? ⟨w2.heap.size, 2, none⟩ = some (.int .i64 n) := by simp [go_sem]
  have hb := h w2.heap.size (by simp; omega) (by intro hh; have := hr _ hh.symm; omega)
  rw [World.cell?_of_block (w := (w2.alloc (.cells #[.int .i64 kd, .string t, .int .i64 n] 92)).alloc T) hb]
  exact e
def ScanP (w : World) (r : List Tok × Int × Int) (e : Ending) (w' : World) : Prop :=
  ∃ v, e = .returned (.tuple #[v, .int .i64 r.2.1, .int .i64 r.2.2]) ∧ w'.ownsRow (w.heap.size + 1) 27 3 v r.1.length (tokRow r.1) ∧ Below w.heap.size w w'
set_option maxHeartbeats 1000000 in
set_option maxRecDepth 100000 in
theorem scan_small (s : ByteArray) (m : Int) (w : World) (hs : s.size ≤ 2000) (hm : Wd m w) (R : List Tok × Int × Int) (hR : R = scanN (s.size + 1) s 0 []) :
    Calls Tryz.prog 31 #[.string s] w (ScanP w R) := by
  have hl : ¬ ((2000 : Int) < (s.size : Int)) := by omega
  obtain ⟨i30, hi30, hz30, hs30, hb30⟩ := i30_parts
  have hr := readers_any w
  have HR := Lib.hid hr
  have HS := Lib.hid (ScI.start hm)
  have HE := Lib.hid hR
  clear hr hm hR
  go_enter Tryz.func31, Tryz.ntmps31
  go_wp2
  go_step3
  go_wp2_with (go_at_call 59; (with_reducible refine HR.out.mono ?_); rintro e w1 ⟨rfl, hw⟩; subst hw)
  go_step3
  go_wp2
  go_loopg [5, 7] s.size (fun g u5 u7 wx => ∃ (l : List Tok) (a : Nat), u7 = .int .i64 (a : Int) ∧ a ≤ s.size ∧ s.size - a ≤ g ∧ ScI m w l u5 wx ∧ R = scanN (g + 1) s a l ∧ l.length ≤ a)
  case atStart => exact ⟨[], 0, rfl, Nat.zero_le _, by omega, HS.out, HE.out, Nat.le_refl _⟩
  case round =>
    obtain ⟨l, a, rfl, ha, hg, hI, hv, hla⟩ := hrel
    clear HR HS HE
    have HV := Lib.hid hv
    have HI := Lib.hid hI
    clear hv hI
    by_cases hlt : a < s.size
    · obtain ⟨g, rfl⟩ : ∃ g, gk = g + 1 := ⟨gk - 1, by omega⟩
      have l0 : (a : Int) < (s.size : Int) := by omega
      have l1 : (0 : Int) ≤ (a : Int) := by omega
      have l2 : (a : Int) ≤ (s.size : Int) := by omega
      have hrs : 0 < (s.extract a s.size).size := by rw [ByteArray.size_extract]; omega
      have hrl : (s.extract a s.size).size < 4294967281 := Nat.lt_of_le_of_lt (ext_le s a) (by omega)
      obtain ⟨rest, hrest⟩ : ∃ r, s.extract a s.size = r := ⟨_, rfl⟩
      have hrz : rest.size = s.size - a := by rw [← hrest, ByteArray.size_extract]; omega
      have hV2 : R = match findR 10 rest with
        | none => ([], 7, (a : Int))
        | some p => if p.2.2 = -1 then ([], 6, (a : Int)) else scanN (g + 1) s (a + p.2.2.toNat) (if p.1 = 0 then l else l ++ [(p.1, p.2.1, (a : Int))]) := by
        rw [HV.out, scanN, if_neg (by omega), hrest]
        cases findR 10 rest <;> rfl
      rw [hrest] at hrs hrl
      have HV2 := Lib.hid hV2
      have HRS := Lib.hid hrs
      have HRL := Lib.hid hrl
      have HRZ := Lib.hid hrz
      clear hV2 HV hrs hrl hrz
      go_wp2
      go_loopg [5, 7, 21] 10 (fun k x5 x7 x21 wx => ∃ i : Nat, i + k = 10 ∧ x21 = .int .i64 (i : Int) ∧ x5 = u5 ∧ x7 = .int .i64 (a : Int) ∧ ScI m w l u5 wx ∧ findR k rest = findR 10 rest)
      case atStart => exact ⟨0, rfl, rfl, rfl, rfl, HI.out, rfl⟩
      case round =>
        obtain ⟨i, hik, rfl, rfl, rfl, hI2, hf⟩ := hrel
        have HI2 := Lib.hid hI2
        have HF := Lib.hid hf
        clear hI2 hf
        cases gk with
        | zero =>
          have hi : i = 10 := by omega
          subst hi
          have hv3 : R = ([], 7, (a : Int)) := by rw [HV2.out, ← HF.out]; rfl
          clear HV2
          go_wp2
          go_ret3
          exact ⟨_, rfl, World.ownsRow_nil _ _ _ _, HI2.out.bel⟩
        | succ k =>
          have hi : i < 10 := by omega
          have l3 : (i : Int) < 10 := by omega
          have l4 : (0 : Int) ≤ (i : Int) := by omega
          have hc : wr.cell? ⟨w.heap.size, i, none⟩ = some (.func (.func (rdF i)) #[] #[]) := HI2.out.reader i hi
          have hcall := fun w1 h1 => rd_call i hi rest HRS.out HRL.out m w1 h1
          have hsz := rd_sized i rest HRS.out
          have hfi : findR (k + 1) rest = if (rdP i rest).2.2 = 0 then findR k rest else some (rdP i rest) := by
            have := findR_at i hi rest
            rwa [show 10 - i = k + 1 by omega, show 10 - (i + 1) = k by omega] at this
          have hen := rd_enter i hi
          generalize rdP i rest = p at *
          generalize rdF i = fi at *
          obtain ⟨kd, t, z⟩ := p
          have hcall : ∀ w1, Wd m w1 → Calls Tryz.prog fi #[.string rest] w1 fun e w' => e = .returned (.agg #[.int .i64 kd, .string t, .int .i64 z]) ∧ Below w1.heap.size w1 w' := hcall
          have HCALL := Lib.hid hcall
          have HSZ := Lib.hid hsz
          have HFI := Lib.hid hfi
          have HIK := Lib.hid hik
          clear hcall hsz hfi hik
          by_cases hz0 : z = 0
          · have z0 : (z == (0 : Int)) = true := by rw [beq_iff_eq]; exact hz0
            have hf2 : findR k rest = findR 10 rest := by rw [← HF.out, HFI.out]; exact (if_pos hz0).symm
            have HF2 := Lib.hid hf2
            clear hf2 hz0
            go_wp2_with ((with_reducible refine (HCALL.out _ HI2.out.wd).mono ?_); rintro e w2 ⟨rfl, hb2⟩; have HI3 := Lib.hid (HI2.out.step hb2); clear hb2)
            go_roundg k
            case measure => exact Nat.lt_succ_self _
            case rel => exact ⟨i + 1, by have := HIK.out; omega, rfl, rfl, rfl, HI3.out.step ((Below.refl _ _).alloc (Nat.le_refl _) _), HF2.out⟩
          · have z0 : (z == (0 : Int)) = false := by rw [beq_eq_false_iff_ne]; exact hz0
            have hf2 : findR 10 rest = some (kd, t, z) := by rw [← HF.out, HFI.out]; exact if_neg hz0
            by_cases hz1 : z = -1
            · have z1 : (z == (-1 : Int)) = true := by rw [beq_iff_eq]; exact hz1
              have hv3 : R = ([], 6, (a : Int)) := by rw [HV2.out, hf2]; exact if_pos hz1
              clear HV2 hf2 hz0 hz1
              go_wp2_with ((with_reducible refine (HCALL.out _ HI2.out.wd).mono ?_); rintro e w2 ⟨rfl, hb2⟩; have HI3 := Lib.hid (HI2.out.step hb2); clear hb2)
              try rw [Exit.noGoto_ret]
              go_ret3
              rw [hv3]
              exact ⟨_, rfl, World.ownsRow_nil _ _ _ _, HI3.out.bel.trans (((Below.refl _ _).alloc (Nat.le_refl _) _).mono HI3.out.bel.size)⟩
            · have z1 : (z == (-1 : Int)) = false := by rw [beq_eq_false_iff_ne]; exact hz1
              obtain ⟨n, hn⟩ : ∃ n : Nat, z = (n : Int) := ⟨z.toNat, by have := HSZ.out; unfold Sized at this; simp only at this; omega⟩
              subst hn
              have hn1 : 1 ≤ n := by omega
              have hn2 : n ≤ s.size - a := by have := HSZ.out; have := HRZ.out; unfold Sized at *; simp only at *; omega
              have hv3 : R = scanN (g + 1) s (a + n) (if kd = 0 then l else l ++ [(kd, t, (a : Int))]) := by
                rw [HV2.out, hf2]; exact if_neg hz1
              obtain ⟨b, hb⟩ : ∃ b, a + n = b := ⟨_, rfl⟩
              have cw : IntKind.i64.wrap ((a : Int) + (n : Int)) = (b : Int) := by rw [show (a : Int) + (n : Int) = (b : Int) by omega]; exact IntWalk.i64_in _ (by omega)
              rw [hb] at hv3
              have HV3 := Lib.hid hv3
              have HBN := Lib.hid (show a < b ∧ b ≤ s.size by omega)
              clear hv3 HV2 hf2 hz0 hz1 hn1 hn2 hb
              by_cases hk : kd = 0
              · have k0 : (kd != (0 : Int)) = false := by rw [bne, beq_iff_eq.2 hk]; rfl
                have HK := Lib.hid hk
                clear hk
                go_wp2_with ((with_reducible refine (HCALL.out _ HI2.out.wd).mono ?_); rintro e w2 ⟨rfl, hb2⟩; have HI3 := Lib.hid (HI2.out.step hb2); clear hb2)
                go_roundg g
                case measure => omega
                case rel => exact ⟨l, b, rfl, HBN.out.2, by have := HBN.out; omega, HI3.out.step ((Below.refl _ _).alloc (Nat.le_refl _) _), by rw [HV3.out, if_pos HK.out], by have := HBN.out; omega⟩
              · have k0 : (kd != (0 : Int)) = true := by rw [bne, beq_eq_false_iff_ne.2 hk]; rfl
                have HK := Lib.hid hk
                clear hk
                go_wp2_with (first
                  | ((with_reducible refine (HCALL.out _ HI2.out.wd).mono ?_); rintro e w2 ⟨rfl, hb2⟩; have HI3 := Lib.hid (HI2.out.step hb2); clear hb2)
                  | (at_builtin; go_must (
                     refine wpList_append_own_wide _ rfl (.tmp 40) (.tmp 47) 22 rfl (w.heap.size + 1) 27 i30 (.agg #[.int .i64 0, .string ByteArray.empty, .int .i64 0]) 3 32 und23 hi30 hz30 hs30 hb30 rfl (by decide) u5 l.length (tokRow l) rfl ((HI3.out.row.alloc _).alloc _) ⟨w2.heap.size + 1, 0, none⟩ 1 1 (tokCells (kd, t, (a : Int))) rfl rfl ?c1 ?c2 ?c3 ?c4 ?c5 ?_
                     case c1 => exact tok_cells2 w2 _ (kd, t, (a : Int))
                     case c2 => exact tok_one _
                     case c3 => unfold maxLen; omega
                     case c4 => omega
                     case c5 => exact two_more w w2 _ _ HI3.out.lt
                     intro v9 w9 hown9 hgr9 _
                     have e9 := piece_left kd (n : Int) t _ hgr9 (fun k hk => (World.ownsRow.lt HI3.out.row k hk).2))))
                have HI4 := HI3.out.step (two_below w2 (.cells #[.int .i64 kd, .string t, .int .i64 (n : Int)] 92) (.cells #[.int .i64 kd, .string t, .int .i64 (a : Int)] 27))
                have HI5 := Lib.hid (HI4.more (kd, t, (a : Int)) hgr9 hown9)
                clear HI4
                go_roundg g
                case measure => omega
                case rel => exact ⟨l ++ [(kd, t, (a : Int))], b, rfl, HBN.out.2, by have := HBN.out; omega, HI5.out, by rw [HV3.out, if_neg HK.out], by have := HBN.out; rw [List.length_append, List.length_singleton]; omega⟩
    · have hl2 : ¬ ((a : Int) < (s.size : Int)) := by omega
      have hv3 : R = (l, 0, 0) := by rw [HV.out, scanN, if_pos (by omega)]
      clear HV
      go_wp2
      try rw [Exit.noGoto_ret]
      go_ret3
      try rw [hv3]
      exact ⟨_, rfl, HI.out.row, HI.out.bel⟩
end Go.Proofs.YtjloookjlnmgdaaGreatDoor
namespace Go.Proofs.YtjloookjlnmgdaaGreatDoor
open Go.ChangeShapes Go.WideShapes Go.ChangeAt Go.RowKit
set_option maxRecDepth 100000
set_option linter.unusedVariables false
set_option linter.unusedSimpArgs false

theorem IsB.below {B b : Nat} {l : Tx} {w w2 : World} (h : IsB B b l w) (hb : Below w.heap.size w w2) : IsB B b l w2 := by
  have key : ∀ p, Lib.BuilderAt 294 5 B b p (Lib.byteCells l) w → Lib.BuilderAt 294 5 B b p (Lib.byteCells l) w2 := by
    rintro p h
    have hlt := h.lt
    obtain ⟨hB, v, hbk, hown, hne⟩ := h
    exact ⟨hB, v, by rw [hb.block _ hlt]; exact hbk, ownsRow_below hown hb, hne⟩
  rcases h with h | h
  · exact .inl (key _ h)
  · exact .inr (key _ h)
theorem kept_cell {w w2 : World} {b k : Nat} {o : Obj} (h : Lib.OthersKept 5 (some b) w w2) (hk : w.heap[k]? = some o) (hb : k ≠ b) (ho : ∀ c fz, o ≠ .cells c 5 fz) : w2.heap[k]? = some o :=
  h k o hk (fun e => hb (Option.some.inj e)) ho
/-- what holds while Show goes on -/
structure ShI (l : List Tok) (k : Nat) (m : Int) (w wr : World) : Prop where
  bel : Below w.heap.size w wr
  lt : w.heap.size < wr.heap.size
  wd : Wd m wr
  bld : IsB w.heap.size w.heap.size (showL (l.take k)) wr
theorem ShI.step {l : List Tok} {k : Nat} {m : Int} {w wr w2 : World} (h : ShI l k m w wr) (b : Below wr.heap.size wr w2) : ShI l k m w w2 :=
  ⟨h.bel.trans (b.mono (Nat.le_of_lt h.lt)), Nat.lt_of_lt_of_le h.lt b.size, h.wd.below b, h.bld.below b⟩
theorem cells_tok {w2 : World} {g : Nat} {a : Int} {s : ByteArray} {c : Int} (h : w2.heap[g]? = some (.cells #[.int .i64 a, .string s, .int .i64 c] 27 (0, 0))) :
    w2.cell? ⟨g, 0, none⟩ = some (.int .i64 a) ∧ w2.cell? ⟨g, 1, none⟩ = some (.string s) ∧ w2.cell? ⟨g, 2, none⟩ = some (.int .i64 c) := by
  refine ⟨?_, ?_, ?_⟩ <;> rw [Lib.cell_of_heap h] <;> rfl
theorem block_tok (w : World) (a : Int) (s : ByteArray) (c : Int) : (w.alloc (.cells #[.int .i64 a, .string s, .int .i64 c] 27)).heap[w.heap.size]? = some (.cells #[.int .i64 a, .string s, .int .i64 c] 27 (0, 0)) := by
  show (w.heap.push _)[w.heap.size]? = _; simp
theorem take_showL {l : List Tok} {k : Nat} (hk : k < l.length) : showL (l.take (k + 1)) = showL (l.take k) ++ (if k = 0 then [] else [32]) ++ shownL l[k] := by
  rw [List.take_add_one, List.getElem?_eq_getElem hk, Option.toList_some, show_snoc]
  congr 2
  by_cases h0 : k = 0
  · subst h0; simp
  · rw [if_neg h0, if_neg]
    intro he
    have := congrArg List.length he
    rw [List.length_take, List.length_nil] at this
    omega
theorem take_size {l : List Tok} (hl : l.length ≤ 65536) (hz : ∀ t ∈ l, t.2.1.size ≤ 65536) (k : Nat) : (showL (l.take k)).length ≤ 68719476736 := by
  have h1 := show_size (l.take k) 65536 fun t h => hz t (List.mem_of_mem_take h)
  have h2 : (l.take k).length ≤ 65536 := by rw [List.length_take]; omega
  have h3 := Nat.mul_le_mul_right (2 * 65536 + 3) h2
  omega
end Go.Proofs.YtjloookjlnmgdaaGreatDoor
namespace Go.Proofs.YtjloookjlnmgdaaGreatDoor
open Go.ChangeShapes Go.WideShapes Go.ChangeAt Go.RowKit
set_option maxRecDepth 100000
set_option linter.unusedVariables false
set_option linter.unusedSimpArgs false

def isSemi (t : Tok) : Bool := t.1 == 5 && t.2.1.toList == [59]
def addL (als : List (List Tok)) (one : List Tok) : List (List Tok) := if one = [] then als else als ++ [one]
/-- the lists between Signs ; -/
def spF : List Tok → List Tok → List (List Tok) → List (List Tok)
  | [], one, als => addL als one
  | t :: r, one, als => if isSemi t = true then spF r [] (addL als one) else spF r (one ++ [t]) als
def splitL (l : List Tok) : List (List Tok) := spF l [] []
theorem own_kind {w : World} {B z n : Nat} {e : TypeId} {v : Value} {xs : List Value} (h : w.ownsRow B e z v n xs) : ∀ g, v.ownBlock = some g → g < w.heap.size ∧ ∃ c fz, w.heap[g]? = some (.cells c e fz) := by
  intro g hg
  rcases h.2 with ⟨rfl, _⟩ | ⟨g', cap, cur, rfl, _, hgg, _⟩
  · simp [Value.ownBlock] at hg
  · simp [Value.ownBlock] at hg
    subst hg
    exact ⟨(Array.getElem?_eq_some_iff.1 hgg).1, cur, _, hgg⟩
theorem own_apart {w : World} {B z n B2 z2 n2 : Nat} {e e2 : TypeId} {v v2 : Value} {xs xs2 : List Value} (h : w.ownsRow B e z v n xs) (h2 : w.ownsRow B2 e2 z2 v2 n2 xs2) (he : e ≠ e2) : v.ownBlock = none ∨ v.ownBlock ≠ v2.ownBlock := by
  cases hv : v.ownBlock with
  | none => exact .inl rfl
  | some g =>
    right
    intro hh
    obtain ⟨_, c, fz, h1⟩ := own_kind h g hv
    obtain ⟨_, c2, fz2, h3⟩ := own_kind h2 g hh.symm
    rw [h1] at h3
    injection h3 with h3
    injection h3 with _ h4 _
    exact he h4
/-- lists that are put together: als are whole, one is being made -/
structure SpI (w0 : World) (als : List (List Tok)) (one : List Tok) (va vo : Value) (w : World) : Prop where
  bel : Below w0.heap.size w0 w
  all : ∃ vs : List Value, vs.length = als.length ∧ w.ownsRow w0.heap.size 22 1 va als.length vs ∧
    ∀ (i : Nat) (u : Value) (l : List Tok), vs[i]? = some u → als[i]? = some l → w.ownsRow w0.heap.size 27 3 u l.length (tokRow l) ∧ (u.ownBlock = none ∨ u.ownBlock ≠ vo.ownBlock)
  one : w.ownsRow w0.heap.size 27 3 vo one.length (tokRow one)
theorem SpI.start (w : World) : SpI w [] [] (.slice none 0 0) (.slice none 0 0) w :=
  ⟨Below.refl _ _, ⟨[], rfl, World.ownsRow_nil _ _ _ _, fun i u l h => by simp at h⟩, World.ownsRow_nil _ _ _ _⟩
theorem SpI.step {w0 w w2 : World} {als : List (List Tok)} {one : List Tok} {va vo : Value} (h : SpI w0 als one va vo w) (b : Below w.heap.size w w2) : SpI w0 als one va vo w2 := by
  obtain ⟨vs, h1, h2, h3⟩ := h.all
  exact ⟨h.bel.trans (b.mono h.bel.size), ⟨vs, h1, ownsRow_below h2 b, fun i u l hu hl => ⟨ownsRow_below (h3 i u l hu hl).1 b, (h3 i u l hu hl).2⟩⟩, ownsRow_below h.one b⟩
theorem SpI.token {w0 w w2 : World} {als : List (List Tok)} {one : List Tok} {va vo : Value} (h : SpI w0 als one va vo w) (t : Tok) (g cap H : Nat) (hown : w2.ownsRow w0.heap.size 27 3 (.slice (some ⟨g, 0, none⟩) (one.length + 1) cap) (one.length + 1) (tokRow one ++ tokCells t))
    (hg : w.grownBy w2 vo.ownBlock) (hat : vo.ownBlock = some g ∨ g = H) (hH : H = w.heap.size) : SpI w0 als (one ++ [t]) va (.slice (some ⟨g, 0, none⟩) (one.length + 1) cap) w2 := by
  obtain ⟨vs, h1, h2, h3⟩ := h.all
  refine ⟨h.bel.grown hg h.bel.size fun k hk => (World.ownsRow.lt h.one k hk).1, ⟨vs, h1, h2.kept hg (own_apart h2 h.one (by decide)), fun i u l hu hl => ?_⟩, ?_⟩
  · obtain ⟨a, b⟩ := h3 i u l hu hl
    refine ⟨a.kept hg b, ?_⟩
    rcases hat with e | e
    · rw [e] at b; exact b
    · right
      intro hh
      have := (own_kind a g hh).1
      omega
  · rw [List.length_append, List.length_singleton, show tokRow (one ++ [t]) = tokRow one ++ tokCells t by simp [tokRow]]
    exact hown
theorem SpI.list {w0 w w2 : World} {als : List (List Tok)} {one : List Tok} {va vo v9 : Value} (h : SpI w0 als one va vo w) (vs : List Value) (h1 : vs.length = als.length) (h2 : w.ownsRow w0.heap.size 22 1 va als.length vs)
    (h3 : ∀ (i : Nat) (u : Value) (l : List Tok), vs[i]? = some u → als[i]? = some l → w.ownsRow w0.heap.size 27 3 u l.length (tokRow l) ∧ (u.ownBlock = none ∨ u.ownBlock ≠ vo.ownBlock))
    (hown : w2.ownsRow w0.heap.size 22 1 v9 (als.length + 1) (vs ++ [vo]))
    (hg : w.grownBy w2 va.ownBlock) : SpI w0 (als ++ [one]) [] v9 (.slice none 0 0) w2 := by
  refine ⟨h.bel.grown hg h.bel.size fun k hk => (World.ownsRow.lt h2 k hk).1, ⟨vs ++ [vo], by simp [h1], by rw [List.length_append, List.length_singleton]; exact hown, fun i u l hu hl => ?_⟩, World.ownsRow_nil _ _ _ _⟩
  have key : ∀ u : Value, u.ownBlock = none ∨ u.ownBlock ≠ (Value.slice none 0 0).ownBlock := fun u => by
    cases e : u.ownBlock with
    | none => exact .inl rfl
    | some g => right; simp [Value.ownBlock]
  by_cases hi : i < als.length
  · rw [List.getElem?_append_left (by omega)] at hu
    rw [List.getElem?_append_left hi] at hl
    exact ⟨(h3 i u l hu hl).1.kept hg (own_apart (h3 i u l hu hl).1 h2 (by decide)), key u⟩
  · rw [List.getElem?_append_right (by omega)] at hu hl
    have hz : i - als.length = 0 := by
      have := (List.getElem?_eq_some_iff.1 hl).1
      simp at this; omega
    rw [h1] at hu
    rw [hz] at hu hl
    simp at hu hl
    subst hu hl
    exact ⟨h.one.kept hg (own_apart h.one h2 (by decide)), key vo⟩
theorem SpI.forms {w0 w : World} {als : List (List Tok)} {one : List Tok} {va vo : Value} (h : SpI w0 als one va vo w) : (∃ a c, va = .slice a als.length c) ∧ ∃ a c, vo = .slice a one.length c := by
  obtain ⟨vs, h1, h2, h3⟩ := h.all
  constructor
  · rcases h2.2 with ⟨rfl, hz⟩ | ⟨g, cap, cur, rfl, _⟩
    · exact ⟨none, 0, by rw [hz]⟩
    · exact ⟨_, _, rfl⟩
  · rcases h.one.2 with ⟨rfl, hz⟩ | ⟨g, cap, cur, rfl, _⟩
    · exact ⟨none, 0, by rw [hz]⟩
    · exact ⟨_, _, rfl⟩
theorem info23 : (Tryz.prog.info? 22).map (fun i => (i.zero, i.size, i.bytes)) = some (some (.slice none 0 0), 1, 24) := by kernel_rfl
end Go.Proofs.YtjloookjlnmgdaaGreatDoor
namespace Go.Proofs.YtjloookjlnmgdaaGreatDoor
open Go.ChangeShapes Go.WideShapes Go.ChangeAt Go.RowKit
set_option maxRecDepth 100000
set_option linter.unusedVariables false
set_option linter.unusedSimpArgs false

/-- v is a slice of lists of tokens that reads as als -/
def LLR (w : World) (v : Value) (als : List (List Tok)) : Prop :=
  (∃ A cap, v = .slice A 0 cap ∧ als = []) ∨
  ∃ h off cap, v = .slice (some ⟨h, off, none⟩) als.length cap ∧ als.length ≤ cap ∧ ∀ (i : Nat) (l : List Tok), als[i]? = some l → ∃ u, w.cell? ⟨h, off + i, none⟩ = some u ∧ TR w u l
theorem LLR.of {w0 w : World} {als : List (List Tok)} {one : List Tok} {va vo : Value} (h : SpI w0 als one va vo w) : LLR w va als := by
  obtain ⟨vs, h1, h2, h3⟩ := h.all
  rcases h2.2 with ⟨rfl, hz⟩ | ⟨g, cap, cur, rfl, hb, hh, hc, hm, hs, ht⟩
  · exact .inl ⟨none, 0, rfl, List.eq_nil_of_length_eq_zero hz⟩
  · refine .inr ⟨g, 0, cap, rfl, hc, fun i l hi => ?_⟩
    have hlt := (List.getElem?_eq_some_iff.1 hi).1
    have hu : vs[i]? = some vs[i] := List.getElem?_eq_getElem (by omega)
    refine ⟨vs[i], ?_, TR.own (h3 i _ l hu hi).1⟩
    have e1 := h2.cells (g := g) rfl i _ hu
    rw [Addr.add_lit, Nat.zero_add] at e1
    rw [Nat.zero_add]; exact e1
theorem LLR.keep {w w' : World} {v : Value} {l : List (List Tok)} (h : LLR w v l) (hk : ∀ p : Addr, (w.cell? p).isSome = true → w'.cell? p = w.cell? p) : LLR w' v l := by
  rcases h with h | ⟨h, off, cap, e, hc, hm⟩
  · exact .inl h
  · refine .inr ⟨h, off, cap, e, hc, fun i t hi => ?_⟩
    obtain ⟨u, a, b⟩ := hm i t hi
    exact ⟨u, (hk _ (by rw [a]; rfl)).trans a, b.keep hk⟩
theorem LLR.below {w w' : World} {v : Value} {l : List (List Tok)} (h : LLR w v l) (hb : Below w.heap.size w w') : LLR w' v l :=
  h.keep fun p hp => by
    obtain ⟨u, hu⟩ := Option.isSome_iff_exists.1 hp
    exact hb.cell (World.block_lt_of_cell? w p hu)
theorem LLR.drewN {w : World} {v : Value} {l : List (List Tok)} (h : LLR w v l) (n : Nat) : LLR (w.drewN n) v l := h.keep fun p _ => by cases p; simp [go_sem]
theorem LLR.form {w : World} {v : Value} {l : List (List Tok)} (h : LLR w v l) : ∃ a cap, v = .slice a l.length cap := by
  rcases h with ⟨A, cap, rfl, rfl⟩ | ⟨_, _, _, rfl, _⟩
  · exact ⟨_, _, rfl⟩
  · exact ⟨_, _, rfl⟩
theorem add_le (als : List (List Tok)) (one : List Tok) : (addL als one).length ≤ als.length + 1 := by unfold addL; split <;> simp
theorem spF_le : ∀ (l : List Tok) (one : List Tok) (als : List (List Tok)), (spF l one als).length ≤ als.length + l.length + 1 := by
  intro l
  induction l with
  | nil => intro one als; exact add_le als one
  | cons t r ih =>
    intro one als
    rw [spF]
    split
    · have := ih [] (addL als one); have := add_le als one; simp only [List.length_cons]; omega
    · have := ih (one ++ [t]) als; simp only [List.length_cons]; omega
theorem tr_cells {w : World} {v : Value} {l : List Tok} (h : TR w v l) : ∃ a cap, v = .slice a l.length cap ∧ (l.length = 0 ∨ ∃ g off, a = some ⟨g, off, none⟩ ∧ l.length ≤ cap ∧ ∀ k (hk : k < l.length), w.cell? ⟨g, off + k * 3, none⟩ = some (.int .i64 l[k].1) ∧ w.cell? ⟨g, off + k * 3 + 1, none⟩ = some (.string l[k].2.1) ∧ w.cell? ⟨g, off + k * 3 + 2, none⟩ = some (.int .i64 l[k].2.2)) := by
  rcases h with ⟨A, cap, rfl, rfl⟩ | ⟨g, off, cap, rfl, hc, hx⟩
  · exact ⟨_, _, rfl, .inl rfl⟩
  · exact ⟨_, _, rfl, .inr ⟨g, off, rfl, hc, fun k hk => hx k l[k] (List.getElem?_eq_getElem hk)⟩⟩
theorem Below.tok2 {w w2 : World} (hb : Below w.heap.size w w2) (tx : ByteArray) (t : Tok) : Below w.heap.size w ((w2.setCell ⟨w.heap.size, 1, none⟩ (.string tx)).alloc (.cells #[.int .i64 t.1, .string t.2.1, .int .i64 t.2.2] 27)) :=
  (hb.setCell (p := ⟨w.heap.size, 1, none⟩) (Nat.le_refl _) _).alloc (by have := hb.size; simpa using this) _
theorem tok_cells1 (w : World) (n : Nat) (t : Tok) (hn : w.heap.size = n) : ∀ (j : Nat) (u : Value), (tokCells t)[j]? = some u → (w.alloc (.cells #[.int .i64 t.1, .string t.2.1, .int .i64 t.2.2] 27)).cell? ((⟨n, 0, none⟩ : Addr).add j) = some u := by
  subst hn; exact tok_cells w t
def SplP (w : World) (R : List (List Tok)) (e : Ending) (w' : World) : Prop := ∃ v, e = .returned v ∧ LLR w' v R ∧ Below w.heap.size w w'
end Go.Proofs.YtjloookjlnmgdaaGreatDoor
namespace Go.Proofs.YtjloookjlnmgdaaGreatDoor
open Go.ChangeShapes Go.WideShapes Go.ChangeAt Go.RowKit
set_option maxRecDepth 100000
set_option linter.unusedVariables false
set_option linter.unusedSimpArgs false

abbrev bb (l : Tx) : ByteArray := ⟨l.toArray⟩
theorem bb_app (a b : Tx) : bb a ++ bb b = bb (a ++ b) := by apply ByteArray.ext; simp
theorem bb_size (a : Tx) : (bb a).size = a.length := by show a.toArray.size = _; simp
theorem ext_one (s : ByteArray) (k : Nat) (hk : k < s.size) : s.extract k (k + 1) = bb [s.data.toList[k]'hk] := by
  apply ByteArray.ext
  apply Array.ext'
  rw [ByteArray.data_extract, Array.toList_extract]
  have h2 : k < s.data.toList.length := hk
  rw [List.extract_eq_take_drop, show k + 1 - k = 1 by omega, List.drop_eq_getElem_cons h2]
  simp
theorem dbl_take (q : UInt8) (l : Tx) (k : Nat) (hk : k < l.length) : dblL q (l.take (k + 1)) = dblL q (l.take k) ++ (if l[k] = q then [q, q] else [l[k]]) := by
  have e : l.take (k + 1) = l.take k ++ [l[k]] := by rw [List.take_add_one, List.getElem?_eq_getElem hk]; rfl
  rw [e]
  simp only [dblL, List.flatMap_append, List.flatMap_cons, List.flatMap_nil, List.append_nil]
end Go.Proofs.YtjloookjlnmgdaaGreatDoor
namespace Go.Proofs.YtjloookjlnmgdaaGreatDoor
open Go.ChangeShapes Go.WideShapes Go.ChangeAt Go.RowKit
set_option maxRecDepth 100000
set_option linter.unusedVariables false
set_option linter.unusedSimpArgs false

theorem starts_eq (s p : ByteArray) (a : Nat) (h : a + p.size ≤ s.size) : ((s.extract a (a + p.size)).toList == p.toList) = p.data.toList.isPrefixOf (s.data.toList.drop a) := by
  rw [ByteArray.toList_eq, ByteArray.toList_eq]
  have e : (s.extract a (a + p.size)).data.toList = (s.data.toList.drop a).take p.size := by
    rw [ByteArray.data_extract, Array.toList_extract, List.extract_eq_take_drop]
    congr 1
    omega
  rw [e]
  have hp : p.size = p.data.toList.length := rfl
  rw [hp]
  rw [Bool.eq_iff_iff, beq_iff_eq, List.isPrefixOf_iff_prefix, List.prefix_iff_eq_take]
  exact ⟨fun h => h.symm, fun h => h.symm⟩
theorem starts_short (s p : ByteArray) (a : Nat) (h : ¬ a + p.size ≤ s.size) (ha : a ≤ s.size) : p.data.toList.isPrefixOf (s.data.toList.drop a) = false := by
  rw [Bool.eq_false_iff]
  intro hh
  have := (List.isPrefixOf_iff_prefix.1 hh).length_le
  rw [List.length_drop] at this
  have hp : p.size = p.data.toList.length := rfl
  have hs : s.size = s.data.toList.length := rfl
  omega
theorem starts_any (s p : ByteArray) (a : Nat) (w : World) (hs : s.size ≤ 1048576) (hp : p.size ≤ 1048576) (ha : a ≤ s.size) :
    Calls Tryz.prog 73 #[.string s, .int .i64 (a : Int), .string p] w fun e w' => e = .returned (.bool (p.data.toList.isPrefixOf (s.data.toList.drop a))) ∧ w' = w := by
  have l0 : (0 : Int) ≤ (a : Int) := by omega
  obtain ⟨b, hb⟩ : ∃ b, a + p.size = b := ⟨_, rfl⟩
  have cw : IntKind.i64.wrap ((a : Int) + (p.size : Int)) = (b : Int) := by rw [show (a : Int) + (p.size : Int) = (b : Int) by omega]; exact IntWalk.i64_in _ (by omega)
  by_cases h : a + p.size ≤ s.size
  · have e := starts_eq s p a h
    rw [hb] at e
    rw [← e]
    have l1 : (a : Int) ≤ (b : Int) := by omega
    have l2 : (b : Int) ≤ (s.size : Int) := by omega
    have HB := Lib.hid hb
    clear hb e h
    go_enter Tryz.func73, Tryz.ntmps73
    go_wp2
    go_ret
    exact ⟨rfl, rfl⟩
  · rw [starts_short s p a h ha]
    have l2 : ¬ ((b : Int) ≤ (s.size : Int)) := by omega
    have HB := Lib.hid hb
    clear hb h
    go_enter Tryz.func73, Tryz.ntmps73
    go_wp2
    go_ret
    exact ⟨rfl, rfl⟩
/-- the byte at a place -/
theorem byte_at (s : ByteArray) (a : Nat) (h : a < s.size) : s.data.toList.drop a = s[a] :: s.data.toList.drop (a + 1) := List.drop_eq_getElem_cons (by exact h)
theorem rowL_cons (p : UInt8 → Bool) (c : UInt8) (r : Tx) : rowL p (c :: r) = if p c = true then rowL p r + 1 else 0 := by
  unfold rowL
  rw [List.takeWhile_cons]
  split <;> simp_all
/-- which bytes go on, for each kind that the document's own row asks -/
def rowB (k : Int) : UInt8 → Bool := if k = 1 then wordB else if k = 4 then numB else digB
set_option maxHeartbeats 1000000 in
set_option maxRecDepth 100000 in
theorem rrow_any (s : ByteArray) (a : Nat) (k : Int) (hk : k = 1 ∨ k = 4 ∨ k = 0) (w : World) (hs : s.size ≤ 1048576) (ha : a ≤ s.size) :
    Calls Tryz.prog 76 #[.string s, .int .i64 (a : Int), .int .i64 k] w fun e w' => e = .returned (.int .i64 ((a + rowL (rowB k) (s.data.toList.drop a) : Nat) : Int)) ∧ w' = w := by
  obtain ⟨R, hR⟩ : ∃ R, a + rowL (rowB k) (s.data.toList.drop a) = R := ⟨_, rfl⟩
  rw [hR]
  have HR := Lib.hid hR
  have HA := Lib.hid ha
  clear hR
  go_enter Tryz.func76, Tryz.ntmps76
  go_wp2
  go_loop [1] (fun u1 => ∃ i : Nat, i ≤ s.size ∧ u1 = .int .i64 i ∧ R = i + rowL (rowB k) (s.data.toList.drop i)) (fun u1 => s.size - (intOf u1).toNat)
  case atStart => exact ⟨a, HA.out, rfl, HR.out.symm⟩
  case round =>
    obtain ⟨i, hi, rfl, hv⟩ := hrel
    have HV := Lib.hid hv
    clear hv HR HA ha
    by_cases hlt : i < s.size
    · have l0 : (0 : Int) ≤ (i : Int) := by omega
      have l1 : (i : Int) < (s.size : Int) := by omega
      have hd := byte_at s i hlt
      have hv := HV.out
      rw [hd, rowL_cons] at hv
      clear HV hd
      obtain ⟨c, hc⟩ : ∃ c, s[i] = c := ⟨_, rfl⟩
      have hlet := fun w => rlet_any (c.toNat : Int) w
      have hdig := fun w => rdig_any (c.toNat : Int) w
      rw [hc] at hv
      have key : rowB k c = (digN (c.toNat : Int) || ((k == 1) && (letN (c.toNat : Int) || ((c.toNat : Int) == 36))) || ((k == 4) && ((c.toNat : Int) == 46))) := by
        rcases hk with rfl | rfl | rfl
        · show wordN (c.toNat : Int) = _
          unfold wordN
          cases letN (c.toNat : Int) <;> cases digN (c.toNat : Int) <;> simp
        · show numN (c.toNat : Int) = _
          unfold numN
          cases digN (c.toNat : Int) <;> simp
        · show digN (c.toNat : Int) = _
          cases digN (c.toNat : Int) <;> simp
      have HLET := Lib.hid hlet
      have HDIG := Lib.hid hdig
      have HV := Lib.hid hv
      obtain ⟨z, hz⟩ : ∃ z : Int, (c.toNat : Int) = z := ⟨_, rfl⟩
      have hci : ((s[i]'hlt).toNat : Int) = z := by rw [hc, hz]
      simp only [hz] at HLET HDIG key
      clear hlet hdig hv
      have HKEY := Lib.hid key
      clear key
      have HCI := Lib.hid hci
      generalize hbd : digN z = bd at *
      generalize hbl : letN z = bl at *
      have HBD := Lib.hid hbd
      have HBL := Lib.hid hbl
      clear hbd hbl
      rcases hk with rfl | rfl | rfl
      · cases bd with
        | true =>
          have hkk : rowB 1 c = true := by rw [HKEY.out]; simp
          have hv2 := HV.out
          rw [hkk] at hv2
          rw [if_pos rfl] at hv2
          have HV2 := Lib.hid hv2
          clear hkk hv2
          go_wp2_with (first
            | (go_at_call 78; (with_reducible refine (HDIG.out _).mono ?_); rintro e w1 ⟨rfl, hw1⟩; obtain rfl := hw1.symm)
            | (go_at_call 75; (with_reducible refine (HLET.out _).mono ?_); rintro e w1 ⟨rfl, hw1⟩; obtain rfl := hw1.symm))
          go_round
          case rel => exact ⟨i + 1, by omega, by go_num, by rw [HV2.out]; omega⟩
          case measure => simp [intOf]; omega
        | false =>
          cases bl with
          | true =>
            have hkk : rowB 1 c = true := by rw [HKEY.out]; simp
            have hv2 := HV.out
            rw [hkk] at hv2
            rw [if_pos rfl] at hv2
            have HV2 := Lib.hid hv2
            clear hkk hv2
            go_wp2_with (first
            | (go_at_call 78; (with_reducible refine (HDIG.out _).mono ?_); rintro e w1 ⟨rfl, hw1⟩; obtain rfl := hw1.symm)
            | (go_at_call 75; (with_reducible refine (HLET.out _).mono ?_); rintro e w1 ⟨rfl, hw1⟩; obtain rfl := hw1.symm))
            go_round
            case rel => exact ⟨i + 1, by omega, by go_num, by rw [HV2.out]; omega⟩
            case measure => simp [intOf]; omega
          | false =>
            by_cases h36 : z = 36
            · subst h36
              have hkk : rowB 1 c = true := by rw [HKEY.out]; simp
              have hv2 := HV.out
              rw [hkk] at hv2
              rw [if_pos rfl] at hv2
              have HV2 := Lib.hid hv2
              clear hkk hv2
              go_wp2_with (first
            | (go_at_call 78; (with_reducible refine (HDIG.out _).mono ?_); rintro e w1 ⟨rfl, hw1⟩; obtain rfl := hw1.symm)
            | (go_at_call 75; (with_reducible refine (HLET.out _).mono ?_); rintro e w1 ⟨rfl, hw1⟩; obtain rfl := hw1.symm))
              go_round
              case rel => exact ⟨i + 1, by omega, by go_num, by rw [HV2.out]; omega⟩
              case measure => simp [intOf]; omega
            · have e36 : (z == (36 : Int)) = false := by rw [beq_eq_false_iff_ne]; exact h36
              clear h36
              have hkk : rowB 1 c = false := by rw [HKEY.out]; simp [e36]
              have hv2 := HV.out
              rw [hkk] at hv2
              rw [if_neg (by decide)] at hv2
              have HV2 := Lib.hid hv2
              clear hkk hv2
              go_wp2_with (first
            | (go_at_call 78; (with_reducible refine (HDIG.out _).mono ?_); rintro e w1 ⟨rfl, hw1⟩; obtain rfl := hw1.symm)
            | (go_at_call 75; (with_reducible refine (HLET.out _).mono ?_); rintro e w1 ⟨rfl, hw1⟩; obtain rfl := hw1.symm))
              go_ret
              exact ⟨by rw [HV2.out]; rfl, rfl⟩
      · cases bd with
        | true =>
          have hkk : rowB 4 c = true := by rw [HKEY.out]; simp
          have hv2 := HV.out
          rw [hkk] at hv2
          rw [if_pos rfl] at hv2
          have HV2 := Lib.hid hv2
          clear hkk hv2
          go_wp2_with (first
            | (go_at_call 78; (with_reducible refine (HDIG.out _).mono ?_); rintro e w1 ⟨rfl, hw1⟩; obtain rfl := hw1.symm)
            | (go_at_call 75; (with_reducible refine (HLET.out _).mono ?_); rintro e w1 ⟨rfl, hw1⟩; obtain rfl := hw1.symm))
          go_round
          case rel => exact ⟨i + 1, by omega, by go_num, by rw [HV2.out]; omega⟩
          case measure => simp [intOf]; omega
        | false =>
          by_cases h46 : z = 46
          · subst h46
            have hkk : rowB 4 c = true := by rw [HKEY.out]; simp
            have hv2 := HV.out
            rw [hkk] at hv2
            rw [if_pos rfl] at hv2
            have HV2 := Lib.hid hv2
            clear hkk hv2
            go_wp2_with (first
            | (go_at_call 78; (with_reducible refine (HDIG.out _).mono ?_); rintro e w1 ⟨rfl, hw1⟩; obtain rfl := hw1.symm)
            | (go_at_call 75; (with_reducible refine (HLET.out _).mono ?_); rintro e w1 ⟨rfl, hw1⟩; obtain rfl := hw1.symm))
            go_round
            case rel => exact ⟨i + 1, by omega, by go_num, by rw [HV2.out]; omega⟩
            case measure => simp [intOf]; omega
          · have e46 : (z == (46 : Int)) = false := by rw [beq_eq_false_iff_ne]; exact h46
            clear h46
            have hkk : rowB 4 c = false := by rw [HKEY.out]; simp [e46]
            have hv2 := HV.out
            rw [hkk] at hv2
            rw [if_neg (by decide)] at hv2
            have HV2 := Lib.hid hv2
            clear hkk hv2
            go_wp2_with (first
            | (go_at_call 78; (with_reducible refine (HDIG.out _).mono ?_); rintro e w1 ⟨rfl, hw1⟩; obtain rfl := hw1.symm)
            | (go_at_call 75; (with_reducible refine (HLET.out _).mono ?_); rintro e w1 ⟨rfl, hw1⟩; obtain rfl := hw1.symm))
            go_ret
            exact ⟨by rw [HV2.out]; rfl, rfl⟩
      · cases bd with
        | true =>
          have hkk : rowB 0 c = true := by rw [HKEY.out]; simp
          have hv2 := HV.out
          rw [hkk] at hv2
          rw [if_pos rfl] at hv2
          have HV2 := Lib.hid hv2
          clear hkk hv2
          go_wp2_with (first
            | (go_at_call 78; (with_reducible refine (HDIG.out _).mono ?_); rintro e w1 ⟨rfl, hw1⟩; obtain rfl := hw1.symm)
            | (go_at_call 75; (with_reducible refine (HLET.out _).mono ?_); rintro e w1 ⟨rfl, hw1⟩; obtain rfl := hw1.symm))
          go_round
          case rel => exact ⟨i + 1, by omega, by go_num, by rw [HV2.out]; omega⟩
          case measure => simp [intOf]; omega
        | false =>
          have hkk : rowB 0 c = false := by rw [HKEY.out]; simp
          have hv2 := HV.out
          rw [hkk] at hv2
          rw [if_neg (by decide)] at hv2
          have HV2 := Lib.hid hv2
          clear hkk hv2
          go_wp2_with (first
            | (go_at_call 78; (with_reducible refine (HDIG.out _).mono ?_); rintro e w1 ⟨rfl, hw1⟩; obtain rfl := hw1.symm)
            | (go_at_call 75; (with_reducible refine (HLET.out _).mono ?_); rintro e w1 ⟨rfl, hw1⟩; obtain rfl := hw1.symm))
          go_ret
          exact ⟨by rw [HV2.out]; rfl, rfl⟩
    · have l1 : ¬ ((i : Int) < (s.size : Int)) := by omega
      have hd : s.data.toList.drop i = [] := List.drop_eq_nil_of_le (by have : s.size = s.data.toList.length := rfl; omega)
      have hv := HV.out
      rw [hd] at hv
      have HV2 := Lib.hid hv
      clear hv hd HV
      go_wp2
      go_ret
      exact ⟨by rw [HV2.out]; rfl, rfl⟩
end Go.Proofs.YtjloookjlnmgdaaGreatDoor
namespace Go.Proofs.YtjloookjlnmgdaaGreatDoor
open Go.ChangeShapes Go.WideShapes Go.ChangeAt Go.RowKit
set_option maxRecDepth 100000
set_option linter.unusedVariables false
set_option linter.unusedSimpArgs false

theorem pfx2 (x y : UInt8) (l : Tx) : ([x, y].isPrefixOf l = true) ↔ l.take 2 = [x, y] := by
  rw [List.isPrefixOf_iff_prefix, List.prefix_iff_eq_take]
  exact ⟨fun h => h.symm, fun h => h.symm⟩
theorem pfx2_no (x y : UInt8) (l : Tx) : ([x, y].isPrefixOf l = false) ↔ l.take 2 ≠ [x, y] := by
  rw [← Bool.not_eq_true, pfx2]
theorem len2 (x y : UInt8) (s : ByteArray) (a : Nat) (h : (s.data.toList.drop a).take 2 = [x, y]) : a + 2 ≤ s.size := by
  have := congrArg List.length h
  rw [List.length_take, List.length_drop, ← Lib.size_eq] at this
  simp only [List.length_cons, List.length_nil] at this; omega
theorem remL_open (s : ByteArray) (d a : Nat) (h : (s.data.toList.drop a).take 2 = [47, 42]) : (remL (d + 1) (s.data.toList.drop a)).map (· + a) = (remL (d + 2) (s.data.toList.drop (a + 2))).map (· + (a + 2)) := by
  have hl := len2 _ _ s a h
  obtain ⟨c, hc⟩ := drop_cons_ s.data.toList a (by rw [← Lib.size_eq]; omega)
  rw [hc, remL, ← hc, if_pos h, map_add _ _ _ (a + 2) (by omega), List.drop_drop]
theorem remL_shut (s : ByteArray) (d a : Nat) (h : (s.data.toList.drop a).take 2 = [42, 47]) : (remL (d + 1) (s.data.toList.drop a)).map (· + a) = (remL d (s.data.toList.drop (a + 2))).map (· + (a + 2)) := by
  have hl := len2 _ _ s a h
  obtain ⟨c, hc⟩ := drop_cons_ s.data.toList a (by rw [← Lib.size_eq]; omega)
  rw [hc, remL, ← hc, if_neg (by rw [h]; decide), if_pos h, map_add _ _ _ (a + 2) (by omega), List.drop_drop]
theorem remL_on (s : ByteArray) (d a : Nat) (hl : a < s.size) (h1 : (s.data.toList.drop a).take 2 ≠ [47, 42]) (h2 : (s.data.toList.drop a).take 2 ≠ [42, 47]) : (remL (d + 1) (s.data.toList.drop a)).map (· + a) = (remL (d + 1) (s.data.toList.drop (a + 1))).map (· + (a + 1)) := by
  obtain ⟨c, hc⟩ := drop_cons_ s.data.toList a (by rw [← Lib.size_eq]; omega)
  rw [hc, remL, ← hc, if_neg h1, if_neg h2, map_add _ _ _ (a + 1) (by omega)]
/-- where a remark that begins at a place ends -/
def remAt (s : ByteArray) (a : Nat) : Option Nat := (remL 1 (s.data.toList.drop (a + 2))).map (· + (a + 2))
set_option maxHeartbeats 1000000 in
theorem rremark_any (s : ByteArray) (a0 : Nat) (w : World) (hs : s.size ≤ 1048000) (h0 : (s.data.toList.drop a0).take 2 = [47, 42]) :
    Calls Tryz.prog 74 #[.string s, .int .i64 (a0 : Int)] w fun e w' => e = .returned (.int .i64 (remI (remAt s a0))) ∧ w' = w := by
  have hst := fun a p ha hp w => starts_any s p a w (by omega) hp ha
  obtain ⟨R, hR⟩ : ∃ R, remAt s a0 = R := ⟨_, rfl⟩
  rw [hR]
  have HST := Lib.hid hst
  have HR := Lib.hid hR
  have H0 := Lib.hid h0
  have HL0 := Lib.hid (len2 _ _ s a0 h0)
  clear hst hR h0
  go_enter Tryz.func74, Tryz.ntmps74
  go_wp2
  go_loop [1, 5] (fun u1 u5 => ∃ a d : Nat, a ≤ s.size ∧ d ≤ a ∧ u1 = .int .i64 a ∧ u5 = .int .i64 d ∧ ((d = 0 ∧ a = a0) ∨ (0 < d ∧ R = (remL d (s.data.toList.drop a)).map (· + a)))) (fun u1 _ => s.size - (intOf u1).toNat)
  case atStart => exact ⟨a0, 0, by have := HL0.out; omega, Nat.zero_le _, rfl, rfl, .inl ⟨rfl, rfl⟩⟩
  case round =>
    obtain ⟨a, d, ha, hda, rfl, rfl, hv⟩ := hrel
    have HV := Lib.hid hv
    clear hv
    by_cases hlt : a < s.size
    · have l1 : (a : Int) < (s.size : Int) := by omega
      have hst1 : ∀ w, Calls Tryz.prog 73 #[.string s, .int .i64 (a : Int), .string ⟨#[47, 42]⟩] w fun e w' => e = .returned (.bool ([47, 42].isPrefixOf (s.data.toList.drop a))) ∧ w' = w := fun w => HST.out a ⟨#[47, 42]⟩ ha (by show 2 ≤ _; omega) w
      have hst2 : ∀ w, Calls Tryz.prog 73 #[.string s, .int .i64 (a : Int), .string ⟨#[42, 47]⟩] w fun e w' => e = .returned (.bool ([42, 47].isPrefixOf (s.data.toList.drop a))) ∧ w' = w := fun w => HST.out a ⟨#[42, 47]⟩ ha (by show 2 ≤ _; omega) w
      obtain ⟨a2, ha2⟩ : ∃ a2, a + 2 = a2 := ⟨_, rfl⟩
      obtain ⟨a1, ha1⟩ : ∃ a1, a + 1 = a1 := ⟨_, rfl⟩
      obtain ⟨d1, hd1⟩ : ∃ d1, d + 1 = d1 := ⟨_, rfl⟩
      have cw2 : IntKind.i64.wrap ((a : Int) + 2) = (a2 : Int) := by rw [show (a : Int) + 2 = (a2 : Int) by omega]; exact IntWalk.i64_in _ (by omega)
      have cw1 : IntKind.i64.wrap ((a : Int) + 1) = (a1 : Int) := by rw [show (a : Int) + 1 = (a1 : Int) by omega]; exact IntWalk.i64_in _ (by omega)
      have cwd : IntKind.i64.wrap ((d : Int) + 1) = (d1 : Int) := by rw [show (d : Int) + 1 = (d1 : Int) by omega]; exact IntWalk.i64_in _ (by omega)
      have HA2 := Lib.hid ha2
      have HA1 := Lib.hid ha1
      have HD1 := Lib.hid hd1
      clear ha2 ha1 hd1
      cases h1 : ([47, 42] : Tx).isPrefixOf (s.data.toList.drop a) with
      | true =>
        rw [h1] at hst1
        have HS1 := Lib.hid hst1
        have h1' := (pfx2 _ _ _).1 h1
        have hle := len2 _ _ s a h1'
        have hn : R = (remL (d + 1) (s.data.toList.drop (a + 2))).map (· + (a + 2)) := by
          rcases HV.out with ⟨rfl, rfl⟩ | ⟨hp, hv⟩
          · rw [← HR.out]; rfl
          · obtain ⟨e, rfl⟩ : ∃ e, d = e + 1 := ⟨d - 1, by omega⟩
            rw [hv, remL_open s e a h1']
        have HN := Lib.hid hn
        clear hst1 hst2 h1 h1' hn
        go_wp2_with (go_at_call 73; (with_reducible refine (HS1.out _).mono ?_); rintro e w1 ⟨rfl, hw1⟩; obtain rfl := hw1.symm)
        go_round
        case rel => exact ⟨a2, d1, by have := HA2.out; omega, by have := HA2.out; have := HD1.out; omega, rfl, rfl, .inr ⟨by have := HD1.out; omega, by rw [← HA2.out, ← HD1.out]; exact HN.out⟩⟩
        case measure => have := HA2.out; simp [intOf]; omega
      | false =>
        rw [h1] at hst1
        have HS1 := Lib.hid hst1
        have h1' := (pfx2_no _ _ _).1 h1
        have hd0 : 0 < d ∧ R = (remL d (s.data.toList.drop a)).map (· + a) := by
          rcases HV.out with ⟨rfl, rfl⟩ | h
          · exact absurd H0.out h1'
          · exact h
        obtain ⟨hp, hv⟩ := hd0
        obtain ⟨d0, hd0⟩ : ∃ e, d = e + 1 := ⟨d - 1, by omega⟩
        clear HV h1 hst1
        cases h2 : ([42, 47] : Tx).isPrefixOf (s.data.toList.drop a) with
        | true =>
          rw [h2] at hst2
          have HS2 := Lib.hid hst2
          have h2' := (pfx2 _ _ _).1 h2
          have hle := len2 _ _ s a h2'
          have hn : R = (remL d0 (s.data.toList.drop (a + 2))).map (· + (a + 2)) := by rw [hv, hd0, remL_shut s d0 a h2']
          have cwm : IntKind.i64.wrap ((d : Int) - 1) = (d0 : Int) := by rw [show (d : Int) - 1 = (d0 : Int) by omega]; exact IntWalk.i64_in _ (by omega)
          have HN := Lib.hid hn
          have HD0 := Lib.hid hd0
          clear hst2 h2 h2' hn hv hd0 h1'
          by_cases hz : d0 = 0
          · subst hz
            have hn2 : remI R = (a2 : Int) := by rw [HN.out]; rw [remL]; show ((0 + (a + 2) : Nat) : Int) = _; have := HA2.out; omega
            have HN2 := Lib.hid hn2
            have cwm0 : IntKind.i64.wrap ((d : Int) - 1) = 0 := cwm
            clear cwm hn2
            go_wp2_with (first
              | (go_at_call 73; (with_reducible refine (HS1.out _).mono ?_); rintro e w1 ⟨rfl, hw1⟩; obtain rfl := hw1.symm)
              | (go_at_call 73; (with_reducible refine (HS2.out _).mono ?_); rintro e w1 ⟨rfl, hw1⟩; obtain rfl := hw1.symm))
            go_ret
            exact ⟨by rw [HN2.out]; rfl, rfl⟩
          · have hz2 : ((d0 : Int) == 0) = false := by rw [beq_eq_false_iff_ne]; omega
            go_wp2_with (first
              | (go_at_call 73; (with_reducible refine (HS1.out _).mono ?_); rintro e w1 ⟨rfl, hw1⟩; obtain rfl := hw1.symm)
              | (go_at_call 73; (with_reducible refine (HS2.out _).mono ?_); rintro e w1 ⟨rfl, hw1⟩; obtain rfl := hw1.symm))
            go_round
            case rel => exact ⟨a2, d0, by have := HA2.out; omega, by have := HA2.out; have := HD0.out; omega, rfl, rfl, .inr ⟨by omega, by rw [← HA2.out]; exact HN.out⟩⟩
            case measure => have := HA2.out; simp [intOf]; omega
        | false =>
          rw [h2] at hst2
          have HS2 := Lib.hid hst2
          have h2' := (pfx2_no _ _ _).1 h2
          have hn : R = (remL d (s.data.toList.drop (a + 1))).map (· + (a + 1)) := by rw [hv, hd0, remL_on s d0 a hlt h1' h2']
          have HN := Lib.hid hn
          clear hst2 h2 h2' hn hv hd0 h1'
          go_wp2_with (first
            | (go_at_call 73; (with_reducible refine (HS1.out _).mono ?_); rintro e w1 ⟨rfl, hw1⟩; obtain rfl := hw1.symm)
            | (go_at_call 73; (with_reducible refine (HS2.out _).mono ?_); rintro e w1 ⟨rfl, hw1⟩; obtain rfl := hw1.symm))
          go_round
          case rel => exact ⟨a1, d, by have := HA1.out; omega, by have := HA1.out; omega, rfl, rfl, .inr ⟨hp, by rw [← HA1.out]; exact HN.out⟩⟩
          case measure => have := HA1.out; simp [intOf]; omega
    · have l1 : ¬ ((a : Int) < (s.size : Int)) := by omega
      have hd : s.data.toList.drop a = [] := List.drop_eq_nil_of_le (by have : s.size = s.data.toList.length := rfl; omega)
      have hn : R = none := by
        rcases HV.out with ⟨rfl, rfl⟩ | ⟨hp, hv⟩
        · have := HL0.out; omega
        · obtain ⟨e, rfl⟩ : ∃ e, d = e + 1 := ⟨d - 1, by omega⟩
          rw [hv, hd, remL]; rfl
      have HN := Lib.hid hn
      clear hd hn HV HR
      go_wp2
      go_ret
      exact ⟨by rw [HN.out]; rfl, rfl⟩
end Go.Proofs.YtjloookjlnmgdaaGreatDoor
