/- What package front's reader does with pairs, a first body, and a bind's. Condition: the body is of at most 2^40 bytes.
   What package front's reader does with a first body, and with a bind's. Condition: the body is of at most 2^40 bytes.
   What package front's kinds answers: a map of eleven kinds, in new memory; how it is looked up.
   What package front's Decode answers, for every message: what is asked, or why not; below the memory that was there nothing turns. Condition: the body is of at most 2^40 bytes.
   What package front's Decode answers, for every message: what is asked, or why not; below the memory that was there nothing turns. Condition: the body is of at most 2^40 bytes. -/
import Derived.Test.YtojgeilihoilnaaM3
import Derived.Deep.RegionLaw
import Derived.Maps.Own
import Derived.Laws.EntriesVeiled
import Derived.Test.YtojgeilihoilnaaM2
import Derived.Deep.MidRow
set_option linter.unusedSimpArgs false
set_option linter.unusedVariables false
namespace Go.Proofs.Ytojgeilihoilnaa
open Go.ChangeShapes Go.WideShapes Go.ChangeAt Go.RowKit
set_option linter.unusedVariables false
attribute [local go_sem ↓] Go.wp_at_zero Go.wp_at_succ

theorem infoS : (Try.prog.info? 9).map (fun i => (i.zero, i.size, i.bytes)) = some (some (.string ⟨#[]⟩), 1, 16) := by kernel_rfl
theorem infoB : (Try.prog.info? 4).map (fun i => (i.zero, i.size, i.bytes)) = some (some (.bool false), 1, 1) := by kernel_rfl
theorem infoI : (Try.prog.info? 3).map (fun i => (i.zero, i.size, i.bytes)) = some (some (.int .i64 0), 1, 8) := by kernel_rfl

theorem strs_snoc (l : List Tx) (t : Tx) : strs l ++ [.string (ba t)] = strs (l ++ [t]) := by simp [strs]
theorem bools_snoc (l : List Bool) (t : Bool) : bools l ++ [.bool t] = bools (l ++ [t]) := by simp [bools]
theorem ints_snoc (l : List Int) (t : Int) : ints l ++ [.int .i64 t] = ints (l ++ [t]) := by simp [ints]
theorem strs_len (l : List Tx) : (strs l).length = l.length := by simp [strs]
theorem bools_len (l : List Bool) : (bools l).length = l.length := by simp [bools]
theorem ints_len (l : List Int) : (ints l).length = l.length := by simp [ints]
theorem one_cell (B : Nat) (w : World) (t : TypeId) (v : Value) (hb : Blk w B t #[v]) : ∀ j u, [v][j]? = some u → w.cell? ((⟨B, 0, none⟩ : Addr).add j) = some u := by
  intro j u hj
  rw [Addr.add_lit, hb.cell]
  simpa using hj
theorem AI.blkg {R A : Nat} {s : ByteArray} {w0 w w' : World} {a : Ask} {l : Tx} {x : Bool} {kv vv av nv fv : Value} (h : AI R A s w0 a l x kv vv av nv fv w) (r : Nat) (v : Value) (T : TypeId) (xs : List Value) (hi : (rowsOf a kv vv av nv fv)[r]? = some (v, T, xs)) (hg : w.grownBy w' v.ownBlock) :
    Blk w' A 29 (askV a kv vv av nv fv) := by
  refine h.blk.grown hg (fun e => ?_)
  have := (World.ownsRow.lt (h.rows.own r _ hi) A e.symm).1
  have := h.lA
  omega

section
variable {R A : Nat} {s : ByteArray} {w0 w : World} {a : Ask} {l : Tx} {x : Bool} {kv vv av nv fv : Value}
/-- one element is appended to a row of what is asked: at the operation -/
theorem AI.law (h : AI R A s w0 a l x kv vv av nv fv w) {ops : Array Oper} {rest : List Oper} {o : Oper} {ac : Act} {Q : Exit → Act → World → Prop} (hgd : o.guard = none) (sl xo : Operand) (t : TypeId)
    (ho : o.op = .call { callee := .builtin .append, args := #[sl, xo], argTypes := #[t, t] }) (r : Nat) (v : Value) (T : TypeId) (xs : List Value) (hi : (rowsOf a kv vv av nv fv)[r]? = some (v, T, xs))
    (ti : TypeInfo) (z : Value) (bytes : Nat) (ht : Try.prog.underlying t = some (.slice T)) (hti : Try.prog.info? T = some ti) (hz : ti.zero = some z) (hsize : ti.size = 1) (hby : ti.bytes = bytes) (hzs : z.cells.size = 1) (hb : bytes ≤ 16)
    (y : Value) (hy : y.oneCell' = true) (hn : xs.length ≤ 1099511627776) (i : Nat) (hc : (askV a kv vv av nv fv)[i]? = some v) (hsv : ac.eval sl = v) (hxv : ac.eval xo = .slice (some ⟨w.heap.size, 0, none⟩) 1 1)
    (hK : ∀ g cap w2, w2.frozen? ⟨A, i, none⟩ = false → w2.cell? ⟨A, i, none⟩ = some v →
      (∀ (a' : Ask) (kv' vv' av' nv' fv' : Value), (askV a kv vv av nv fv).setIfInBounds i (.slice (some ⟨g, 0, none⟩) (xs.length + 1) cap) = askV a' kv' vv' av' nv' fv' →
        (rowsOf a kv vv av nv fv).set r ((.slice (some ⟨g, 0, none⟩) (xs.length + 1) cap), T, xs ++ [y]) = rowsOf a' kv' vv' av' nv' fv' →
        AI R A s w0 a' l x kv' vv' av' nv' fv' (w2.setCell ⟨A, i, none⟩ (.slice (some ⟨g, 0, none⟩) (xs.length + 1) cap))) →
      wpList Try.prog ops Q rest (ac.put o.dst (.slice (some ⟨g, 0, none⟩) (xs.length + 1) cap)) w2) : wpList Try.prog ops Q (o :: rest) ac (w.alloc (.cells #[y] T)) := by
  have hI := h.alloc (.cells #[y] T)
  refine wpList_append_lies _ hgd sl xo t ho w0.heap.size T ti z 1 bytes ht hti hz hsize hby hzs (by decide) v xs.length xs hsv (hI.own r v T xs hi) ⟨w.heap.size, 0, none⟩ 1 1 [y] hxv rfl
    (one_cell _ _ _ _ (Blk.new w T #[y])) (by intro u hu; rw [List.mem_singleton.1 hu]; exact hy) (by decide) (by unfold maxLen; omega) (Nat.le_trans (Nat.mul_le_mul_left _ hb) (by omega)) hI.kp.size (w.heap.size + 1) (by simp) ?_
  intro g cap w2 h2 h3 h4 h5
  have hb := hI.blkg r v T xs hi h3
  exact hK g cap w2 (hb.frozen i) ((hb.cell i).trans hc) (fun a' kv' vv' av' nv' fv' he hr => hI.push r v T xs hi g cap y h2 h3 (w.heap.size + 1) (by simp) h4 i a' kv' vv' av' nv' fv' he hr)
/-- the same at a step of a region that draws its order -/
theorem AI.step (h : AI R A s w0 a l x kv vv av nv fv w) {ops : Array Oper} {o : Oper} {ac : Act} {K : Act → World → Prop} {Q : Exit → Act → World → Prop} {E : Prop} (hgd : o.guard = none) (sl xo : Operand) (t : TypeId)
    (ho : o.op = .call { callee := .builtin .append, args := #[sl, xo], argTypes := #[t, t] }) (r : Nat) (v : Value) (T : TypeId) (xs : List Value) (hi : (rowsOf a kv vv av nv fv)[r]? = some (v, T, xs))
    (ti : TypeInfo) (z : Value) (bytes : Nat) (ht : Try.prog.underlying t = some (.slice T)) (hti : Try.prog.info? T = some ti) (hz : ti.zero = some z) (hsize : ti.size = 1) (hby : ti.bytes = bytes) (hzs : z.cells.size = 1) (hb : bytes ≤ 16)
    (y : Value) (hy : y.oneCell' = true) (hn : xs.length ≤ 1099511627776) (i : Nat) (hc : (askV a kv vv av nv fv)[i]? = some v) (hsv : ac.eval sl = v) (hxv : ac.eval xo = .slice (some ⟨w.heap.size, 0, none⟩) 1 1)
    (hK : ∀ g cap w2, w2.frozen? ⟨A, i, none⟩ = false → w2.cell? ⟨A, i, none⟩ = some v →
      (∀ (a' : Ask) (kv' vv' av' nv' fv' : Value), (askV a kv vv av nv fv).setIfInBounds i (.slice (some ⟨g, 0, none⟩) (xs.length + 1) cap) = askV a' kv' vv' av' nv' fv' →
        (rowsOf a kv vv av nv fv).set r ((.slice (some ⟨g, 0, none⟩) (xs.length + 1) cap), T, xs ++ [y]) = rowsOf a' kv' vv' av' nv' fv' →
        AI R A s w0 a' l x kv' vv' av' nv' fv' (w2.setCell ⟨A, i, none⟩ (.slice (some ⟨g, 0, none⟩) (xs.length + 1) cap))) →
      K (ac.put o.dst (.slice (some ⟨g, 0, none⟩) (xs.length + 1) cap)) w2) : if Region.wanted o (yielded ops ac.tmps) = true then Oper.wp Try.prog o ac (w.alloc (.cells #[y] T)) K Q else E := by
  have hI := h.alloc (.cells #[y] T)
  refine step_append_lies _ hgd sl xo t ho w0.heap.size T ti z 1 bytes ht hti hz hsize hby hzs (by decide) v xs.length xs hsv (hI.own r v T xs hi) ⟨w.heap.size, 0, none⟩ 1 1 [y] hxv rfl
    (one_cell _ _ _ _ (Blk.new w T #[y])) (by intro u hu; rw [List.mem_singleton.1 hu]; exact hy) (by decide) (by unfold maxLen; omega) (Nat.le_trans (Nat.mul_le_mul_left _ hb) (by omega)) hI.kp.size (w.heap.size + 1) (by simp) ?_
  intro g cap w2 h2 h3 h4 h5
  have hb := hI.blkg r v T xs hi h3
  exact hK g cap w2 (hb.frozen i) ((hb.cell i).trans hc) (fun a' kv' vv' av' nv' fv' he hr => hI.push r v T xs hi g cap y h2 h3 (w.heap.size + 1) (by simp) h4 i a' kv' vv' av' nv' fv' he hr)
end
def lenC : Option Value → Nat
  | some (.slice _ n _) => n
  | _ => 0
/-- what holds while pairs are read: k is the next key -/
def PR (R A : Nat) (s : ByteArray) (w0 : World) (a : Ask) (N : Nat) (F : List Tx × List Tx × Tx × Bool) (k : Tx) (wr : World) : Prop :=
  ∃ l x ks vs kv vv av nv fv, AI R A s w0 { a with keys := ks, vals := vs } l x kv vv av nv fv wr ∧ (k ≠ [] → ks.length + l.length < N) ∧ ks.length ≤ N ∧ ks.length = vs.length ∧
    F = (ks ++ (pairsP k l x).1, vs ++ (pairsP k l x).2.1, (pairsP k l x).2.2)

set_option maxHeartbeats 1000000 in
set_option maxRecDepth 100000 in
theorem rpairs_any (R A : Nat) (s : ByteArray) (w0 : World) (a : Ask) (l : Tx) (x : Bool) (kv vv av nv fv : Value) (w : World) (h : AI R A s w0 a l x kv vv av nv fv w) (hs : s.size ≤ 1099511627776) (hk0 : a.keys = []) (hv0 : a.vals = []) :
    Calls Try.prog 56 #[.pointer (some ⟨R, 0, none⟩), .pointer (some ⟨A, 0, none⟩)] w
      (AiP R A s w0 ({ a with keys := (pairsP (rdT l x).1 (rdT l x).2.1 (rdT l x).2.2).1, vals := (pairsP (rdT l x).1 (rdT l x).2.1 (rdT l x).2.2).2.1 }, (pairsP (rdT l x).1 (rdT l x).2.1 (rdT l x).2.2).2.2.1,
        (pairsP (rdT l x).1 (rdT l x).2.1 (rdT l x).2.2).2.2.2 || !decide ((pairsP (rdT l x).1 (rdT l x).2.1 (rdT l x).2.2).1.length ≤ 100))) := by
  obtain ⟨iS, hiS, hzS0, hzS1, hzS2⟩ := info_parts infoS
  have hN : l.length ≤ 1099511627776 := Nat.le_trans h.rd.len hs
  have hlt := rdT_less l x
  generalize hF : pairsP (rdT l x).1 (rdT l x).2.1 (rdT l x).2.2 = F
  have d1 := fun w h => rtext_any R s w l x h hs
  obtain ⟨k1, l1, x1, e1⟩ := trip (rdT l x)
  rw [e1] at d1 hF hlt
  simp only at hF hlt
  clear e1
  have HF := Lib.hid hF
  have HK := Lib.hid hk0
  have HV := Lib.hid hv0
  have HL := Lib.hid hlt
  clear hF hk0 hv0 hlt
  go_enter Try.func56, Try.ntmps56
  go_wp2_with fail
  refine (d1 _ h.rd).mono ?_; rintro e w1 ⟨rfl, hr1, hk1⟩
  have h1 := h.read hr1 hk1
  clear hr1 hk1 h
  go_wp2
  go_loopw [4] (fun key wr => ∃ k, key = .string (ba k) ∧ PR R A s w0 a l.length F k wr) (fun _ wr => l.length + 1 - lenC (wr.cell? ⟨A, 4, none⟩))
  case atStart =>
    refine ⟨k1, rfl, l1, x1, [], [], kv, vv, av, nv, fv, ?_, fun hk => by simpa using HL.out hk, by simp, rfl, by rw [HF.out]; simp⟩
    have e : ({ a with keys := [], vals := [] } : Ask) = a := by have e1 := HK.out; have e2 := HV.out; cases a; simp only at e1 e2; rw [e1, e2]
    rw [e]; exact h1
  case round =>
    obtain ⟨k, rfl, l, x, ks, vs, kv, vv, av, nv, fv, hi, hm, hl, hkv, hF⟩ := hrel
    clear h1 HF HL HK HV
    by_cases hk : k = []
    · subst hk
      rw [pairsP_nil] at hF
      simp only [List.append_nil] at hF
      obtain ⟨A4, c4, rfl, hc1, hc2⟩ := (LR.own (hi.own 0 _ _ _ rfl)).form
      have hL : (strs ks).length = ks.length := strs_len ks
      rw [hL] at hi hc1
      have q4 : wr.cell? ⟨A, 4, none⟩ = some (.slice A4 ks.length c4) := hi.cell 4
      have hb : (x || !decide ((ks.length : Int) ≤ 100)) = (x || !decide (ks.length ≤ 100)) := by
        have : decide ((ks.length : Int) ≤ 100) = decide (ks.length ≤ 100) := by rw [Bool.eq_iff_iff]; simp; omega
        rw [this]
      have HF := Lib.hid hF
      have HB := Lib.hid hb
      clear hF hb hm hkv hL hc1 hc2
      rw [show ba [] = ⟨#[]⟩ from rfl]
      go_wp2_with fail
      refine (need_any R s _ _ _ _ hi.rd).mono ?_; rintro e w2 ⟨rfl, hr2, hk2⟩
      have h2 := hi.read hr2 hk2
      go_wp2
      go_end0
      rw [HF.out]
      rw [HB.out] at h2
      exact ⟨rfl, _, _, _, _, _, h2⟩
    · have hm' := hm hk
      have t1 : (ba k).toList.isEmpty = false := by rw [Lib.toList_data, ba_list]; simpa using hk
      have hn : (strs ks).length < 1099511627776 := by rw [strs_len]; omega
      have HF := Lib.hid hF
      have HM := Lib.hid hm
      have HM' := Lib.hid hm'
      have HKV := Lib.hid hkv
      have HE := Lib.hid hk
      clear hF hm hkv hk hm'
      have q4 : wr.cell? ⟨A, 4, none⟩ = some kv := hi.cell 4
      go_wp2_with (at_builtin; refine hi.law rfl _ _ _ rfl 0 kv 9 (strs ks) rfl iS _ 16 Try.underlying25 hiS hzS0 hzS1 hzS2 rfl (by decide) (.string (ba k)) rfl (by omega) 4 rfl (by rfl) (by rfl) ?_; intro g cap w2 f4 c4 hst; have HS := Lib.hid hst; clear hst)
      have h2 := HS.out { a with keys := ks ++ [k], vals := vs } (.slice (some ⟨g, 0, none⟩) ((strs ks).length + 1) cap) vv av nv fv rfl (by rw [strs_snoc]; rfl)
      have HQ : Hid (lenC (wr.cell? ⟨A, 4, none⟩) = ks.length) := Lib.hid (by
        obtain ⟨A4, c4', e, _, _⟩ := (LR.own (hi.own 0 _ _ _ rfl)).form
        rw [q4, e]; simp [lenC, strs_len])
      clear HS hi f4 c4 q4
      obtain ⟨kv2, hkv2⟩ : ∃ v, v = Value.slice (some ⟨g, 0, none⟩) ((strs ks).length + 1) cap := ⟨_, rfl⟩
      rw [← hkv2] at h2 ⊢
      have HK2 := Lib.hid hkv2
      clear hkv2
      generalize w2.setCell ⟨A, 4, none⟩ kv2 = w3 at *
      obtain ⟨t, l2, x2, e2⟩ := trip (rdT l x)
      have d2 := fun w h => rtext_any R s w l x h hs
      rw [e2] at d2
      simp only at d2
      have HE2 := Lib.hid e2
      clear e2
      have q5 : w3.cell? ⟨A, 5, none⟩ = some vv := h2.cell 5
      have hn2 : (strs vs).length < 1099511627776 := by rw [strs_len, ← HKV.out, ← strs_len]; exact hn
      go_region_law ((first
        | (refine h4.step (by rfl) _ _ _ (by rfl) 1 vv 9 (strs vs) rfl iS _ 16 Try.underlying25 hiS hzS0 hzS1 hzS2 rfl (by decide) (.string (ba t)) rfl (by omega) 5 rfl (by rfl) (by rfl) ?_; intro g5 cap5 w5 f5 c5 hst5; have HS5 := Lib.hid hst5; clear hst5)
        | (rw [if_pos (by kernel_rfl)]; go_simp; go_at_call 59; refine (d2 _ h2.drew.rd).mono ?_; rintro e w4 ⟨rfl, hr4, hk4⟩; have h4 := h2.drew.read hr4 hk4; have q5' : w4.cell? ⟨A, 5, none⟩ = some vv := h4.cell 5; have q5'' : (w4.alloc (.cells #[.string (ba t)] 9)).cell? ⟨A, 5, none⟩ = some vv := (h4.alloc _).cell 5; clear hr4 hk4)))
      all_goals
        have h5 := HS5.out { a with keys := ks ++ [k], vals := vs ++ [t] } kv2 (.slice (some ⟨g5, 0, none⟩) ((strs vs).length + 1) cap5) av nv fv rfl (by rw [strs_snoc]; rfl)
        clear HS5 h4 h2 f5 c5 q5 q5' q5''
        go_wp2_with fail
        refine (rtext_any R s _ _ _ h5.rd hs).mono ?_; rintro e w6 ⟨rfl, hr6, hk6⟩
        have h6 := h5.read hr6 hk6
        clear hr6 hk6 h5
        go_wp2
        go_roundw
        case rel =>
          refine ⟨_, rfl, _, _, ks ++ [k], vs ++ [t], kv2, _, av, nv, fv, h6, ?_, ?_, ?_, ?_⟩
          · intro hk2
            have a1 := rdT_less l2 x2 hk2
            have a2 := rdT_len l x
            rw [HE2.out] at a2
            have a3 := HM'.out
            simp only [List.length_append, List.length_cons, List.length_nil] at a2 ⊢
            omega
          · have a3 := HM'.out
            rw [List.length_append]; simp; omega
          · have := HKV.out
            simp [this]
          · rw [HF.out, pairsP_cons k l x HE.out, HE2.out]
            simp
        case measure =>
          have e1 : wr.cell? ⟨A, 4, none⟩ = wr.cell? ⟨A, 4, none⟩ := rfl
          have a1 := HQ.out
          have a2 := HM'.out
          have a3 : w6.cell? ⟨A, 4, none⟩ = some kv2 := h6.cell 4
          rw [a1, a3, HK2.out]
          simp only [lenC, strs_len]
          omega
end Go.Proofs.Ytojgeilihoilnaa
namespace Go.Proofs.Ytojgeilihoilnaa
open Go.ChangeShapes Go.WideShapes Go.ChangeAt Go.RowKit
set_option linter.unusedVariables false
attribute [local go_sem ↓] Go.wp_at_zero Go.wp_at_succ

section
variable (R A : Nat) (s : ByteArray) (w0 : World) (kk : UInt8) (l : Tx) (x : Bool) (kv vv av nv fv : Value) (w : World)
theorem Rs.bad {w : World} {R : Nat} {s : ByteArray} {l : Tx} {x : Bool} (h : Rs w R s l x) : RsP R s (.tuple #[]) l true w (.returned (.tuple #[])) (w.setCell ⟨R, 2, none⟩ (.bool true)) := by
  obtain ⟨p, h1, h2, h3⟩ := h
  exact ⟨rfl, ⟨p, h1, h2, h3.set_ 2 _⟩, (Keeps.refl _ _).set _ _ _ (.inl (by simp))⟩

theorem rfirst_any (h : AI R A s w0 { kind := kk } l x kv vv av nv fv w) (hs : s.size ≤ 1099511627776) :
    Calls Try.prog 28 #[.pointer (some ⟨R, 0, none⟩), .pointer (some ⟨A, 0, none⟩)] w (AiP R A s w0 (readD .start { kind := kk } l x)) := by
  unfold readD
  obtain ⟨c, l1, x1, e1⟩ := trip (rd4 l x)
  have d1 := fun w h => r4_any R s w l x h hs
  rw [e1] at d1
  simp only [e1] at d1 ⊢
  clear e1
  by_cases h1 : c = 196608
  · subst h1
    rw [if_pos rfl]
    have dp := fun w kv vv av nv fv h => rpairs_any R A s w0 { kind := kk } l1 x1 kv vv av nv fv w h hs rfl rfl
    generalize pairsP (rdT l1 x1).1 (rdT l1 x1).2.1 (rdT l1 x1).2.2 = F at *
    go_enter Try.func28, Try.ntmps28
    go_wp2_with fail
    refine (d1 _ h.rd).mono ?_; rintro e w1 ⟨rfl, hr1, hk1⟩
    have h1 := h.read hr1 hk1
    clear hr1 hk1 h
    go_wp2_with fail
    refine (dp _ _ _ _ _ _ h1).mono ?_; rintro e w2 ⟨rfl, hp⟩
    go_wp2
    go_end0
    exact ⟨rfl, hp⟩
  · rw [if_neg h1]
    have b1 : (c == 196608) = false := by simpa using h1
    by_cases h2 : c = 80877102
    · subst h2
      rw [if_pos rfl]
      clear b1 h1
      obtain ⟨p, l2, x2, e2⟩ := trip (rd4 l1 x1)
      obtain ⟨q, l3, x3, e3⟩ := trip (rd4 l2 x2)
      have d2 := fun w h => r4_any R s w l1 x1 h hs
      have d3 := fun w h => r4_any R s w l2 x2 h hs
      rw [e2] at d2; rw [e3] at d3
      simp only [e2, e3] at d2 d3 ⊢
      clear e2 e3
      go_enter Try.func28, Try.ntmps28
      go_wp2_with fail
      refine (d1 _ h.rd).mono ?_; rintro e w1 ⟨rfl, hr1, hk1⟩
      have h1 := h.read hr1 hk1
      have c1 : w1.cell? ⟨A, 11, none⟩ = some (.bool false) := h1.cell 11
      have f1 := h1.frozen 11
      have h2 := h1.fld 11 (.bool true) { kind := kk, cancel := true } rfl rfl
      clear hr1 hk1 h
      go_wp2_with fail
      refine (d2 _ h2.rd).mono ?_; rintro e w2 ⟨rfl, hr2, hk2⟩
      have h3 := h2.read hr2 hk2
      have c3 : w2.cell? ⟨A, 12, none⟩ = some (.int .i64 0) := h3.cell 12
      have f3 := h3.frozen 12
      have h4 := h3.fld 12 (.int .i64 p) { kind := kk, cancel := true, pid := p } rfl rfl
      clear hr2 hk2 h1 h2
      go_wp2_with fail
      refine (d3 _ h4.rd).mono ?_; rintro e w3 ⟨rfl, hr3, hk3⟩
      have h5 := h4.read hr3 hk3
      have c5 : w3.cell? ⟨A, 13, none⟩ = some (.int .i64 0) := h5.cell 13
      have f5 := h5.frozen 13
      have h6 := h5.fld 13 (.int .i64 q) { kind := kk, cancel := true, pid := p, secret := q } rfl rfl
      clear hr3 hk3 h3 h4
      go_wp2
      go_end0
      exact ⟨rfl, _, _, _, _, _, h6⟩
    · rw [if_neg h2]
      have b2 : (c == 80877102) = false := by simpa using h2
      clear h1 h2
      go_enter Try.func28, Try.ntmps28
      go_wp2_with fail
      refine (d1 _ h.rd).mono ?_; rintro e w1 ⟨rfl, hr1, hk1⟩
      have h1 := h.read hr1 hk1
      have c2 := h1.rd.cell2
      have f2 : w1.frozen? ⟨R, 2, none⟩ = false := by obtain ⟨_, _, _, h3⟩ := h1.rd; exact h3.frozen 2
      obtain ⟨_, g1, g2⟩ := h1.rd.bad
      have h2 := h1.read g1 g2
      clear hr1 hk1 h g1 g2 h1
      go_wp2
      go_end0
      exact ⟨rfl, _, _, _, _, _, h2⟩
end

set_option maxHeartbeats 2000000 in
set_option maxRecDepth 100000 in
theorem rbind_any (R A : Nat) (s : ByteArray) (w0 : World) (kk : UInt8) (l : Tx) (x : Bool) (kv vv av nv fv : Value) (w : World) (h : AI R A s w0 { kind := kk } l x kv vv av nv fv w) (hs : s.size ≤ 1099511627776) :
    Calls Try.prog 36 #[.pointer (some ⟨R, 0, none⟩), .pointer (some ⟨A, 0, none⟩)] w (AiP R A s w0 (readD .bind { kind := kk } l x)) := by
  obtain ⟨iS, hiS, hzS0, hzS1, hzS2⟩ := info_parts infoS
  obtain ⟨iB, hiB, hzB0, hzB1, hzB2⟩ := info_parts infoB
  obtain ⟨iI, hiI, hzI0, hzI1, hzI2⟩ := info_parts infoI
  unfold readD
  obtain ⟨t, l1, x1, e1⟩ := trip (rdT l x)
  have d1 := fun w h => rtext_any R s w l x h hs
  rw [e1] at d1
  simp only [e1] at d1 ⊢
  obtain ⟨u, l2, x2, e2⟩ := trip (rdT l1 x1)
  have d2 := fun w h => rtext_any R s w l1 x1 h hs
  rw [e2] at d2
  simp only [e2] at d2 ⊢
  obtain ⟨z, l3, x3, e3⟩ := trip (rd2 l2 x2)
  have d3 := fun w h => r2_any R s w l2 x2 h hs
  rw [e3] at d3
  simp only [e3] at d3 ⊢
  have ez : decide (z = 0) = (z == 0) := by rw [Bool.eq_iff_iff]; simp
  rw [ez]
  obtain ⟨n, l4, x4, e4⟩ := trip (rdC l3 (x3 || !(z == 0)))
  have d4 := fun w h => rcount_any R s w l3 (x3 || !(z == 0)) h hs
  rw [e4] at d4
  simp only [e4] at d4 ⊢
  have hn100 : n ≤ 100 := by
    have : (rdC l3 (x3 || !(z == 0))).1 ≤ 100 := by
      unfold rdC
      try simp only
      split
      · omega
      · rename_i hh
        have hh : (((rd2 l3 (x3 || !(z == 0))).2.2 || !decide (0 ≤ (rd2 l3 (x3 || !(z == 0))).1 ∧ (rd2 l3 (x3 || !(z == 0))).1 ≤ 100)) = false) := by simpa using hh
        have := of_decide_eq_true (or_not hh).2
        omega
    rw [e4] at this; exact this
  generalize hF : argsP n l4 x4 = F
  have HF0 := Lib.hid hF
  clear hF e1 e2 e3 ez e4
  go_enter Try.func36, Try.ntmps36
  go_wp2_with fail
  refine (d1 _ h.rd).mono ?_; rintro e w1 ⟨rfl, hr1, hk1⟩
  have h1 := h.read hr1 hk1
  have c1 : w1.cell? ⟨A, 2, none⟩ = some (.string (ba [])) := h1.cell 2
  have f1 := h1.frozen 2
  have h2 := h1.fld 2 (.string (ba t)) { kind := kk, portal := t } rfl rfl
  clear hr1 hk1 h
  go_wp2_with fail
  refine (d2 _ h2.rd).mono ?_; rintro e w2 ⟨rfl, hr2, hk2⟩
  have h3 := h2.read hr2 hk2
  have c3 : w2.cell? ⟨A, 1, none⟩ = some (.string (ba [])) := h3.cell 1
  have f3 := h3.frozen 1
  have h4 := h3.fld 1 (.string (ba u)) { kind := kk, portal := t, name := u } rfl rfl
  clear hr2 hk2 h1 h2 c1 f1
  go_wp2_with fail
  refine (d3 _ h4.rd).mono ?_; rintro e w3 ⟨rfl, hr3, hk3⟩
  have h5 := h4.read hr3 hk3
  clear hr3 hk3 h3 h4 c3 f3
  go_wp2_with fail
  refine (need_any R s _ _ _ _ h5.rd).mono ?_; rintro e w4 ⟨rfl, hr4, hk4⟩
  have h6 := h5.read hr4 hk4
  clear hr4 hk4 h5
  go_wp2_with fail
  refine (d4 _ h6.rd).mono ?_; rintro e w5 ⟨rfl, hr5, hk5⟩
  have h7 := h6.read hr5 hk5
  clear hr5 hk5 h6 d1 d2 d3 d4
  go_wp2
  go_loopw [23] (fun i wr => ∃ k : Nat, k ≤ n ∧ i = .int .i64 k ∧ ∃ l x az ns kv vv av nv fv, AI R A s w0 { kind := kk, portal := t, name := u, args := az, null := ns } l x kv vv av nv fv wr ∧ az.length = k ∧ ns.length = k ∧
      F = (az ++ (argsP (n - k) l x).1, ns ++ (argsP (n - k) l x).2.1, (argsP (n - k) l x).2.2)) (fun i _ => n - (intOf i).toNat)
  case atStart => exact ⟨0, Nat.zero_le _, rfl, l4, x4, [], [], kv, vv, av, nv, fv, h7, rfl, rfl, by rw [← HF0.out]; simp⟩
  case round =>
    obtain ⟨k, hk, rfl, l, x, az, ns, kv, vv, av, nv, fv, hi, ha1, ha2, hF⟩ := hrel
    clear h7 HF0
    by_cases hlt : k < n
    · have hz1 : (strs az).length ≤ 100 := by rw [strs_len]; omega
      have hz2 : (bools ns).length ≤ 100 := by rw [bools_len]; omega
      have HF := Lib.hid hF
      have HA1 := Lib.hid ha1
      have HA2 := Lib.hid ha2
      clear hF ha1 ha2
      obtain ⟨z, l1, x1, e4⟩ := trip (rd4 l x)
      have d4 := fun w h => r4_any R s w l x h hs
      rw [e4] at d4
      simp only at d4
      have HE4 := Lib.hid e4
      clear e4
      by_cases hz : z = -1
      · subst hz
        have d5 := fun w h => rbytes_any R s w 0 l1 x1 h hs
        obtain ⟨b, l2, x2, e2⟩ := trip (rdB 0 l1 x1)
        rw [e2] at d5
        simp only at d5
        have HE2 := Lib.hid e2
        clear e2
        have q7 : wr.cell? ⟨A, 7, none⟩ = some nv := hi.cell 7
        go_wp2_with fail
        refine (d4 _ hi.rd).mono ?_; rintro e w1 ⟨rfl, hr1, hk1⟩
        have h1 := hi.read hr1 hk1
        have q7' : w1.cell? ⟨A, 7, none⟩ = some nv := h1.cell 7
        clear hr1 hk1 hi q7
        go_wp2_with (at_builtin; refine h1.law rfl _ _ _ rfl 3 nv 4 (bools ns) rfl iB _ 1 Try.underlying26 hiB hzB0 hzB1 hzB2 rfl (by decide) (.bool true) rfl (by omega) 7 rfl (by rfl) (by rfl) ?_; intro g cap w2 f4 c4 hst; have HS := Lib.hid hst; clear hst)
        have h2 := HS.out { kind := kk, portal := t, name := u, args := az, null := ns ++ [true] } kv vv av (.slice (some ⟨g, 0, none⟩) ((bools ns).length + 1) cap) fv rfl (by rw [bools_snoc]; rfl)
        clear HS h1 f4 c4 q7'
        obtain ⟨nv2, hnv2⟩ : ∃ v, v = Value.slice (some ⟨g, 0, none⟩) ((bools ns).length + 1) cap := ⟨_, rfl⟩
        rw [← hnv2] at h2 ⊢
        clear hnv2
        generalize w2.setCell ⟨A, 7, none⟩ nv2 = w3 at *
        have q6 : w3.cell? ⟨A, 6, none⟩ = some av := h2.cell 6
        go_wp2_with fail
        go_region_law ((first
          | (refine h4.step (by rfl) _ _ _ (by rfl) 2 av 9 (strs az) rfl iS _ 16 Try.underlying25 hiS hzS0 hzS1 hzS2 rfl (by decide) (.string (ba b)) rfl (by omega) 6 rfl (by rfl) (by rfl) ?_; intro g5 cap5 w5 f5 c5 hst5; have HS5 := Lib.hid hst5; clear hst5)
          | (rw [if_pos (by kernel_rfl)]; go_simp; go_at_call 64; refine (d5 _ h2.drew.rd).mono ?_; rintro e w4 ⟨rfl, hr4, hk4⟩; have h4 := h2.drew.read hr4 hk4; have q6' : w4.cell? ⟨A, 6, none⟩ = some av := h4.cell 6; have q6'' : (w4.alloc (.cells #[.string (ba b)] 9)).cell? ⟨A, 6, none⟩ = some av := (h4.alloc _).cell 6; clear hr4 hk4)))
        all_goals
          have h5 := HS5.out { kind := kk, portal := t, name := u, args := az ++ [b], null := ns ++ [true] } kv vv (.slice (some ⟨g5, 0, none⟩) ((strs az).length + 1) cap5) nv2 fv rfl (by rw [strs_snoc]; rfl)
          clear HS5 h4 h2 f5 c5 q6 q6' q6''
          go_wp2
          go_roundw
          case rel =>
            refine ⟨k + 1, by omega, by go_num, l2, x2, az ++ [b], ns ++ [true], kv, vv, _, nv2, fv, h5, by simp; exact HA1.out, by simp; exact HA2.out, ?_⟩
            have hk : n - k = n - (k + 1) + 1 := by omega
            rw [HF.out, hk, argsP_succ, HE4.out]
            rw [show (if (-1 : Int) = -1 then (0 : Int) else -1) = 0 from rfl]
            rw [HE2.out]
            simp
          case measure => simp [intOf]; omega
      · have hzb : (z == -1) = false := by simpa using hz
        have HNZ := Lib.hid hz
        clear hz
        have d5 := fun w h => rbytes_any R s w z l1 x1 h hs
        obtain ⟨b, l2, x2, e2⟩ := trip (rdB z l1 x1)
        rw [e2] at d5
        simp only at d5
        have HE2 := Lib.hid e2
        clear e2
        have q7 : wr.cell? ⟨A, 7, none⟩ = some nv := hi.cell 7
        go_wp2_with fail
        refine (d4 _ hi.rd).mono ?_; rintro e w1 ⟨rfl, hr1, hk1⟩
        have h1 := hi.read hr1 hk1
        have q7' : w1.cell? ⟨A, 7, none⟩ = some nv := h1.cell 7
        clear hr1 hk1 hi q7
        go_wp2_with (at_builtin; refine h1.law rfl _ _ _ rfl 3 nv 4 (bools ns) rfl iB _ 1 Try.underlying26 hiB hzB0 hzB1 hzB2 rfl (by decide) (.bool false) rfl (by omega) 7 rfl (by rfl) (by rfl) ?_; intro g cap w2 f4 c4 hst; have HS := Lib.hid hst; clear hst)
        have h2 := HS.out { kind := kk, portal := t, name := u, args := az, null := ns ++ [false] } kv vv av (.slice (some ⟨g, 0, none⟩) ((bools ns).length + 1) cap) fv rfl (by rw [bools_snoc]; rfl)
        clear HS h1 f4 c4 q7'
        obtain ⟨nv2, hnv2⟩ : ∃ v, v = Value.slice (some ⟨g, 0, none⟩) ((bools ns).length + 1) cap := ⟨_, rfl⟩
        rw [← hnv2] at h2 ⊢
        clear hnv2
        generalize w2.setCell ⟨A, 7, none⟩ nv2 = w3 at *
        have q6 : w3.cell? ⟨A, 6, none⟩ = some av := h2.cell 6
        go_wp2_with fail
        go_region_law ((first
          | (refine h4.step (by rfl) _ _ _ (by rfl) 2 av 9 (strs az) rfl iS _ 16 Try.underlying25 hiS hzS0 hzS1 hzS2 rfl (by decide) (.string (ba b)) rfl (by omega) 6 rfl (by rfl) (by rfl) ?_; intro g5 cap5 w5 f5 c5 hst5; have HS5 := Lib.hid hst5; clear hst5)
          | (rw [if_pos (by kernel_rfl)]; go_simp; go_at_call 64; refine (d5 _ h2.drew.rd).mono ?_; rintro e w4 ⟨rfl, hr4, hk4⟩; have h4 := h2.drew.read hr4 hk4; have q6' : w4.cell? ⟨A, 6, none⟩ = some av := h4.cell 6; have q6'' : (w4.alloc (.cells #[.string (ba b)] 9)).cell? ⟨A, 6, none⟩ = some av := (h4.alloc _).cell 6; clear hr4 hk4)))
        all_goals
          have h5 := HS5.out { kind := kk, portal := t, name := u, args := az ++ [b], null := ns ++ [false] } kv vv (.slice (some ⟨g5, 0, none⟩) ((strs az).length + 1) cap5) nv2 fv rfl (by rw [strs_snoc]; rfl)
          clear HS5 h4 h2 f5 c5 q6 q6' q6''
          go_wp2
          go_roundw
          case rel =>
            refine ⟨k + 1, by omega, by go_num, l2, x2, az ++ [b], ns ++ [false], kv, vv, _, nv2, fv, h5, by simp; exact HA1.out, by simp; exact HA2.out, ?_⟩
            have hk : n - k = n - (k + 1) + 1 := by omega
            rw [HF.out, hk, argsP_succ, HE4.out]
            rw [if_neg HNZ.out, decide_eq_false HNZ.out]
            rw [HE2.out]
            simp
          case measure => simp [intOf]; omega
    · have e : k = n := by omega
      subst e
      rw [Nat.sub_self] at hF
      simp only [argsP, List.append_nil] at hF
      subst hF
      try simp only
      clear hlt hk
      obtain ⟨n2, l4, x4, e4⟩ := trip (rdC l x)
      have d4 := fun w h => rcount_any R s w l x h hs
      rw [e4] at d4
      simp only [e4] at d4 ⊢
      have hn200 : n2 ≤ 100 := by
        have : (rdC l x).1 ≤ 100 := by
          unfold rdC
          try simp only
          split
          · omega
          · rename_i hh
            have hh : (((rd2 l x).2.2 || !decide (0 ≤ (rd2 l x).1 ∧ (rd2 l x).1 ≤ 100)) = false) := by simpa using hh
            have := of_decide_eq_true (or_not hh).2
            omega
        rw [e4] at this; exact this
      obtain ⟨F, hF⟩ : ∃ F, fmtP n2 l4 x4 = F := ⟨_, rfl⟩
      have HF0 := Lib.hid hF
      have HF00 := Lib.hid hF
      have HE4 := Lib.hid e4
      have HA1 := Lib.hid ha1
      have HA2 := Lib.hid ha2
      clear hF e4 ha1 ha2
      go_wp2_with fail
      refine (d4 _ hi.rd).mono ?_; rintro e w5 ⟨rfl, hr5, hk5⟩
      have h7 := hi.read hr5 hk5
      clear hr5 hk5 hi d4
      go_wp2
      obtain ⟨wo, rfl⟩ : ∃ wo : World, wo = wr := ⟨_, rfl⟩
      go_loopw [55] (fun i wr => ∃ k : Nat, k ≤ n2 ∧ i = .int .i64 k ∧ ∃ l x fs kv vv av nv fv, AI R A s w0 { kind := kk, portal := t, name := u, args := az, null := ns, formats := fs } l x kv vv av nv fv wr ∧ fs.length = k ∧
          F = (fs ++ (fmtP (n2 - k) l x).1, (fmtP (n2 - k) l x).2)) (fun i _ => n2 - (intOf i).toNat)
      case atStart => exact ⟨0, Nat.zero_le _, rfl, l4, x4, [], kv, vv, av, nv, fv, h7, rfl, by rw [← HF0.out]; simp⟩
      case round =>
        obtain ⟨j, hj, rfl, l, x, fs, kv, vv, av, nv, fv, hi, ha, hF⟩ := hrel
        clear h7 HF0
        by_cases hlt : j < n2
        · have hz2 : (ints fs).length ≤ 100 := by rw [ints_len]; omega
          have HF := Lib.hid hF
          have HA := Lib.hid ha
          clear hF ha
          obtain ⟨z, l1, x1, e4⟩ := trip (rd2 l x)
          have d4 := fun w h => r2_any R s w l x h hs
          rw [e4] at d4
          simp only at d4
          have HE4 := Lib.hid e4
          clear e4
          have key : decide (z = 0 ∨ z = 1) = ((z == 0) || (z == 1)) := by rw [Bool.eq_iff_iff]; simp
          have dn := fun w h => need_any R s w l1 x1 (decide (z = 0 ∨ z = 1)) h
          have HZ := Lib.hid key
          clear key
          have hzz : ∃ b, b = decide (z = 0 ∨ z = 1) ∧ ((z == 0) = true ∧ b = true ∨ (z == 0) = false ∧ (z == 1) = b) := by
            refine ⟨_, rfl, ?_⟩
            by_cases h0 : z = 0
            · exact .inl ⟨by simpa using h0, decide_eq_true (.inl h0)⟩
            · refine .inr ⟨by simpa using h0, ?_⟩
              rw [HZ.out, show (z == 0) = false by simpa using h0]; rfl
          obtain ⟨bz, hbz, hcz⟩ := hzz
          rw [← hbz] at dn
          have HBZ := Lib.hid hbz
          clear hbz HZ
          rcases hcz with ⟨g0, rfl⟩ | ⟨g0, g1⟩
          all_goals
            go_wp2_with fail
            refine (d4 _ hi.rd).mono ?_; rintro e w1 ⟨rfl, hr1, hk1⟩
            have h1 := hi.read hr1 hk1
            clear hr1 hk1 hi
            go_wp2_with fail
            refine (dn _ h1.rd).mono ?_; rintro e w2 ⟨rfl, hr2, hk2⟩
            have h2 := h1.read hr2 hk2
            have q8' : w2.cell? ⟨A, 8, none⟩ = some fv := h2.cell 8
            clear hr2 hk2 h1
            go_wp2_with (at_builtin; refine h2.law rfl _ _ _ rfl 4 fv 3 (ints fs) rfl iI _ 8 Try.underlying27 hiI hzI0 hzI1 hzI2 rfl (by decide) (.int .i64 z) rfl (by omega) 8 rfl (by rfl) (by rfl) ?_; intro g cap w3 f4 c4 hst; have HS := Lib.hid hst; clear hst)
            have h3 := HS.out { kind := kk, portal := t, name := u, args := az, null := ns, formats := fs ++ [z] } kv vv av nv (.slice (some ⟨g, 0, none⟩) ((ints fs).length + 1) cap) rfl (by rw [ints_snoc]; rfl)
            clear HS h2 f4 c4 q8'
            go_roundw
            case rel =>
              refine ⟨j + 1, by omega, by go_num, l1, _, fs ++ [z], kv, vv, av, nv, _, h3, by simp; exact HA.out, ?_⟩
              have hj : n2 - j = n2 - (j + 1) + 1 := by omega
              rw [HF.out, hj, fmtP_succ, HE4.out]
              simp only
              rw [← HBZ.out]
              simp
            case measure => simp [intOf]; omega
        · have e : j = n2 := by omega
          subst e
          rw [Nat.sub_self] at hF
          simp only [fmtP, List.append_nil] at hF
          have HFF := Lib.hid hF
          clear hlt hj hF
          have HA := Lib.hid ha
          clear ha
          go_wp2
          go_end0
          refine ⟨rfl, kv, vv, av, nv, fv, ?_⟩
          simp only [HE4.out, HF00.out, HFF.out]
          exact hi
end Go.Proofs.Ytojgeilihoilnaa
namespace Go.Proofs.Ytojgeilihoilnaa
open Go.ChangeShapes Go.WideShapes Go.ChangeAt Go.RowKit
set_option linter.unusedVariables false

/-- a function as a value -/
abbrev fnV (k : Nat) : Value := .func (.func k) #[] #[]
theorem ins_new (w : World) (es : Array MapEntry) (n : Nat) (k : Int) (v : Value) (hf : Instr.findNow (.int .u8) (.int .u8 k) es.toList 0 = some none) :
    (Instr.mapUpdate 44 (.map (some w.heap.size)) (.int .u8 k) v).run Try.prog (w.alloc (.map es n)) = .ok () (w.alloc (.map (es.push ⟨.int .u8 k, v, n⟩) (n + 1))) := by
  have hu : Try.prog.underlying 44 = some (.map 5 42) := by kernel_rfl
  have hk : Try.prog.underlying 5 = some (.int .u8) := by kernel_rfl
  have hck := fun (w : World) (e : Bool) => MapKept.run_checkKey (P := Try.prog) (w := w) (k := .int .u8 k) hk rfl e 9999
  have hb : (w.alloc (.map es n)).heap[w.heap.size]? = some (.map es n) := (MapKept.heap_alloc w _).1
  have hset : ({ w.alloc (.map es n) with heap := (w.alloc (.map es n)).heap.setIfInBounds w.heap.size (.map (es.push ⟨.int .u8 k, v, n⟩) (n + 1)) } : World) = w.alloc (.map (es.push ⟨.int .u8 k, v, n⟩) (n + 1)) := by
    have he : ∀ (h : Array Obj) (a b : Obj), (h.push a).setIfInBounds h.size b = h.push b := fun h a b => by
      apply Array.ext_getElem?
      intro i
      simp only [Array.getElem?_setIfInBounds, Array.getElem?_push, Array.size_push]
      by_cases e : h.size = i
      · subst e; simp
      · rw [if_neg e, if_neg (fun h => e h.symm), if_neg (fun h => e h.symm)]
    unfold World.alloc
    simp only [he]
  simp [Instr.mapUpdate, run_underlying hu, MapKept.run_getObj_map hb, hck, run_underlying hk, Instr.findKey, hf, MapKept.run_setObj_map _ hb, Result.andThen]
  exact hset
theorem look_yes (w : World) (b : Nat) (es : Array MapEntry) (n : Nat) (hb : w.heap[b]? = some (.map es n)) (k : Int) (i : Nat) (v : Value) (hf : Instr.findNow (.int .u8) (.int .u8 k) es.toList 0 = some (some (i, v))) :
    (Instr.lookup 44 (.map (some b)) (.int .u8 k) true).run Try.prog w = .ok (.tuple #[v, .bool true]) w := by
  have hu : Try.prog.underlying 44 = some (.map 5 42) := by kernel_rfl
  have hk : Try.prog.underlying 5 = some (.int .u8) := by kernel_rfl
  have hck := fun (w : World) (e : Bool) => MapKept.run_checkKey (P := Try.prog) (w := w) (k := .int .u8 k) hk rfl e 9999
  simp [Instr.lookup, run_underlying hu, MapKept.run_getObj_map hb, hck, run_underlying hk, Instr.findKey, hf, Result.andThen]
theorem look_no (w : World) (b : Nat) (es : Array MapEntry) (n : Nat) (hb : w.heap[b]? = some (.map es n)) (k : Int) (hf : Instr.findNow (.int .u8) (.int .u8 k) es.toList 0 = some none) :
    (Instr.lookup 44 (.map (some b)) (.int .u8 k) true).run Try.prog w = .ok (.tuple #[.agg #[.nilFunc, .nilFunc], .bool false]) w := by
  have hu : Try.prog.underlying 44 = some (.map 5 42) := by kernel_rfl
  have hk : Try.prog.underlying 5 = some (.int .u8) := by kernel_rfl
  have hck := fun (w : World) (e : Bool) => MapKept.run_checkKey (P := Try.prog) (w := w) (k := .int .u8 k) hk rfl e 9999
  have hj : (Try.prog.info? 42).map (·.zero) = some (some (.agg #[.nilFunc, .nilFunc])) := by kernel_rfl
  cases hi : Try.prog.info? 42 with
  | none => rw [hi] at hj; cases hj
  | some j =>
    rw [hi] at hj
    simp only [Option.map_some, Option.some.injEq] at hj
    simp [Instr.lookup, run_underlying hu, MapKept.run_getObj_map hb, hck, run_underlying hk, Instr.findKey, hf, Result.andThen, zeroValue, typeInfo, hi, hj]
def kEs : Array MapEntry := #[⟨.int .u8 0, .agg #[fnV 28, fnV 29], 0⟩, ⟨.int .u8 112, .agg #[fnV 30, fnV 31], 1⟩, ⟨.int .u8 81, .agg #[fnV 30, fnV 31], 2⟩, ⟨.int .u8 88, .agg #[fnV 32, fnV 33], 3⟩, ⟨.int .u8 83, .agg #[fnV 32, fnV 33], 4⟩, ⟨.int .u8 72, .agg #[fnV 32, fnV 33], 5⟩, ⟨.int .u8 80, .agg #[fnV 34, fnV 35], 6⟩, ⟨.int .u8 66, .agg #[fnV 36, fnV 37], 7⟩, ⟨.int .u8 68, .agg #[fnV 38, fnV 39], 8⟩, ⟨.int .u8 67, .agg #[fnV 38, fnV 39], 9⟩, ⟨.int .u8 69, .agg #[fnV 40, fnV 41], 10⟩]
set_option maxRecDepth 100000 in
theorem kinds_any (w : World) : Calls Try.prog 17 #[] w fun e w' => e = .returned (.map (some w.heap.size)) ∧ w' = w.alloc (.map kEs 11) := by
  have hmm := @run_makeMap Try.prog
  have e0 : (Instr.mapUpdate 44 (.map (some w.heap.size)) (.int .u8 0) (.agg #[fnV 28, fnV 29])).run Try.prog (w.alloc (.map #[] 0)) = .ok () (w.alloc (.map #[⟨.int .u8 0, .agg #[fnV 28, fnV 29], 0⟩] 1)) := ins_new w _ _ _ _ (by rfl)
  have e1 : (Instr.mapUpdate 44 (.map (some w.heap.size)) (.int .u8 112) (.agg #[fnV 30, fnV 31])).run Try.prog (w.alloc (.map #[⟨.int .u8 0, .agg #[fnV 28, fnV 29], 0⟩] 1)) = .ok () (w.alloc (.map #[⟨.int .u8 0, .agg #[fnV 28, fnV 29], 0⟩, ⟨.int .u8 112, .agg #[fnV 30, fnV 31], 1⟩] 2)) := ins_new w _ _ _ _ (by rfl)
  have e2 : (Instr.mapUpdate 44 (.map (some w.heap.size)) (.int .u8 81) (.agg #[fnV 30, fnV 31])).run Try.prog (w.alloc (.map #[⟨.int .u8 0, .agg #[fnV 28, fnV 29], 0⟩, ⟨.int .u8 112, .agg #[fnV 30, fnV 31], 1⟩] 2)) = .ok () (w.alloc (.map #[⟨.int .u8 0, .agg #[fnV 28, fnV 29], 0⟩, ⟨.int .u8 112, .agg #[fnV 30, fnV 31], 1⟩, ⟨.int .u8 81, .agg #[fnV 30, fnV 31], 2⟩] 3)) := ins_new w _ _ _ _ (by rfl)
  have e3 : (Instr.mapUpdate 44 (.map (some w.heap.size)) (.int .u8 88) (.agg #[fnV 32, fnV 33])).run Try.prog (w.alloc (.map #[⟨.int .u8 0, .agg #[fnV 28, fnV 29], 0⟩, ⟨.int .u8 112, .agg #[fnV 30, fnV 31], 1⟩, ⟨.int .u8 81, .agg #[fnV 30, fnV 31], 2⟩] 3)) = .ok () (w.alloc (.map #[⟨.int .u8 0, .agg #[fnV 28, fnV 29], 0⟩, ⟨.int .u8 112, .agg #[fnV 30, fnV 31], 1⟩, ⟨.int .u8 81, .agg #[fnV 30, fnV 31], 2⟩, ⟨.int .u8 88, .agg #[fnV 32, fnV 33], 3⟩] 4)) := ins_new w _ _ _ _ (by rfl)
  have e4 : (Instr.mapUpdate 44 (.map (some w.heap.size)) (.int .u8 83) (.agg #[fnV 32, fnV 33])).run Try.prog (w.alloc (.map #[⟨.int .u8 0, .agg #[fnV 28, fnV 29], 0⟩, ⟨.int .u8 112, .agg #[fnV 30, fnV 31], 1⟩, ⟨.int .u8 81, .agg #[fnV 30, fnV 31], 2⟩, ⟨.int .u8 88, .agg #[fnV 32, fnV 33], 3⟩] 4)) = .ok () (w.alloc (.map #[⟨.int .u8 0, .agg #[fnV 28, fnV 29], 0⟩, ⟨.int .u8 112, .agg #[fnV 30, fnV 31], 1⟩, ⟨.int .u8 81, .agg #[fnV 30, fnV 31], 2⟩, ⟨.int .u8 88, .agg #[fnV 32, fnV 33], 3⟩, ⟨.int .u8 83, .agg #[fnV 32, fnV 33], 4⟩] 5)) := ins_new w _ _ _ _ (by rfl)
  have e5 : (Instr.mapUpdate 44 (.map (some w.heap.size)) (.int .u8 72) (.agg #[fnV 32, fnV 33])).run Try.prog (w.alloc (.map #[⟨.int .u8 0, .agg #[fnV 28, fnV 29], 0⟩, ⟨.int .u8 112, .agg #[fnV 30, fnV 31], 1⟩, ⟨.int .u8 81, .agg #[fnV 30, fnV 31], 2⟩, ⟨.int .u8 88, .agg #[fnV 32, fnV 33], 3⟩, ⟨.int .u8 83, .agg #[fnV 32, fnV 33], 4⟩] 5)) = .ok () (w.alloc (.map #[⟨.int .u8 0, .agg #[fnV 28, fnV 29], 0⟩, ⟨.int .u8 112, .agg #[fnV 30, fnV 31], 1⟩, ⟨.int .u8 81, .agg #[fnV 30, fnV 31], 2⟩, ⟨.int .u8 88, .agg #[fnV 32, fnV 33], 3⟩, ⟨.int .u8 83, .agg #[fnV 32, fnV 33], 4⟩, ⟨.int .u8 72, .agg #[fnV 32, fnV 33], 5⟩] 6)) := ins_new w _ _ _ _ (by rfl)
  have e6 : (Instr.mapUpdate 44 (.map (some w.heap.size)) (.int .u8 80) (.agg #[fnV 34, fnV 35])).run Try.prog (w.alloc (.map #[⟨.int .u8 0, .agg #[fnV 28, fnV 29], 0⟩, ⟨.int .u8 112, .agg #[fnV 30, fnV 31], 1⟩, ⟨.int .u8 81, .agg #[fnV 30, fnV 31], 2⟩, ⟨.int .u8 88, .agg #[fnV 32, fnV 33], 3⟩, ⟨.int .u8 83, .agg #[fnV 32, fnV 33], 4⟩, ⟨.int .u8 72, .agg #[fnV 32, fnV 33], 5⟩] 6)) = .ok () (w.alloc (.map #[⟨.int .u8 0, .agg #[fnV 28, fnV 29], 0⟩, ⟨.int .u8 112, .agg #[fnV 30, fnV 31], 1⟩, ⟨.int .u8 81, .agg #[fnV 30, fnV 31], 2⟩, ⟨.int .u8 88, .agg #[fnV 32, fnV 33], 3⟩, ⟨.int .u8 83, .agg #[fnV 32, fnV 33], 4⟩, ⟨.int .u8 72, .agg #[fnV 32, fnV 33], 5⟩, ⟨.int .u8 80, .agg #[fnV 34, fnV 35], 6⟩] 7)) := ins_new w _ _ _ _ (by rfl)
  have e7 : (Instr.mapUpdate 44 (.map (some w.heap.size)) (.int .u8 66) (.agg #[fnV 36, fnV 37])).run Try.prog (w.alloc (.map #[⟨.int .u8 0, .agg #[fnV 28, fnV 29], 0⟩, ⟨.int .u8 112, .agg #[fnV 30, fnV 31], 1⟩, ⟨.int .u8 81, .agg #[fnV 30, fnV 31], 2⟩, ⟨.int .u8 88, .agg #[fnV 32, fnV 33], 3⟩, ⟨.int .u8 83, .agg #[fnV 32, fnV 33], 4⟩, ⟨.int .u8 72, .agg #[fnV 32, fnV 33], 5⟩, ⟨.int .u8 80, .agg #[fnV 34, fnV 35], 6⟩] 7)) = .ok () (w.alloc (.map #[⟨.int .u8 0, .agg #[fnV 28, fnV 29], 0⟩, ⟨.int .u8 112, .agg #[fnV 30, fnV 31], 1⟩, ⟨.int .u8 81, .agg #[fnV 30, fnV 31], 2⟩, ⟨.int .u8 88, .agg #[fnV 32, fnV 33], 3⟩, ⟨.int .u8 83, .agg #[fnV 32, fnV 33], 4⟩, ⟨.int .u8 72, .agg #[fnV 32, fnV 33], 5⟩, ⟨.int .u8 80, .agg #[fnV 34, fnV 35], 6⟩, ⟨.int .u8 66, .agg #[fnV 36, fnV 37], 7⟩] 8)) := ins_new w _ _ _ _ (by rfl)
  have e8 : (Instr.mapUpdate 44 (.map (some w.heap.size)) (.int .u8 68) (.agg #[fnV 38, fnV 39])).run Try.prog (w.alloc (.map #[⟨.int .u8 0, .agg #[fnV 28, fnV 29], 0⟩, ⟨.int .u8 112, .agg #[fnV 30, fnV 31], 1⟩, ⟨.int .u8 81, .agg #[fnV 30, fnV 31], 2⟩, ⟨.int .u8 88, .agg #[fnV 32, fnV 33], 3⟩, ⟨.int .u8 83, .agg #[fnV 32, fnV 33], 4⟩, ⟨.int .u8 72, .agg #[fnV 32, fnV 33], 5⟩, ⟨.int .u8 80, .agg #[fnV 34, fnV 35], 6⟩, ⟨.int .u8 66, .agg #[fnV 36, fnV 37], 7⟩] 8)) = .ok () (w.alloc (.map #[⟨.int .u8 0, .agg #[fnV 28, fnV 29], 0⟩, ⟨.int .u8 112, .agg #[fnV 30, fnV 31], 1⟩, ⟨.int .u8 81, .agg #[fnV 30, fnV 31], 2⟩, ⟨.int .u8 88, .agg #[fnV 32, fnV 33], 3⟩, ⟨.int .u8 83, .agg #[fnV 32, fnV 33], 4⟩, ⟨.int .u8 72, .agg #[fnV 32, fnV 33], 5⟩, ⟨.int .u8 80, .agg #[fnV 34, fnV 35], 6⟩, ⟨.int .u8 66, .agg #[fnV 36, fnV 37], 7⟩, ⟨.int .u8 68, .agg #[fnV 38, fnV 39], 8⟩] 9)) := ins_new w _ _ _ _ (by rfl)
  have e9 : (Instr.mapUpdate 44 (.map (some w.heap.size)) (.int .u8 67) (.agg #[fnV 38, fnV 39])).run Try.prog (w.alloc (.map #[⟨.int .u8 0, .agg #[fnV 28, fnV 29], 0⟩, ⟨.int .u8 112, .agg #[fnV 30, fnV 31], 1⟩, ⟨.int .u8 81, .agg #[fnV 30, fnV 31], 2⟩, ⟨.int .u8 88, .agg #[fnV 32, fnV 33], 3⟩, ⟨.int .u8 83, .agg #[fnV 32, fnV 33], 4⟩, ⟨.int .u8 72, .agg #[fnV 32, fnV 33], 5⟩, ⟨.int .u8 80, .agg #[fnV 34, fnV 35], 6⟩, ⟨.int .u8 66, .agg #[fnV 36, fnV 37], 7⟩, ⟨.int .u8 68, .agg #[fnV 38, fnV 39], 8⟩] 9)) = .ok () (w.alloc (.map #[⟨.int .u8 0, .agg #[fnV 28, fnV 29], 0⟩, ⟨.int .u8 112, .agg #[fnV 30, fnV 31], 1⟩, ⟨.int .u8 81, .agg #[fnV 30, fnV 31], 2⟩, ⟨.int .u8 88, .agg #[fnV 32, fnV 33], 3⟩, ⟨.int .u8 83, .agg #[fnV 32, fnV 33], 4⟩, ⟨.int .u8 72, .agg #[fnV 32, fnV 33], 5⟩, ⟨.int .u8 80, .agg #[fnV 34, fnV 35], 6⟩, ⟨.int .u8 66, .agg #[fnV 36, fnV 37], 7⟩, ⟨.int .u8 68, .agg #[fnV 38, fnV 39], 8⟩, ⟨.int .u8 67, .agg #[fnV 38, fnV 39], 9⟩] 10)) := ins_new w _ _ _ _ (by rfl)
  have e10 : (Instr.mapUpdate 44 (.map (some w.heap.size)) (.int .u8 69) (.agg #[fnV 40, fnV 41])).run Try.prog (w.alloc (.map #[⟨.int .u8 0, .agg #[fnV 28, fnV 29], 0⟩, ⟨.int .u8 112, .agg #[fnV 30, fnV 31], 1⟩, ⟨.int .u8 81, .agg #[fnV 30, fnV 31], 2⟩, ⟨.int .u8 88, .agg #[fnV 32, fnV 33], 3⟩, ⟨.int .u8 83, .agg #[fnV 32, fnV 33], 4⟩, ⟨.int .u8 72, .agg #[fnV 32, fnV 33], 5⟩, ⟨.int .u8 80, .agg #[fnV 34, fnV 35], 6⟩, ⟨.int .u8 66, .agg #[fnV 36, fnV 37], 7⟩, ⟨.int .u8 68, .agg #[fnV 38, fnV 39], 8⟩, ⟨.int .u8 67, .agg #[fnV 38, fnV 39], 9⟩] 10)) = .ok () (w.alloc (.map #[⟨.int .u8 0, .agg #[fnV 28, fnV 29], 0⟩, ⟨.int .u8 112, .agg #[fnV 30, fnV 31], 1⟩, ⟨.int .u8 81, .agg #[fnV 30, fnV 31], 2⟩, ⟨.int .u8 88, .agg #[fnV 32, fnV 33], 3⟩, ⟨.int .u8 83, .agg #[fnV 32, fnV 33], 4⟩, ⟨.int .u8 72, .agg #[fnV 32, fnV 33], 5⟩, ⟨.int .u8 80, .agg #[fnV 34, fnV 35], 6⟩, ⟨.int .u8 66, .agg #[fnV 36, fnV 37], 7⟩, ⟨.int .u8 68, .agg #[fnV 38, fnV 39], 8⟩, ⟨.int .u8 67, .agg #[fnV 38, fnV 39], 9⟩, ⟨.int .u8 69, .agg #[fnV 40, fnV 41], 10⟩] 11)) := ins_new w _ _ _ _ (by rfl)
  go_enter Try.func17, Try.ntmps17
  go_wp2
  go_ret
  exact ⟨rfl, rfl⟩
def KP (w : World) (e : Ending) (w' : World) : Prop := ∃ b, e = .returned (.map (some b)) ∧ w'.heap[b]? = some (.map kEs 11) ∧ Below w.heap.size w w'
theorem kinds_kp (w : World) : Calls Try.prog 17 #[] w (KP w) := (kinds_any w).mono fun e w' ⟨he, hw⟩ => ⟨_, he, by rw [hw]; exact (MapKept.heap_alloc w _).1, by rw [hw]; exact (Below.refl _ _).alloc (Nat.le_refl _) _⟩
end Go.Proofs.Ytojgeilihoilnaa
namespace Go.Proofs.Ytojgeilihoilnaa
open Go.ChangeShapes Go.WideShapes Go.ChangeAt Go.RowKit
set_option linter.unusedVariables false
attribute [local go_sem ↓] Go.wp_at_zero Go.wp_at_succ

/-- what an answer of Decode is -/
def DecP (r : Ask × Int) (w : World) (e : Ending) (w' : World) : Prop :=
  ∃ v, e = .returned (.tuple #[v, .int .i64 r.2]) ∧ AR (fun b => w.heap.size ≤ b ∧ b < w'.heap.size) w' v r.1 ∧ Below w.heap.size w w'
theorem DecP.none (c : Int) (w w' : World) (h : Below w.heap.size w w') : DecP ({}, c) w (.returned (.tuple #[.agg (askV {} (.slice none 0 0) (.slice none 0 0) (.slice none 0 0) (.slice none 0 0) (.slice none 0 0)), .int .i64 c])) w' :=
  ⟨_, rfl, AR.zero _ _, h⟩

theorem Blk.drew_ {w : World} {g : Nat} {t : TypeId} {cs : Array Value} (h : Blk w g t cs) : Blk w.drew g t cs := h
theorem Blk.sets {g : Nat} {t : TypeId} (vs : List Value) : ∀ (o : Nat) (w : World) (cs : Array Value), Blk w g t cs → o + vs.length ≤ cs.size →
    ∃ cs' : Array Value, Blk (w.setCells g o vs) g t cs' ∧ cs'.size = cs.size ∧ ∀ i, cs'[i]? = if o ≤ i ∧ i < o + vs.length then vs[i - o]? else cs[i]? := by
  induction vs with
  | nil => intro o w cs h hl; exact ⟨cs, h, rfl, fun i => by rw [if_neg (by simp only [List.length_nil]; omega)]⟩
  | cons v vs ih =>
    intro o w cs h hl
    simp only [List.length_cons] at hl
    obtain ⟨cs', h1, h2, h3⟩ := ih (o + 1) (w.setCell ⟨g, o, none⟩ v) (cs.setIfInBounds o v) (h.set_ o v) (by simp; omega)
    refine ⟨cs', h1, by rw [h2]; simp, fun i => ?_⟩
    rw [h3 i]
    simp only [List.length_cons]
    by_cases e : o = i
    · subst e
      rw [if_neg (by omega), if_pos (by omega), Nat.sub_self]
      rw [Array.getElem?_setIfInBounds_self, if_pos (by omega)]; rfl
    · rw [Array.getElem?_setIfInBounds_ne e]
      by_cases h : o + 1 ≤ i ∧ i < o + 1 + vs.length
      · rw [if_pos h, if_pos (by omega), show i - o = i - (o + 1) + 1 by omega, List.getElem?_cons_succ]
      · rw [if_neg h, if_neg (by omega)]
theorem Blk.store {g : Nat} {t : TypeId} {w : World} {cs : Array Value} (h : Blk w g t cs) (new : Array Value) (hn : new.size = cs.size) : Blk (w.setCells g 0 new.toList) g t new := by
  obtain ⟨cs', h1, h2, h3⟩ := Blk.sets new.toList 0 w cs h (by simp; omega)
  have e : cs' = new := by
    apply Array.ext_getElem?
    intro i
    rw [h3 i]
    by_cases h : 0 ≤ i ∧ i < 0 + new.toList.length
    · rw [if_pos h]; simp
    · rw [if_neg h]
      have : new.size ≤ i := by simp at h; omega
      rw [Array.getElem?_eq_none this, Array.getElem?_eq_none (by omega)]
  rw [e] at h1; exact h1
theorem Blk.there {g : Nat} {t : TypeId} {w : World} {cs : Array Value} (h : Blk w g t cs) (n : Nat) (hn : n ≤ cs.size) : w.there g 0 n := by
  intro j hj
  refine ⟨?_, h.frozen _⟩
  rw [h.cell, Nat.zero_add]
  have : j < cs.size := by omega
  simp [this]
theorem Keeps.sets {S : List Nat} {w : World} (g : Nat) (hg : g ∈ S ∨ w.heap.size ≤ g) (vs : List Value) : ∀ (o : Nat) (a : World), Keeps S w a → Keeps S w (a.setCells g o vs) := by
  induction vs with
  | nil => intro o a h; exact h
  | cons v vs ih => intro o a h; exact ih (o + 1) _ (h.set g o v hg)
theorem askInfo : (Try.prog.info? 29).map (·.size) = some 14 := by kernel_rfl
theorem askOne (a : Ask) (kv vv av nv fv : Value) (h1 : kv.oneCell' = true) (h2 : vv.oneCell' = true) (h3 : av.oneCell' = true) (h4 : nv.oneCell' = true) (h5 : fv.oneCell' = true) : (askV a kv vv av nv fv).all (·.oneCell') = true := by
  simp [askV, u8, h1, h2, h3, h4, h5]
  simp [Value.oneCell']
theorem LR.one {P : Nat → Prop} {w : World} {v : Value} {xs : List Value} (h : LR P w v xs) : v.oneCell' = true := by
  obtain ⟨A, cap, rfl, _⟩ := h; rfl

theorem askTy : ∃ fs, Try.prog.underlying 29 = some (.struct fs) := by
  have h : (Try.prog.underlying 29).map (fun d => match d with | .struct _ => true | _ => false) = some true := by kernel_rfl
  cases e : Try.prog.underlying 29 with
  | none => rw [e] at h; cases h
  | some d => rw [e] at h; cases d with
    | struct fs => exact ⟨fs, rfl⟩
    | _ => simp at h
theorem dec_out (g : Nat) (wf : World) (tmps : Array Value) (c : Int) (cs : Array Value) (h2 : tmps.getD 2 undef = .pointer (some ⟨g, 0, none⟩)) (h3 : tmps.getD 3 undef = .int .i64 c) (hb : Blk wf g 29 cs) (hz : cs.size = 14) :
    (results Try.f9 tmps).run Try.prog wf = .ok (.tuple #[.agg cs, .int .i64 c]) wf := by
  obtain ⟨fs, hu⟩ := askTy
  have hl := run_loadVar_row (P := Try.prog) wf g 29 29 cs (0, 0) (.struct fs) hb hu rfl (by rw [askInfo, hz])
  have h2' : tmps[2]?.getD undef = .pointer (some ⟨g, 0, none⟩) := by simpa using h2
  have h3' : tmps[3]?.getD undef = .int .i64 c := by simpa using h3
  simp [results, Try.f9, Try.results9, h2', h3', asAddr, hl]

/-- the block of Decode's own b, and what else Decode has made, when b is made -/
structure Mid (w : World) (k : UInt8) (s : ByteArray) (X : Nat) (p q : Value) (wx : World) : Prop where
  b0 : Blk wx w.heap.size 23 #[u8 k, .string s]
  b1 : Blk wx (w.heap.size + 1) 29 (askV {} (.slice none 0 0) (.slice none 0 0) (.slice none 0 0) (.slice none 0 0) (.slice none 0 0))
  bX : Blk wx X 42 #[p, q]
  hX : w.heap.size + 2 ≤ X
  bel : Below w.heap.size w wx
theorem Mid.below {w : World} {k : UInt8} {s : ByteArray} {X : Nat} {p q : Value} {wx wy : World} (h : Mid w k s X p q wx) (hb : Below wx.heap.size wx wy) : Mid w k s X p q wy :=
  ⟨h.b0.below hb h.b0.lt, h.b1.below hb h.b1.lt, h.bX.below hb h.bX.lt, h.hX, h.bel.trans (hb.mono h.bel.size)⟩
theorem mid_late {w w1 : World} {k : UInt8} {s : ByteArray} {p q : Value}
    (hB : Below (((w.alloc (.cells #[u8 k, .string s] 23)).alloc (.cells (askV {} (.slice none 0 0) (.slice none 0 0) (.slice none 0 0) (.slice none 0 0) (.slice none 0 0)) 29)).drew).heap.size
      (((w.alloc (.cells #[u8 k, .string s] 23)).alloc (.cells (askV {} (.slice none 0 0) (.slice none 0 0) (.slice none 0 0) (.slice none 0 0) (.slice none 0 0)) 29)).drew) w1) :
    Mid w k s w1.heap.size p q (w1.alloc (.cells #[p, q] 42)) := by
  have z : (((w.alloc (.cells #[u8 k, .string s] 23)).alloc (.cells (askV {} (.slice none 0 0) (.slice none 0 0) (.slice none 0 0) (.slice none 0 0) (.slice none 0 0)) 29)).drew).heap.size = w.heap.size + 2 := by simp
  have hz := hB.size
  rw [z] at hz
  have c0 : Blk w1 w.heap.size 23 #[u8 k, .string s] := (show Blk (((w.alloc (.cells #[u8 k, .string s] 23)).alloc (.cells (askV {} (.slice none 0 0) (.slice none 0 0) (.slice none 0 0) (.slice none 0 0) (.slice none 0 0)) 29)).drew) _ _ _ from (Blk.new w _ _).alloc _).below hB (by rw [z]; omega)
  have c1 : Blk w1 (w.heap.size + 1) 29 (askV {} (.slice none 0 0) (.slice none 0 0) (.slice none 0 0) (.slice none 0 0) (.slice none 0 0)) := by
    have := Blk.new (w.alloc (.cells #[u8 k, .string s] 23)) 29 (askV {} (.slice none 0 0) (.slice none 0 0) (.slice none 0 0) (.slice none 0 0) (.slice none 0 0))
    rw [show (w.alloc (.cells #[u8 k, .string s] 23)).heap.size = w.heap.size + 1 by simp] at this
    exact (show Blk (((w.alloc (.cells #[u8 k, .string s] 23)).alloc (.cells (askV {} (.slice none 0 0) (.slice none 0 0) (.slice none 0 0) (.slice none 0 0) (.slice none 0 0)) 29)).drew) _ _ _ from this).below hB (by rw [z]; omega)
  refine ⟨c0.alloc _, c1.alloc _, Blk.new _ _ _, hz, ?_⟩
  have h1 : Below w.heap.size w w1 := ((((Below.refl _ _).alloc (Nat.le_refl _) _).alloc (by simp) _).drew).trans (hB.mono (by rw [z]; omega))
  exact h1.alloc h1.size _
theorem mid_early {w w1 : World} {k : UInt8} {s : ByteArray} {p0 q0 p q : Value}
    (hB : Below (((w.alloc (.cells #[u8 k, .string s] 23)).alloc (.cells (askV {} (.slice none 0 0) (.slice none 0 0) (.slice none 0 0) (.slice none 0 0) (.slice none 0 0)) 29)).alloc (.cells #[p0, q0] 42)).drew.heap.size
      (((w.alloc (.cells #[u8 k, .string s] 23)).alloc (.cells (askV {} (.slice none 0 0) (.slice none 0 0) (.slice none 0 0) (.slice none 0 0) (.slice none 0 0)) 29)).alloc (.cells #[p0, q0] 42)).drew w1) :
    Mid w k s (w.heap.size + 2) p q ((w1.setCell ⟨w.heap.size + 2, 0, none⟩ p).setCell ⟨w.heap.size + 2, 1, none⟩ q) := by
  have z : (((w.alloc (.cells #[u8 k, .string s] 23)).alloc (.cells (askV {} (.slice none 0 0) (.slice none 0 0) (.slice none 0 0) (.slice none 0 0) (.slice none 0 0)) 29)).alloc (.cells #[p0, q0] 42)).drew.heap.size = w.heap.size + 3 := by simp
  have hz := hB.size
  rw [z] at hz
  have g0 := (Blk.new w 23 #[u8 k, .string s]).alloc (.cells (askV {} (.slice none 0 0) (.slice none 0 0) (.slice none 0 0) (.slice none 0 0) (.slice none 0 0)) 29) |>.alloc (.cells #[p0, q0] 42)
  have g1 := (Blk.new (w.alloc (.cells #[u8 k, .string s] 23)) 29 (askV {} (.slice none 0 0) (.slice none 0 0) (.slice none 0 0) (.slice none 0 0) (.slice none 0 0))).alloc (.cells #[p0, q0] 42)
  have g2 := Blk.new ((w.alloc (.cells #[u8 k, .string s] 23)).alloc (.cells (askV {} (.slice none 0 0) (.slice none 0 0) (.slice none 0 0) (.slice none 0 0) (.slice none 0 0)) 29)) 42 #[p0, q0]
  rw [show (w.alloc (.cells #[u8 k, .string s] 23)).heap.size = w.heap.size + 1 by simp] at g1
  rw [show ((w.alloc (.cells #[u8 k, .string s] 23)).alloc (.cells (askV {} (.slice none 0 0) (.slice none 0 0) (.slice none 0 0) (.slice none 0 0) (.slice none 0 0)) 29)).heap.size = w.heap.size + 2 by simp] at g2
  have c0 : Blk w1 w.heap.size 23 #[u8 k, .string s] := g0.drew_.below hB (by rw [z]; omega)
  have c1 : Blk w1 (w.heap.size + 1) 29 (askV {} (.slice none 0 0) (.slice none 0 0) (.slice none 0 0) (.slice none 0 0) (.slice none 0 0)) := g1.drew_.below hB (by rw [z]; omega)
  have c2 : Blk w1 (w.heap.size + 2) 42 #[p0, q0] := g2.drew_.below hB (by rw [z]; omega)
  have k1 : Keeps [w.heap.size + 2] w1 ((w1.setCell ⟨w.heap.size + 2, 0, none⟩ p).setCell ⟨w.heap.size + 2, 1, none⟩ q) := ((Keeps.refl _ _).set _ _ _ (.inl (by simp))).set _ _ _ (.inl (by simp))
  refine ⟨c0.keeps k1 (by simp), c1.keeps k1 (by simp), ?_, Nat.le_refl _, ?_⟩
  · exact (c2.set_ 0 p).set_ 1 q
  · have h1 : Below w.heap.size w w1 := (((((Below.refl _ _).alloc (Nat.le_refl _) _).alloc (by simp) _).alloc (by simp; omega) _).drew).trans (hB.mono (by rw [z]; omega))
    exact h1.trans (k1.below (fun i hi => by rw [List.mem_singleton.1 hi]; omega) h1.size)
set_option maxRecDepth 100000 in
theorem dec_kind (k : UInt8) (s : ByteArray) (w : World) (hk : Instr.findNow (.int .u8) (u8 k) kEs.toList 0 = some none) :
    Calls Try.prog 9 #[.agg #[u8 k, .string s]] w (DecP ({}, 5) w) := by
  have hml := fun w1 => @mid_late w w1 k s .nilFunc .nilFunc
  have hme := fun w1 => @mid_early w w1 k s .nilFunc .nilFunc .nilFunc .nilFunc
  unfold u8 at *
  go_enter Try.func9, Try.ntmps9
  go_upto_region 1 with fail
  go_cut [4, 5] (fun s4 s5 wx => ∃ X, s4 = .pointer (some ⟨X, 0, none⟩) ∧ s5 = .bool false ∧ Mid w k s X .nilFunc .nilFunc wx)
  case first =>
    go_region_held3 (fun w' => w'.cell? ⟨w.heap.size, 0, none⟩ = some (.int .u8 (k.toNat : Int))) (go_keep) ((go_at_call 17; refine (kinds_kp _).mono ?_; rintro e w1 ⟨b, rfl, hb, hB⟩; have hl := look_no w1 b _ _ hb _ hk; have hl2 := look_no (w1.alloc (.cells #[.nilFunc, .nilFunc] 42)) b _ _ ((Below.heap_alloc w1 _ b (Array.getElem?_eq_some_iff.1 hb).1).trans hb) _ hk; have c0 : w1.cell? ⟨w.heap.size, 0, none⟩ = some (.int .u8 (k.toNat : Int)) := (by rw [(bcell hB).1 _ _ (by simp; omega)]; simp [go_sem]); have n1 : w1.heap.size ≠ w.heap.size := (by have := hB.size; simp at this; omega); have n2 : w.heap.size ≠ w1.heap.size := n1.symm; have n3 : w.heap.size + 2 ≠ w.heap.size := (by omega); obtain ⟨hcc, hff⟩ := bcell hB))
    all_goals
      clear hcc hff hl hl2
      go_wp2_with fail
      go_meet
      first
        | exact ⟨w1.heap.size, rfl, rfl, hml _ hB⟩
        | exact ⟨w.heap.size + 2, rfl, rfl, hme _ hB⟩
  case rest =>
    obtain ⟨X, rfl, rfl, hM⟩ := hcut
    clear hml hme
    go_wp2_with (refine wpList_store_mid (op := ⟨none, .store 29 (.tmp 2) (.tmp 17), _, _, _, _⟩) rfl 29 (.tmp 2) (.tmp 17) rfl (w.heap.size + 1) 0 (askV {} (.slice none 0 0) (.slice none 0 0) (.slice none 0 0) (.slice none 0 0) (.slice none 0 0)) (by rfl) (by rfl) (hM.b1.there _ (Nat.le_refl _)) askInfo (askOne _ _ _ _ _ _ rfl rfl rfl rfl rfl) ?_)
    have hb := hM.b1.store (askV {} (.slice none 0 0) (.slice none 0 0) (.slice none 0 0) (.slice none 0 0) (.slice none 0 0)) rfl
    exact bodyPost_ret (v := .tuple #[.agg (askV {} (.slice none 0 0) (.slice none 0 0) (.slice none 0 0) (.slice none 0 0) (.slice none 0 0)), .int .i64 5]) (dec_out _ _ _ _ _ (by rfl) (by rfl) hb rfl) rfl
      (DecP.none 5 _ _ (((Keeps.sets (w.heap.size + 1) (.inl (List.mem_singleton.2 rfl)) _ 0 _ (Keeps.refl [w.heap.size + 1] wc)).below (fun i hi => by rw [List.mem_singleton.1 hi]; omega) hM.bel.size) |> hM.bel.trans))
set_option maxRecDepth 100000 in
theorem dec_form (k : UInt8) (s : ByteArray) (w : World) (i rd wr : Nat) (hk : Instr.findNow (.int .u8) (u8 k) kEs.toList 0 = some (some (i, .agg #[fnV rd, fnV wr]))) (hr : rightL (k, s.data.toList) = false) (hs : s.size ≤ 281474976710656) :
    Calls Try.prog 9 #[.agg #[u8 k, .string s]] w (DecP ({}, 4) w) := by
  have hml := fun w1 => @mid_late w w1 k s (fnV rd) (fnV wr)
  have hme := fun w1 => @mid_early w w1 k s .nilFunc .nilFunc (fnV rd) (fnV wr)
  have dr := fun w => right_any k s w hs
  rw [hr] at dr
  clear hr
  unfold u8 at *
  go_enter Try.func9, Try.ntmps9
  go_upto_region 1 with fail
  go_cut [4, 5] (fun s4 s5 wx => ∃ X, s4 = .pointer (some ⟨X, 0, none⟩) ∧ s5 = .bool true ∧ Mid w k s X (fnV rd) (fnV wr) wx)
  case first =>
    go_region_held3 (fun w' => w'.cell? ⟨w.heap.size, 0, none⟩ = some (.int .u8 (k.toNat : Int))) (go_keep) ((go_at_call 17; refine (kinds_kp _).mono ?_; rintro e w1 ⟨b, rfl, hb, hB⟩; have hl := look_yes w1 b _ _ hb _ _ _ hk; have hl2 := look_yes (w1.alloc (.cells #[.nilFunc, .nilFunc] 42)) b _ _ ((Below.heap_alloc w1 _ b (Array.getElem?_eq_some_iff.1 hb).1).trans hb) _ _ _ hk; have c0 : w1.cell? ⟨w.heap.size, 0, none⟩ = some (.int .u8 (k.toNat : Int)) := (by rw [(bcell hB).1 _ _ (by simp; omega)]; simp [go_sem]); have n1 : w1.heap.size ≠ w.heap.size := (by have := hB.size; simp at this; omega); have n2 : w.heap.size ≠ w1.heap.size := n1.symm; have n3 : w.heap.size + 2 ≠ w.heap.size := (by omega); obtain ⟨hcc, hff⟩ := bcell hB))
    all_goals
      clear hcc hff hl hl2
      go_wp2_with fail
      go_meet
      first
        | exact ⟨w1.heap.size, rfl, rfl, hml _ hB⟩
        | exact ⟨w.heap.size + 2, rfl, rfl, hme _ hB⟩
  case rest =>
    obtain ⟨X, rfl, rfl, hM⟩ := hcut
    clear hml hme
    have c0 : wc.cell? ⟨w.heap.size, 0, none⟩ = some (.int .u8 (k.toNat : Int)) := hM.b0.cell 0
    have c1 : wc.cell? ⟨w.heap.size, 1, none⟩ = some (.string s) := hM.b0.cell 1
    go_wp2_with (first | (go_at_call 18; refine (dr _).mono ?_; rintro e w2 ⟨rfl, hb2⟩; have hM2 := hM.below hb2) | (refine wpList_store_mid (op := ⟨none, .store 29 (.tmp 2) (.tmp 21), _, _, _, _⟩) rfl 29 (.tmp 2) (.tmp 21) rfl (w.heap.size + 1) 0 (askV {} (.slice none 0 0) (.slice none 0 0) (.slice none 0 0) (.slice none 0 0) (.slice none 0 0)) (by rfl) (by rfl) (hM2.b1.there _ (Nat.le_refl _)) askInfo (askOne _ _ _ _ _ _ rfl rfl rfl rfl rfl) ?_))
    have hb := hM2.b1.store (askV {} (.slice none 0 0) (.slice none 0 0) (.slice none 0 0) (.slice none 0 0) (.slice none 0 0)) rfl
    exact bodyPost_ret (v := .tuple #[.agg (askV {} (.slice none 0 0) (.slice none 0 0) (.slice none 0 0) (.slice none 0 0) (.slice none 0 0)), .int .i64 4]) (dec_out _ _ _ _ _ (by rfl) (by rfl) hb rfl) rfl
      (DecP.none 4 _ _ (hM2.bel.trans ((Keeps.sets (w.heap.size + 1) (.inl (List.mem_singleton.2 rfl)) _ 0 _ (Keeps.refl [w.heap.size + 1] _)).below (fun i hi => by rw [List.mem_singleton.1 hi]; omega) hM2.bel.size)))
end Go.Proofs.Ytojgeilihoilnaa
namespace Go.Proofs.Ytojgeilihoilnaa
open Go.ChangeShapes Go.WideShapes Go.ChangeAt Go.RowKit
set_option linter.unusedVariables false
attribute [local go_sem ↓] Go.wp_at_zero Go.wp_at_succ

/-- what Decode makes of what was read -/
def decR (F : Ask × Tx × Bool) : Ask × Int := if F.2.2 = true ∨ F.2.1 ≠ [] then ({}, 4) else (F.1, 0)
theorem Mid.kept {w : World} {k : UInt8} {s : ByteArray} {X : Nat} {p q : Value} {wx wy : World} {S : List Nat} (h : Mid w k s X p q wx) (hk : Keeps S wx wy) (h0 : w.heap.size ∉ S) (h1 : w.heap.size + 1 ∉ S) (h2 : X ∉ S) (h3 : ∀ i ∈ S, w.heap.size ≤ i) : Mid w k s X p q wy :=
  ⟨h.b0.keeps hk h0, h.b1.keeps hk h1, h.bX.keeps hk h2, h.hX, h.bel.trans (hk.below h3 h.bel.size)⟩
theorem askInfo' (a : Ask) (kv vv av nv fv : Value) : (Try.prog.info? 29).map (·.size) = some (askV a kv vv av nv fv).size := askInfo
end Go.Proofs.Ytojgeilihoilnaa
