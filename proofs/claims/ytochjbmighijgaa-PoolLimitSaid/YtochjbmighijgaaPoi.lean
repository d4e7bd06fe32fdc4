/- Package pool, its code: given, sits, lend, a new number, open. Conditions: how many calls there were. -/
import Derived.Test.YtochjbmighijgaaPoh
import Derived.Test.YtochjbmighijgaaShelf
import Derived.Maps.Keyed
namespace Go.Proofs.Ytochjbmighijgaa.PO
open Go.ChangeShapes Go.WideShapes Go.ChangeAt Go.RowKit Go.Maps Go.ChangeMaps
open Go.Proofs.Ytochjbmighijgaa.SL Go.Proofs.Ytochjbmighijgaa.RW
open Go.Proofs.Ytochjbmighijgaa.LN (tkY tkN pu OI IS RdP)
set_option maxRecDepth 100000
set_option linter.unusedVariables false
set_option linter.unusedSimpArgs false

def I9 (n : Int) : Prop := -9223372036854775808 ≤ n ∧ n ≤ 9223372036854775807
theorem iK : Keyed Try.prog 3 := int_keyed Try.underlying3
theorem keyI (n : Int) (h : I9 n) : keyOf Try.prog 3 (.int .i64 n) = some (.int .i64 n) := by
  obtain ⟨h1, h2⟩ := h
  have hw : (Lit.int IntKind.i64 n).wf = true := by
    simp [Lit.wf, IntKind.min, IntKind.max, IntKind.signed, IntKind.bits]; omega
  unfold keyOf
  rw [Try.underlying3]
  simp only [mapKey]
  simp [hw]
theorem zero_of (t : TypeId) (v : Value) (h : (Try.prog.info? t).bind (fun i => i.zero) = some v) (w : World) : (zeroValue t).run Try.prog w = .ok v w := by
  cases hi : Try.prog.info? t with
  | none => rw [hi] at h; cases h
  | some j =>
    rw [hi] at h
    simp [zeroValue, typeInfo, hi, show j.zero = some v from h]
def PL (B : Nat) (w : World) (a N : Nat) (C : Cf) (R : Raw) : Prop := ∃ M, PB B w a N C R M
def seO (o : Option (Nat × Int × Bool)) : Value := match o with | some s => seV s | none => .agg #[.pointer none, nV 0, .bool false]
def lkO (o : Option (Nat × Int × Int)) : Value := match o with | some s => lkV s | none => .agg #[.pointer none, nV 0, nV 0]
section
variable {B : Nat} {w w' : World} {a N : Nat} {C : Cf} {R : Raw} {M : Nat → Mem}
theorem PL.below (h : PL B w a N C R) (hb : Below w.heap.size w w') : PL B w' a N C R := h.imp fun _ h => h.below hb
theorem PL.mono (h : PL B w a N C R) {n : Nat} (hn : N ≤ n) : PL B w a n C R := h.imp fun _ h => h.mono hn
theorem PL.le (h : PL B w a N C R) : B ≤ w.heap.size := by obtain ⟨_, h⟩ := h; exact h.le
theorem PL.cells (h : PL B w a N C R) : w.cell? ⟨a, 0, none⟩ = some (ptr a) ∧ w.cell? ⟨a, 1, none⟩ = some (nV (C.lim : Int)) ∧ w.cell? ⟨a, 2, none⟩ = some (nV (C.most : Int)) ∧ w.cell? ⟨a, 3, none⟩ = some (nV (C.wait : Int)) ∧ w.cell? ⟨a, 4, none⟩ = some (nV (C.idl : Int)) ∧ w.cell? ⟨a, 5, none⟩ = some (nV (R.last : Int)) ∧
    w.cell? ⟨a, 6, none⟩ = some (comeV C) ∧ w.cell? ⟨a, 7, none⟩ = some (.map (some C.gb)) ∧ w.cell? ⟨a, 8, none⟩ = some (.map (some C.sb)) ∧ w.cell? ⟨a, 9, none⟩ = some (.map (some C.nb)) := by obtain ⟨_, h⟩ := h; exact h.cells
theorem PL.fr (h : PL B w a N C R) (hb : Below w.heap.size w w') : Fr B w w' := Fr.below hb h.le
theorem PB.lookG (h : PB B w a N C R M) (k : ByteArray) (hk : k.size ≤ 281474976710656) :
    (Instr.lookup 49 (.map (some C.gb)) (.string k) true).run Try.prog w = .ok (.tuple #[pV (R.gm k), .bool (R.gm k).isSome]) w := by
  have := h.mg.look strK Try.underlying49 (zero_of 57 (.pointer none) (by kernel_rfl) w) (keyB k hk)
  rw [this, show gV R (.string k.data.toList) = (R.gm k).map ptr from rfl]
  simp only [Option.isSome_map]
  cases R.gm k <;> rfl
theorem PB.lookS (h : PB B w a N C R M) (c : Int) (hc : I9 c) :
    (Instr.lookup 50 (.map (some C.sb)) (nV c) true).run Try.prog w = .ok (.tuple #[seO (R.sm c), .bool (R.sm c).isSome]) w := by
  have := h.ms.look iK Try.underlying50 (zero_of 59 (.agg #[.pointer none, nV 0, .bool false]) (by kernel_rfl) w) (keyI c hc)
  rw [this]
  simp only [sV, MV.fI, Option.isSome_map]
  cases R.sm c <;> rfl
theorem PB.lookL (h : PB B w a N C R M) (c : Int) (hc : I9 c) :
    (Instr.lookup 51 (.map (some C.nb)) (nV c) true).run Try.prog w = .ok (.tuple #[lkO (R.nm c), .bool (R.nm c).isSome]) w := by
  have := h.mn.look iK Try.underlying51 (zero_of 73 (.agg #[.pointer none, nV 0, nV 0]) (by kernel_rfl) w) (keyI c hc)
  rw [this]
  simp only [lV, MV.fI, Option.isSome_map]
  cases R.nm c <;> rfl
theorem PB.lookL1 (h : PB B w a N C R M) (c : Int) (hc : I9 c) :
    (Instr.lookup 51 (.map (some C.nb)) (nV c) false).run Try.prog w = .ok (lkO (R.nm c)) w := by
  have := h.mn.look1 iK Try.underlying51 (zero_of 73 (.agg #[.pointer none, nV 0, nV 0]) (by kernel_rfl) w) (keyI c hc)
  rw [this]
  simp only [lV, MV.fI]
  cases R.nm c <;> rfl
open Classical in
theorem PB.putS (h : PB B w a N C R M) {n : Nat} (hn : N ≤ n) (c : Int) (s : Option (Nat × Int × Bool)) (hm : MV.MapV Try.prog 3 w' C.sb n (fun x => if x = .int .i64 c then s.map seV else sV R x)) (ht : w.mapTurned w' C.sb) : PB B w' a n C { R with sm := upd R.sm c s } M ∧ Fr B w w' :=
  h.seats hn (hm.congr fun kl => by
    rw [MV.fI_put]
    congr 1
    funext x
    show (if x = c then _ else _) = (if x = c then s else R.sm x).map seV
    split <;> rfl) ht
open Classical in
theorem PB.putL (h : PB B w a N C R M) {n : Nat} (hn : N ≤ n) (c : Int) (s : Option (Nat × Int × Int)) (hm : MV.MapV Try.prog 3 w' C.nb n (fun x => if x = .int .i64 c then s.map lkV else lV R x)) (ht : w.mapTurned w' C.nb) : PB B w' a n C { R with nm := upd R.nm c s } M ∧ Fr B w w' :=
  h.links hn (hm.congr fun kl => by
    rw [MV.fI_put]
    congr 1
    funext x
    show (if x = c then _ else _) = (if x = c then s else R.nm x).map lkV
    split <;> rfl) ht
open Classical in
theorem PB.putG (h : PB B w a N C R M) {n : Nat} (hn : N ≤ n) (c : ByteArray) (s : Option Nat) (hm : MV.MapV Try.prog 9 w' C.gb n (fun x => if x = .string c.data.toList then s.map ptr else gV R x)) (ht : w.mapTurned w' C.gb) : PB B w' a n C { R with gm := upd R.gm c s } M ∧ Fr B w w' :=
  h.groups hn (hm.congr fun kl => by
    rw [MV.fS_put]
    congr 1
    funext x
    show (if x = c then _ else _) = (if x = c then s else R.gm x).map ptr
    split <;> rfl) ht
end
theorem binfo : ∃ j, Try.prog.info? 53 = some j := Option.isSome_iff_exists.1 (by kernel_rfl)
theorem eql_same (w : World) (a : Addr) : (binOp .eql 23 (.pointer (some a)) (.pointer (some a))).run Try.prog w = .ok (.bool true) w := by
  obtain ⟨j, hj⟩ := binfo
  exact run_eql_ptr_same (P := Try.prog) w a Try.underlying23 hj
theorem eql_none (w : World) (a : Addr) : (binOp .eql 23 (.pointer none) (.pointer (some a))).run Try.prog w = .ok (.bool false) w := by
  have h : ∀ d : Nat, (Op.equalIn (d + 1) 23 (.pointer none) (.pointer (some a))).run Try.prog w = .ok false w := fun d => by
    simp [Op.equalIn, run_underlying Try.underlying23]
  simp only [binOp]
  simp [Op.equal, Op.maxDepth, h 9999]
/-- what is not there: nil, or a pool that New did not give -/
def Nb (w : World) (v : Value) : Prop := v = .pointer none ∨ ∃ b, v = ptr b ∧ w.cell? ⟨b, 0, none⟩ = some (.pointer none)
theorem Nb.below {w w' : World} {v : Value} (h : Nb w v) (hb : Below w.heap.size w w') : Nb w' v := by
  rcases h with h | ⟨b, h1, h2⟩
  · exact .inl h
  · exact .inr ⟨b, h1, (hb.cell (p := ⟨b, 0, none⟩) (World.block_lt_of_cell? _ _ h2)).trans h2⟩
theorem given_yes (w : World) (a : Nat) (h : w.cell? ⟨a, 0, none⟩ = some (ptr a)) : Calls Try.prog 20 #[ptr a] w fun e w' => e = .returned (.bool true) ∧ w = w' := by
  have he := fun w => PO.eql_same w ⟨a, 0, none⟩
  go_enter Try.func20, Try.ntmps20
  go_wp2
  go_ret
  exact ⟨rfl, rfl⟩
theorem given_no {w : World} {v : Value} (h : Nb w v) : Calls Try.prog 20 #[v] w fun e w' => e = .returned (.bool false) ∧ w = w' := by
  rcases h with rfl | ⟨b, rfl, h⟩
  · go_enter Try.func20, Try.ntmps20
    go_wp2
    go_ret
    exact ⟨rfl, rfl⟩
  · have he := fun w => PO.eql_none w ⟨b, 0, none⟩
    go_enter Try.func20, Try.ntmps20
    go_wp2
    go_ret
    exact ⟨rfl, rfl⟩
section
variable {B : Nat} {w w' : World} {a N : Nat} {C : Cf} {R : Raw} {M : Nat → Mem}
/-- a result's own cells, turned -/
theorem PB.far {M : Nat → Mem} (h : PB B w a N C R M) {b : Nat} {t : TypeId} {cs : Array Value} (hk : Bk w b t cs) (i : Nat) (u : Value) (h1 : ¬ Gt t := by unfold Gt; decide) (h2 : t ≠ 53 := by decide) (h3 : t ≠ 23 := by decide) : PB B (w.setCell ⟨b, i, none⟩ u) a N C R M := by
  have far : ∀ k, k ≠ b → (w.setCell ⟨b, i, none⟩ u).heap[k]? = w.heap[k]? := fun k hk => Below.heap_setCell w ⟨b, i, none⟩ u k hk
  refine h.keep fun k hb => far k ?_
  rcases hb with rfl | rfl | rfl | rfl | rfl | ⟨g, q, hg, hb⟩
  · exact (hk.ne_ h.bk h2).symm
  · exact (hk.ne_ h.pk h3).symm
  · exact (bk_nmap hk h.mg).symm
  · exact (bk_nmap hk h.ms).symm
  · exact (bk_nmap hk h.mn).symm
  · rintro rfl
    exact (h.row g q hg).not_own hk (fun _ _ _ e => by injection e with _ e; subst e; exact h1) hb
theorem PL.far (h : PL B w a N C R) {b : Nat} {t : TypeId} {cs : Array Value} (hk : Bk w b t cs) (i : Nat) (u : Value) (h1 : ¬ Gt t := by unfold Gt; decide) (h2 : t ≠ 53 := by decide) (h3 : t ≠ 23 := by decide) : PL B (w.setCell ⟨b, i, none⟩ u) a N C R := h.imp fun _ h => h.far hk i u h1 h2 h3
theorem Fr.newCell {w0 : World} (h : Fr B w0 w) (hB : B ≤ w0.heap.size) {b : Nat} (hb : w0.heap.size ≤ b) (i : Nat) (u : Value) : Fr B w0 (w.setCell ⟨b, i, none⟩ u) :=
  ⟨h.bel.setCell (p := ⟨b, i, none⟩) (Nat.le_trans hB hb) u, fun k cs t fr h1 h2 hk => (Below.heap_setCell w ⟨b, i, none⟩ u k (by have := (Array.getElem?_eq_some_iff.1 hk).1; show k ≠ b; omega)).trans (h.kt k cs t fr h1 h2 hk)⟩
theorem PL.cell3 {w0 : World} {cs : Array Value} (h : PL B w a N C R) (hf : Fr B w0 w) {b : Nat} (hb : w0.heap.size ≤ b) (hB : B ≤ w0.heap.size) {t : TypeId} (hk : Bk w b t cs) (x y z : Value) (h1 : ¬ Gt t := by unfold Gt; decide) (h2 : t ≠ 53 := by decide) (h3 : t ≠ 23 := by decide) :
    PL B (((w.setCell ⟨b, 0, none⟩ x).setCell ⟨b, 1, none⟩ y).setCell ⟨b, 2, none⟩ z) a N C R ∧ Fr B w0 (((w.setCell ⟨b, 0, none⟩ x).setCell ⟨b, 1, none⟩ y).setCell ⟨b, 2, none⟩ z) :=
  ⟨((h.far hk 0 x h1 h2 h3).far (hk.set_ 0 x) 1 y h1 h2 h3).far ((hk.set_ 0 x).set_ 1 y) 2 z h1 h2 h3, ((hf.newCell hB hb 0 x).newCell hB hb 1 y).newCell hB hb 2 z⟩
set_option maxHeartbeats 4000000 in
theorem sits_any (h : PL B w a N C R) (c : Int) (hc : I9 c) :
    Calls Try.prog 26 #[ptr a, nV c] w (RdP (.tuple #[seO (R.sm c), .bool (R.sm c).isSome]) w) := by
  obtain ⟨M, h⟩ := h
  obtain ⟨W0, hW0⟩ : ∃ W, w.alloc (.cells #[.pointer none, nV 0, .bool false] 59) = W := ⟨_, rfl⟩
  obtain ⟨kb, hkb⟩ : ∃ b, w.heap.size = b := ⟨_, rfl⟩
  have HB0 : Hid (Below w.heap.size w W0) := Lib.hid (by rw [← hW0]; exact (Below.refl _ _).alloc (Nat.le_refl _) _)
  have HK0 : Hid (Bk W0 kb 59 #[.pointer none, nV 0, .bool false]) := Lib.hid (by rw [← hW0, ← hkb]; exact Bk.new _ _ _)
  have h0 := h.below HB0.out
  obtain ⟨c0, _, _, _, _, _, _, _, c8, _⟩ := h0.cells
  have hl := h0.lookS c hc
  generalize (R.sm c).isSome = bo at *
  obtain ⟨px, pn, pb, hs⟩ : ∃ px pn pb, seO (R.sm c) = .agg #[.pointer px, nV pn, .bool pb] := by
    cases R.sm c with
    | none => exact ⟨_, _, _, rfl⟩
    | some s => exact ⟨_, _, _, rfl⟩
  rw [hs] at hl ⊢
  clear hs
  obtain ⟨W1, hW1⟩ : ∃ W, W0.alloc (.cells #[.pointer px, nV pn, .bool pb] 59) = W := ⟨_, rfl⟩
  obtain ⟨sb, hsb⟩ : ∃ b, W0.heap.size = b := ⟨_, rfl⟩
  have HB1 : Hid (Below W0.heap.size W0 W1) := Lib.hid (by rw [← hW1]; exact (Below.refl _ _).alloc (Nat.le_refl _) _)
  have HK1 : Hid (Bk W1 sb 59 #[.pointer px, nV pn, .bool pb]) := Lib.hid (by rw [← hW1, ← hsb]; exact Bk.new _ _ _)
  have k1 := HK1.out
  have k0 : Bk W1 kb 59 #[.pointer none, nV 0, .bool false] := HK0.out.heap (HB1.out.block kb HK0.out.lt)
  have s0 := k1.cell 0
  have sf0 := k1.frozen 0
  have s1 := k1.cell 1
  have sf1 := k1.frozen 1
  have s2 := k1.cell 2
  have sf2 := k1.frozen 2
  simp at s0 s1 s2
  have r0 := k0.cell 0
  have rf0 := k0.frozen 0
  have r1 := k0.cell 1
  have rf1 := k0.frozen 1
  have r2 := k0.cell 2
  have rf2 := k0.frozen 2
  simp at r0 r1 r2
  have K0 := Lib.hid k0
  have HB := Lib.hid (HB0.out.trans (HB1.out.mono HB0.out.size))
  have HKB : Hid (w.heap.size ≤ kb) := Lib.hid (Nat.le_of_eq hkb)
  clear h hc h0 k1 k0
  go_enter Try.func26, Try.ntmps26
  go_wp2_with fail
  try rw [hW0]
  try rw [hkb]
  refine (given_yes _ _ c0).mono ?_
  rintro e w' ⟨rfl, rfl⟩
  go_wp2_with fail
  try rw [hW1]
  try rw [hsb]
  have k2 := ((K0.out.set_ 0 (.pointer px)).set_ 1 (nV pn)).set_ 2 (.bool pb)
  have e0 := k2.cell 0
  have e1 := k2.cell 1
  have e2 := k2.cell 2
  simp at e0 e1 e2
  refine bodyPost_ret (v := .tuple #[.agg #[.pointer px, nV pn, .bool pb], .bool bo]) (by simp [results, Try.results26, go_sem, e0, e1, e2]) rfl ?_
  exact ⟨rfl, ((HB.out.setCell (p := ⟨kb, 0, none⟩) HKB.out _).setCell (p := ⟨kb, 1, none⟩) HKB.out _).setCell (p := ⟨kb, 2, none⟩) HKB.out _⟩
abbrev loV (c n : Int) (f : Bool) : Value := .agg #[nV c, nV n, .bool f]
def lendR (R : Raw) (g : Nat) (c n : Int) : Raw := { R with sm := upd R.sm c (some (g, n, false)), nm := upd R.nm n (some (g, c, 0)) }
set_option maxHeartbeats 4000000 in
theorem lend_any (h : PL B w a N C R) (hN : N ≤ 1000000) (g : Nat) (c n : Int) (hc : I9 c) (hn : I9 n) (fr : Bool) :
    Calls Try.prog 22 #[ptr a, ptr g, nV c, nV n, .bool fr] w fun e w' => e = .returned (loV c n fr) ∧ PL B w' a (N + 2) C (lendR R g c n) ∧ Fr B w w' := by
  obtain ⟨W0, hW0⟩ : ∃ W, w.alloc (.cells #[nV 0, nV 0, .bool false] 30) = W := ⟨_, rfl⟩
  obtain ⟨kb, hkb⟩ : ∃ b, w.heap.size = b := ⟨_, rfl⟩
  have HB0 : Hid (Below w.heap.size w W0) := Lib.hid (by rw [← hW0]; exact (Below.refl _ _).alloc (Nat.le_refl _) _)
  have HK0 : Hid (Bk W0 kb 30 #[nV 0, nV 0, .bool false]) := Lib.hid (by rw [← hW0, ← hkb]; exact Bk.new _ _ _)
  have HF0 := Lib.hid (h.fr HB0.out)
  obtain ⟨M, h⟩ := h
  have h0 := h.below HB0.out
  have HP := Lib.hid h0
  obtain ⟨_, _, _, _, _, _, _, _, c8, _⟩ := h0.cells
  have hm0 : N < maxLen := by unfold maxLen; omega
  have hm1 : N + 1 < maxLen := by unfold maxLen; omega
  obtain ⟨w3, hrun3, hm3, ht3⟩ := h0.ms.put iK Try.underlying50 hm0 (keyI c hc) (seV (g, n, false))
  obtain ⟨hp3, hf3⟩ := h0.putS (Nat.le_succ N) c (some (g, n, false)) hm3 ht3
  obtain ⟨_, _, _, _, _, _, _, _, _, d9⟩ := hp3.cells
  obtain ⟨w4, hrun4, hm4, ht4⟩ := hp3.mn.put iK Try.underlying51 hm1 (keyI n hn) (lkV (g, c, 0))
  obtain ⟨hp4, hf4⟩ := hp3.putL (Nat.le_succ (N + 1)) n (some (g, c, 0)) hm4 ht4
  have k4 := hf4.kt.bk (hf3.kt.bk HK0.out)
  have q0 := k4.cell 0
  have qf0 := k4.frozen 0
  have q1 := k4.cell 1
  have qf1 := k4.frozen 1
  have q2 := k4.cell 2
  have qf2 := k4.frozen 2
  simp at q0 q1 q2
  have K4 := Lib.hid k4
  have HP4 := Lib.hid (show PL B w4 a (N + 2) C (lendR R g c n) from ⟨M, hp4⟩)
  have HF4 := Lib.hid ((HF0.out.trans hf3).trans hf4)
  have HSZ : Hid (w.heap.size ≤ kb) := Lib.hid (Nat.le_of_eq hkb)
  have HBW := Lib.hid h.le
  clear h h0 hc hn hN hm3 ht3 hp3 hf3 hm4 ht4 hp4 hf4 k4 hm0 hm1
  go_enter Try.func22, Try.ntmps22
  go_wp2_with fail
  try rw [hW0]
  try rw [hkb]
  try clear hW0 hkb
  go_wp2
  have k5 := ((K4.out.set_ 0 (nV c)).set_ 1 (nV n)).set_ 2 (.bool fr)
  have e0 := k5.cell 0
  have e1 := k5.cell 1
  have e2 := k5.cell 2
  simp at e0 e1 e2
  refine bodyPost_ret (v := loV c n fr) (by simp [results, Try.results22, go_sem, e0, e1, e2]) rfl ?_
  have hr := PL.cell3 HP4.out HF4.out HSZ.out HBW.out (K4.out) (nV c) (nV n) (.bool fr)
  exact ⟨rfl, hr.1, hr.2⟩
end
end Go.Proofs.Ytochjbmighijgaa.PO
