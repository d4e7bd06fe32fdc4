/- What package front's writer does, for everything that is asked: the body that it writes. Condition: each text, and the body, is of at most 2^40 bytes.
   What package front's writer writes of a start, of a portal's arguments, and of a name. Condition: each text, and the body, is of at most 2^40 bytes.
   What package front's writer writes of a start, of a portal's arguments, and of a name. Condition: what is asked is of at most so many and so long texts (Few). -/
import Derived.Test.YtojgeilihoilnaaM2
import Derived.RegionTactic
import Derived.Deep.RegionLaw
import Derived.Deep.DrawnRows
import Derived.WalkLawsBesides
set_option linter.unusedSimpArgs false
set_option linter.unusedVariables false
namespace Go.Proofs.Ytojgeilihoilnaa
open Go.ChangeShapes Go.WideShapes Go.ChangeAt Go.RowKit
set_option linter.unusedVariables false
attribute [local go_sem ↓] Go.wp_at_zero Go.wp_at_succ

/-- a writer at block W: what it has written -/
def WB (w : World) (W : Nat) (b : Tx) : Prop := Blk w W 54 #[.string (ba b)]
def WsP (W : Nat) (b : Tx) (w : World) (e : Ending) (w' : World) : Prop := e = .returned (.tuple #[]) ∧ WB w' W b ∧ Keeps [W] w w'
theorem WB.done {W : Nat} {b b' : Tx} {w w1 : World} (h : WB w W b) (hb : Below w.heap.size w w1) : WsP W b' w (.returned (.tuple #[])) (w1.setCell ⟨W, 0, none⟩ (.string (ba b'))) :=
  ⟨rfl, (Blk.below h hb (Blk.lt h)).set_ 0 _, (Keeps.of hb).set _ _ _ (.inl (by simp))⟩
theorem WB.keeps {W : Nat} {b : Tx} {w w' : World} {S : List Nat} (h : WB w W b) (k : Keeps S w w') (hW : W ∉ S) : WB w' W b := Blk.keeps h k hW

section
variable (W : Nat) (b : Tx) (w : World)
theorem w4_any (n : Int) (h : WB w W b) (hb : b.length ≤ 1099511627776) :
    Calls Try.prog 57 #[.pointer (some ⟨W, 0, none⟩), .int .i64 n] w (WsP W (b ++ n32 n) w) := by
  have c0 : w.cell? ⟨W, 0, none⟩ = some (.string (ba b)) := Blk.cell h 0
  have d := fun w => put32_any (ba b) n (by rw [ba_size]; omega) w
  rw [put32_ba] at d
  go_enter Try.func57, Try.ntmps57
  go_wp2_with fail
  refine (d _).mono ?_; rintro e w1 ⟨rfl, hb1⟩
  have h1 := Blk.below h hb1 (Blk.lt h)
  have c1 : w1.cell? ⟨W, 0, none⟩ = some (.string (ba b)) := h1.cell 0
  have f1 := h1.frozen 0
  go_wp2
  go_end0
  exact h.done hb1
theorem w2_any (n : Int) (h : WB w W b) (hb : b.length ≤ 1099511627776) :
    Calls Try.prog 62 #[.pointer (some ⟨W, 0, none⟩), .int .i64 n] w (WsP W (b ++ n16 n) w) := by
  have c0 : w.cell? ⟨W, 0, none⟩ = some (.string (ba b)) := Blk.cell h 0
  have d := fun w => put16_any (ba b) n (by rw [ba_size]; omega) w
  rw [put16_ba] at d
  go_enter Try.func62, Try.ntmps62
  go_wp2_with fail
  refine (d _).mono ?_; rintro e w1 ⟨rfl, hb1⟩
  have h1 := Blk.below h hb1 (Blk.lt h)
  have c1 : w1.cell? ⟨W, 0, none⟩ = some (.string (ba b)) := h1.cell 0
  have f1 := h1.frozen 0
  go_wp2
  go_end0
  exact h.done hb1
theorem wtext_any (t : Tx) (h : WB w W b) (hb : b.length ≤ 1099511627776) (ht : t.length ≤ 1099511627776) :
    Calls Try.prog 58 #[.pointer (some ⟨W, 0, none⟩), .string (ba t)] w (WsP W (b ++ txt t) w) := by
  have c0 : w.cell? ⟨W, 0, none⟩ = some (.string (ba b)) := Blk.cell h 0
  have d := fun w => putText_any (ba b) (ba t) w (by rw [ba_size]; omega) (by rw [ba_size]; omega)
  rw [putText_ba] at d
  go_enter Try.func58, Try.ntmps58
  go_wp2_with fail
  refine (d _).mono ?_; rintro e w1 ⟨rfl, hb1⟩
  have h1 := Blk.below h hb1 (Blk.lt h)
  have c1 : w1.cell? ⟨W, 0, none⟩ = some (.string (ba b)) := h1.cell 0
  have f1 := h1.frozen 0
  go_wp2
  go_end0
  exact h.done hb1
end

/-- what is being written (from an ask at block X) by a writer at W, since w0 -/
structure WI (W X : Nat) (b : Tx) (a : Ask) (kv vv av nv fv : Value) (w0 w : World) : Prop where
  wb : WB w W b
  bx : Blk w X 29 (askV a kv vv av nv fv)
  hX : X = w0.heap.size
  lW : W < w0.heap.size
  kp : Keeps [W] w0 w
section
variable {W X : Nat} {b b' : Tx} {a : Ask} {kv vv av nv fv : Value} {w0 w w' : World}
theorem WI.new (h : WB w W b) : WI W w.heap.size b a kv vv av nv fv w (w.alloc (.cells (askV a kv vv av nv fv) 29)) :=
  ⟨Blk.alloc h _, Blk.new w _ _, rfl, Blk.lt h, (Keeps.refl _ _).alloc _⟩
theorem WI.step (h : WI W X b a kv vv av nv fv w0 w) (hw : WB w' W b') (k : Keeps [W] w w') : WI W X b' a kv vv av nv fv w0 w' :=
  ⟨hw, h.bx.keeps k (by have := h.lW; have := h.hX; simp; omega), h.hX, h.lW, h.kp.and k⟩
theorem WI.cell (h : WI W X b a kv vv av nv fv w0 w) (i : Nat) : w.cell? ⟨X, i, none⟩ = (askV a kv vv av nv fv)[i]? := h.bx.cell i
theorem WI.done (h : WI W X b a kv vv av nv fv w0 w) : WsP W b w0 (.returned (.tuple #[])) w := ⟨rfl, h.wb, h.kp⟩
theorem WI.row (h : WI W X b a kv vv av nv fv w0 w) {v : Value} {xs : List Value} (hr : LR (fun i => i < w0.heap.size ∧ i ≠ W) w0 v xs) : LR (fun i => i < w0.heap.size ∧ i ≠ W) w v xs :=
  hr.step (fun i hi => h.kp.block i hi.1 (by simpa using hi.2)) (fun _ hi => hi)
end

section
variable (W : Nat) (a : Ask) (kv vv av nv fv : Value) (w : World)
theorem wsql_any (h : WB w W []) (hs : a.sql.length ≤ 1099511627776) :
    Calls Try.prog 31 #[.pointer (some ⟨W, 0, none⟩), .agg (askV a kv vv av nv fv)] w (WsP W (bodyD .sql a) w) := by
  have h0 := WI.new (a := a) (kv := kv) (vv := vv) (av := av) (nv := nv) (fv := fv) h
  unfold askV at *
  go_enter Try.func31, Try.ntmps31
  go_wp2_with fail
  refine (wtext_any W [] _ a.sql h0.wb (by simp) hs).mono ?_; rintro e w1 ⟨rfl, hw1, hk1⟩
  have h1 := h0.step hw1 hk1
  go_wp2
  go_end0
  exact h1.done
theorem wnothing_any (h : WB w W []) :
    Calls Try.prog 33 #[.pointer (some ⟨W, 0, none⟩), .agg (askV a kv vv av nv fv)] w (WsP W (bodyD .nothing a) w) := by
  have h0 := WI.new (a := a) (kv := kv) (vv := vv) (av := av) (nv := nv) (fv := fv) h
  unfold askV at *
  go_enter Try.func33, Try.ntmps33
  go_wp2
  go_end0
  first | exact h0.done | exact ⟨rfl, h, Keeps.refl _ _⟩
theorem wparse_any (h : WB w W []) (hn : a.name.length ≤ 1000000) (hs : a.sql.length ≤ 1000000) :
    Calls Try.prog 35 #[.pointer (some ⟨W, 0, none⟩), .agg (askV a kv vv av nv fv)] w (WsP W (bodyD .parse a) w) := by
  have t1 := txt_len a.name
  have t2 := txt_len a.sql
  have h0 := WI.new (a := a) (kv := kv) (vv := vv) (av := av) (nv := nv) (fv := fv) h
  unfold askV at *
  go_enter Try.func35, Try.ntmps35
  go_wp2_with fail
  refine (wtext_any W [] _ a.name h0.wb (by simp) (by omega)).mono ?_; rintro e w1 ⟨rfl, hw1, hk1⟩
  have h1 := h0.step hw1 hk1
  have c3 : w1.cell? ⟨w.heap.size, 3, none⟩ = some (.string (ba a.sql)) := h1.cell 3
  clear hw1 hk1
  go_wp2_with fail
  refine (wtext_any W _ _ a.sql h1.wb (by simp; omega) (by omega)).mono ?_; rintro e w2 ⟨rfl, hw2, hk2⟩
  have h2 := h1.step hw2 hk2
  clear hw2 hk2
  go_wp2_with fail
  refine (w2_any W _ _ 0 h2.wb (by simp; omega)).mono ?_; rintro e w3 ⟨rfl, hw3, hk3⟩
  have h3 := h2.step hw3 hk3
  go_wp2
  go_end0
  have e : ([] ++ txt a.name ++ txt a.sql ++ n16 0 : Tx) = bodyD .parse a := by simp [bodyD]
  rw [e] at h3
  exact h3.done
theorem wexec_any (h : WB w W []) (hn : a.portal.length ≤ 1000000) :
    Calls Try.prog 41 #[.pointer (some ⟨W, 0, none⟩), .agg (askV a kv vv av nv fv)] w (WsP W (bodyD .exec a) w) := by
  have t1 := txt_len a.portal
  have h0 := WI.new (a := a) (kv := kv) (vv := vv) (av := av) (nv := nv) (fv := fv) h
  unfold askV at *
  go_enter Try.func41, Try.ntmps41
  go_wp2_with fail
  refine (wtext_any W [] _ a.portal h0.wb (by simp) (by omega)).mono ?_; rintro e w1 ⟨rfl, hw1, hk1⟩
  have h1 := h0.step hw1 hk1
  have c3 : w1.cell? ⟨w.heap.size, 9, none⟩ = some (.int .i64 a.most) := h1.cell 9
  clear hw1 hk1
  go_wp2_with fail
  refine (w4_any W _ _ a.most h1.wb (by simp; omega)).mono ?_; rintro e w2 ⟨rfl, hw2, hk2⟩
  have h2 := h1.step hw2 hk2
  go_wp2
  go_end0
  have e : ([] ++ txt a.portal ++ n32 a.most : Tx) = bodyD .exec a := by simp [bodyD]
  rw [e] at h2
  exact h2.done
end
end Go.Proofs.Ytojgeilihoilnaa
namespace Go.Proofs.Ytojgeilihoilnaa
open Go.ChangeShapes Go.WideShapes Go.ChangeAt Go.RowKit
set_option linter.unusedVariables false
attribute [local go_sem ↓] Go.wp_at_zero Go.wp_at_succ

theorem pairsW_step (ks vs : List Tx) : ∀ (k : Nat) (h1 : k < ks.length) (h2 : k < vs.length), pairsW (ks.take (k + 1)) (vs.take (k + 1)) = pairsW (ks.take k) (vs.take k) ++ (txt ks[k] ++ txt vs[k]) := by
  induction ks generalizing vs with
  | nil => intro k h1; simp at h1
  | cons x ks ih =>
    intro k h1 h2
    match vs, h2 with
    | y :: vs, h2 =>
      match k with
      | 0 => simp [pairsW]
      | k + 1 =>
        have := ih vs k (by simpa using h1) (by simpa using h2)
        simp only [List.take_succ_cons, List.getElem_cons_succ, pairsW] at this ⊢
        rw [this]; simp
theorem pairsW_min (ks vs : List Tx) : pairsW (ks.take (min ks.length vs.length)) (vs.take (min ks.length vs.length)) = pairsW ks vs := by
  induction ks generalizing vs with
  | nil => simp [pairsW]
  | cons x ks ih =>
    match vs with
    | [] => simp [pairsW]
    | y :: vs =>
      have := ih vs
      simp only [List.length_cons, Nat.succ_min_succ, List.take_succ_cons, pairsW]
      rw [this]
theorem argsW_step (az : List Tx) (ns : List Bool) : ∀ (k : Nat) (h1 : k < az.length) (h2 : k < ns.length), argsW (az.take (k + 1)) (ns.take (k + 1)) = argsW (az.take k) (ns.take k) ++ argW az[k] ns[k] := by
  induction az generalizing ns with
  | nil => intro k h1; simp at h1
  | cons x az ih =>
    intro k h1 h2
    match ns, h2 with
    | y :: ns, h2 =>
      match k with
      | 0 => simp [argsW]
      | k + 1 =>
        have := ih ns k (by simpa using h1) (by simpa using h2)
        simp only [List.take_succ_cons, List.getElem_cons_succ, argsW] at this ⊢
        rw [this]; simp
theorem argsW_min (az : List Tx) (ns : List Bool) : argsW (az.take (min az.length ns.length)) (ns.take (min az.length ns.length)) = argsW az ns := by
  induction az generalizing ns with
  | nil => simp [argsW]
  | cons x az ih =>
    match ns with
    | [] => simp [argsW]
    | y :: ns =>
      have := ih ns
      simp only [List.length_cons, Nat.succ_min_succ, List.take_succ_cons, argsW]
      rw [this]
theorem fmtW_step (fs : List Int) : ∀ (k : Nat) (h1 : k < fs.length), fmtW (fs.take (k + 1)) = fmtW (fs.take k) ++ n16 fs[k] := by
  induction fs with
  | nil => intro k h1; simp at h1
  | cons x fs ih =>
    intro k h1
    match k with
    | 0 => simp [fmtW]
    | k + 1 =>
      have := ih k (by simpa using h1)
      simp only [List.take_succ_cons, List.getElem_cons_succ, fmtW] at this ⊢
      rw [this]; simp

/-- how long it all is, and how much is written at most -/
structure Few (a : Ask) : Prop where
  name : a.name.length ≤ 10000
  portal : a.portal.length ≤ 10000
  sql : a.sql.length ≤ 10000
  keys : a.keys.length ≤ 1000
  vals : a.vals.length ≤ 1000
  args : a.args.length ≤ 1000
  null : a.null.length ≤ 1000
  fmts : a.formats.length ≤ 1000
  keysT : ∀ t ∈ a.keys, t.length ≤ 10000
  valsT : ∀ t ∈ a.vals, t.length ≤ 10000
  argsT : ∀ t ∈ a.args, t.length ≤ 10000
theorem pairsW_few (ks : List Tx) : ∀ (vs : List Tx), (∀ t ∈ ks, t.length ≤ 10000) → (∀ t ∈ vs, t.length ≤ 10000) → (pairsW ks vs).length ≤ ks.length * 20002 := by
  induction ks with
  | nil => intro vs _ _; simp [pairsW]
  | cons k ks ih =>
    intro vs h1 h2
    match vs with
    | [] => simp [pairsW]
    | v :: vs =>
      have i := ih vs (fun t ht => h1 t (by simp [ht])) (fun t ht => h2 t (by simp [ht]))
      have a1 := txt_len k
      have a2 := txt_len v
      have b1 := h1 k (by simp)
      have b2 := h2 v (by simp)
      simp only [pairsW, List.length_append, List.length_cons]
      omega
theorem argsW_few (az : List Tx) : ∀ (ns : List Bool), (∀ t ∈ az, t.length ≤ 10000) → (argsW az ns).length ≤ az.length * 10004 := by
  induction az with
  | nil => intro ns _; simp [argsW]
  | cons k az ih =>
    intro ns h1
    match ns with
    | [] => simp [argsW]
    | v :: ns =>
      have i := ih ns (fun t ht => h1 t (by simp [ht]))
      have b1 := h1 k (by simp)
      have c : (argW k v).length ≤ 10004 := by cases v <;> simp [argW, n32_len] <;> omega
      simp only [argsW, List.length_append, List.length_cons]
      omega
theorem fmtW_len (fs : List Int) : (fmtW fs).length = fs.length * 2 := by
  induction fs with
  | nil => rfl
  | cons f fs ih => simp only [fmtW, List.length_append, n16_len, List.length_cons, ih]; omega

end Go.Proofs.Ytojgeilihoilnaa
namespace Go.Proofs.Ytojgeilihoilnaa
open Go.ChangeShapes Go.WideShapes Go.ChangeAt Go.RowKit
set_option linter.unusedVariables false
attribute [local go_sem ↓] Go.wp_at_zero Go.wp_at_succ

set_option maxHeartbeats 800000 in
theorem wnamed_any (W : Nat) (a : Ask) (kv vv av nv fv : Value) (w : World) (h : WB w W []) (hn : a.name.length ≤ 1000000) :
    Calls Try.prog 39 #[.pointer (some ⟨W, 0, none⟩), .agg (askV a kv vv av nv fv)] w (WsP W (bodyD .named a) w) := by
  have t1 := txt_len a.name
  have h0 := WI.new (a := a) (kv := kv) (vv := vv) (av := av) (nv := nv) (fv := fv) h
  have lW := Blk.lt h
  have hcv : (convert 68 9 (.slice (some ⟨w.heap.size + 1, 0, none⟩) 1 1)).run Try.prog (((w.alloc (.cells (askV a kv vv av nv fv) 29)).alloc (.cells #[u8 a.what] 5)).drew) = .ok (.string (ba [a.what])) (((w.alloc (.cells (askV a kv vv av nv fv) 29)).alloc (.cells #[u8 a.what] 5)).drew) := by
    refine conv_row _ (w.heap.size + 1) 0 1 [a.what] ⟨#[u8 a.what], ?_, fun j b hj => ?_⟩
    · have := Blk.new (w.alloc (.cells (askV a kv vv av nv fv) 29)) 5 #[u8 a.what]
      rw [show (w.alloc (.cells (askV a kv vv av nv fv) 29)).heap.size = w.heap.size + 1 by simp] at this
      exact this
    · cases j with
      | zero => simp at hj; subst hj; rfl
      | succ j => simp at hj
  have e0 : ba [] ++ ba [a.what] = ba [a.what] := by rw [ba_append]; rfl
  have hcell : ∀ w1 : World, Keeps [] (w.alloc (.cells (askV a kv vv av nv fv) 29)) w1 → w1.cell? ⟨W, 0, none⟩ = some (.string (ba [])) ∧ w1.frozen? ⟨W, 0, none⟩ = false := fun w1 hk =>
    ⟨Blk.cell (h0.wb.keeps hk (by simp)) 0, Blk.frozen (h0.wb.keeps hk (by simp)) 0⟩
  have HE := Lib.hid e0
  have c1 := hcell _ (Keeps.refl _ _)
  have c2 := hcell _ ((Keeps.refl _ _).alloc (.cells #[u8 a.what] 5))
  have hfin : WI W w.heap.size [a.what] a kv vv av nv fv w ((((w.setCell ⟨W, 0, none⟩ (.string (ba [] ++ ba [a.what]))).alloc (.cells (askV a kv vv av nv fv) 29)).alloc (.cells #[u8 a.what] 5)).drew) := by
    refine ⟨?_, ?_, rfl, lW, ((((Keeps.refl _ _).set _ _ _ (.inl (by simp))).alloc _).alloc _).drew⟩
    · rw [e0]
      exact (show Blk _ _ _ _ from (((Blk.set_ h 0 (.string (ba [a.what]))).alloc _).alloc _))
    · have := Blk.new (w.setCell ⟨W, 0, none⟩ (.string (ba [] ++ ba [a.what]))) 29 (askV a kv vv av nv fv)
      rw [show (w.setCell ⟨W, 0, none⟩ (.string (ba [] ++ ba [a.what]))).heap.size = w.heap.size by simp [World.setCell]] at this
      exact (show Blk _ _ _ _ from this.alloc _)
  clear hcell e0
  obtain ⟨c1, f1⟩ := c1
  obtain ⟨c2, f2⟩ := c2
  have n1 : W ≠ w.heap.size := by omega
  have s1 : (ba []).size ≤ 0 := by rw [ba_size]; simp
  have s2 : (ba [a.what]).size ≤ 1 := by rw [ba_size]; simp
  have n2 : w.heap.size ≠ W := by omega
  unfold askV u8 at *
  go_enter Try.func39, Try.ntmps39
  go_wp2
  go_region
  all_goals
    clear c1 c2 f1 f2 hcv h0
    generalize ((((w.setCell ⟨W, 0, none⟩ (.string (ba [] ++ ba [a.what]))).alloc _).alloc _).drew) = w1 at *
    have c3 : w1.cell? ⟨w.heap.size, 1, none⟩ = some (.string (ba a.name)) := hfin.cell 1
    go_wp2_with fail
    refine (wtext_any W _ _ a.name hfin.wb (by simp) (by omega)).mono ?_; rintro e w2 ⟨rfl, hw2, hk2⟩
    have h2 := hfin.step hw2 hk2
    go_wp2
    go_end0
    exact h2.done
end Go.Proofs.Ytojgeilihoilnaa
