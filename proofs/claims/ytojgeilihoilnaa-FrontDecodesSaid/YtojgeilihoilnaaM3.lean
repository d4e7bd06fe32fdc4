/- Words for memory at layer 3: what is being read, with its rows.
   What the functions of package front's reader do that read a whole body (count, sql, nothing, parse, named, execute, pairs, first, bind). Condition: the body is of at most 2^40 bytes. -/
import Derived.Test.YtojgeilihoilnaaM2
import Derived.Deep.AppendLies
import Derived.Test.YtojgeilihoilnaaM17
import Derived.Deep.RegionHeld3
import Derived.Deep.DrawnRows
set_option linter.unusedSimpArgs false
set_option linter.unusedVariables false
namespace Go.Proofs.Ytojgeilihoilnaa
open Go.ChangeShapes Go.WideShapes Go.ChangeAt Go.RowKit
set_option linter.unusedVariables false

/-- the rows of an ask: the slice, its elements' type, its elements -/
def rowsOf (a : Ask) (kv vv av nv fv : Value) : List (Value × TypeId × List Value) :=
  [(kv, 9, strs a.keys), (vv, 9, strs a.vals), (av, 9, strs a.args), (nv, 4, bools a.null), (fv, 3, ints a.formats)]
def Apart (u v : Value) : Prop := ∀ k, u.ownBlock = some k → v.ownBlock ≠ some k
structure Rows (lo : Nat) (L : List (Value × TypeId × List Value)) (w : World) : Prop where
  own : ∀ (i : Nat) r, L[i]? = some r → w.ownsRow lo r.2.1 1 r.1 r.2.2.length r.2.2
  apart : ∀ (i j : Nat) r r', L[i]? = some r → L[j]? = some r' → i ≠ j → Apart r.1 r'.1
theorem Rows.keeps {lo : Nat} {L : List (Value × TypeId × List Value)} {w w' : World} {S : List Nat} (h : Rows lo L w) (k : Keeps S w w') (hS : ∀ i ∈ S, i < lo) : Rows lo L w' := by
  refine ⟨fun i r hr => ?_, h.apart⟩
  have ho := h.own i r hr
  refine ⟨ho.1, ?_⟩
  rcases ho.2 with hn | ⟨g, cap, cur, e, hb, hh, rest⟩
  · exact .inl hn
  · refine .inr ⟨g, cap, cur, e, hb, (k.block g (Array.getElem?_eq_some_iff.1 hh).1 (fun hm => ?_)).trans hh, rest⟩
    have := hS g hm; omega
/-- one row is appended to -/
theorem Rows.push {lo : Nat} {L : List (Value × TypeId × List Value)} {w w' : World} (h : Rows lo L w) (i : Nat) (v : Value) (T : TypeId) (xs : List Value) (hi : L[i]? = some (v, T, xs)) (v' : Value) (x : Value)
    (hw : w'.ownsRow lo T 1 v' (xs.length + 1) (xs ++ [x])) (hg : w.grownBy w' v.ownBlock) (hv : ∀ k, v'.ownBlock = some k → v.ownBlock = some k ∨ w.heap.size ≤ k) : Rows lo (L.set i (v', T, xs ++ [x])) w' := by
  have hlt : i < L.length := (List.getElem?_eq_some_iff.1 hi).1
  constructor
  · intro j r hr
    rw [List.getElem?_set] at hr
    by_cases e : i = j
    · subst e
      rw [if_pos rfl, if_pos hlt] at hr
      injection hr with hr
      subst hr
      show w'.ownsRow lo T 1 v' (xs ++ [x]).length (xs ++ [x])
      rw [List.length_append]; exact hw
    · rw [if_neg e] at hr
      refine (h.own j r hr).kept hg ?_
      cases hb : r.1.ownBlock with
      | none => exact .inl rfl
      | some k => exact .inr (fun e2 => h.apart j i r _ hr hi (fun e3 => e e3.symm) k hb e2.symm)
  · intro j j' r r' hr hr' hne
    rw [List.getElem?_set] at hr hr'
    by_cases e : i = j
    · subst e
      rw [if_pos rfl, if_pos hlt] at hr
      injection hr with hr
      subst hr
      rw [if_neg hne] at hr'
      intro k hk hk'
      rcases hv k hk with h1 | h1
      · exact h.apart i j' _ _ hi hr' hne k h1 hk'
      · have := (World.ownsRow.lt (h.own j' r' hr') k hk').2; omega
    · rw [if_neg e] at hr
      by_cases e' : i = j'
      · subst e'
        rw [if_pos rfl, if_pos hlt] at hr'
        injection hr' with hr'
        subst hr'
        intro k hk hk'
        rcases hv k hk' with h1 | h1
        · exact h.apart j i _ _ hr hi hne k hk h1
        · have := (World.ownsRow.lt (h.own j r hr) k hk).2; omega
      · rw [if_neg e'] at hr'
        exact h.apart j j' _ _ hr hr' hne

/-- a reader at R (of s; l is left, x: something was wrong) and what is being asked (a, at A), in memory since w0 -/
structure AI (R A : Nat) (s : ByteArray) (w0 : World) (a : Ask) (l : Tx) (x : Bool) (kv vv av nv fv : Value) (w : World) : Prop where
  rd : Rs w R s l x
  blk : Blk w A 29 (askV a kv vv av nv fv)
  rows : Rows w0.heap.size (rowsOf a kv vv av nv fv) w
  kp : Keeps [R, A] w0 w
  lR : R < w0.heap.size
  lA : A < w0.heap.size
  ne : R ≠ A

section
variable {R A : Nat} {s : ByteArray} {w0 w w' : World} {a : Ask} {l l' : Tx} {x x' : Bool} {kv vv av nv fv : Value}
theorem AI.read (h : AI R A s w0 a l x kv vv av nv fv w) (hr : Rs w' R s l' x') (k : Keeps [R] w w') : AI R A s w0 a l' x' kv vv av nv fv w' :=
  ⟨hr, h.blk.keeps k (fun e => h.ne (List.mem_singleton.1 e).symm), h.rows.keeps k (fun i hi => by rw [List.mem_singleton.1 hi]; exact h.lR),
   h.kp.trans k (fun i hi => .inl (by rw [List.mem_singleton.1 hi]; simp)), h.lR, h.lA, h.ne⟩
theorem AI.keep (h : AI R A s w0 a l x kv vv av nv fv w) (k : Keeps [] w w') : AI R A s w0 a l x kv vv av nv fv w' :=
  h.read (h.rd.keeps k (by simp)) (k.mono (by simp))
theorem AI.alloc (h : AI R A s w0 a l x kv vv av nv fv w) (o : Obj) : AI R A s w0 a l x kv vv av nv fv (w.alloc o) := h.keep ((Keeps.refl _ _).alloc o)
theorem AI.drew (h : AI R A s w0 a l x kv vv av nv fv w) : AI R A s w0 a l x kv vv av nv fv w.drew := h.keep (Keeps.refl _ _).drew
/-- a store into what is asked that leaves its rows -/
theorem AI.fld (h : AI R A s w0 a l x kv vv av nv fv w) (i : Nat) (u : Value) (a' : Ask) (he : (askV a kv vv av nv fv).setIfInBounds i u = askV a' kv vv av nv fv) (hr : rowsOf a kv vv av nv fv = rowsOf a' kv vv av nv fv) :
    AI R A s w0 a' l x kv vv av nv fv (w.setCell ⟨A, i, none⟩ u) := by
  have k : Keeps [A] w (w.setCell ⟨A, i, none⟩ u) := (Keeps.refl _ _).set _ _ _ (.inl (by simp))
  refine ⟨h.rd.keeps k (by simpa using h.ne), ?_, ?_, (h.kp.set _ _ _ (.inl (by simp))), h.lR, h.lA, h.ne⟩
  · rw [← he]; exact h.blk.set_ i u
  · rw [← hr]; exact h.rows.keeps k (fun i hi => by rw [List.mem_singleton.1 hi]; exact h.lA)
/-- a row is appended to, and the slice is stored -/
theorem AI.push (h : AI R A s w0 a l x kv vv av nv fv w) (r : Nat) (v : Value) (T : TypeId) (xs : List Value) (hi : (rowsOf a kv vv av nv fv)[r]? = some (v, T, xs)) (g cap : Nat) (y : Value)
    (hw : w'.ownsRow w0.heap.size T 1 (.slice (some ⟨g, 0, none⟩) (xs.length + 1) cap) (xs.length + 1) (xs ++ [y])) (hg : w.grownBy w' v.ownBlock) (H : Nat) (hH : w.heap.size = H) (hat : v.ownBlock = some g ∨ g = H)
    (i : Nat) (a' : Ask) (kv' vv' av' nv' fv' : Value) (he : (askV a kv vv av nv fv).setIfInBounds i (.slice (some ⟨g, 0, none⟩) (xs.length + 1) cap) = askV a' kv' vv' av' nv' fv')
    (hr : (rowsOf a kv vv av nv fv).set r ((.slice (some ⟨g, 0, none⟩) (xs.length + 1) cap), T, xs ++ [y]) = rowsOf a' kv' vv' av' nv' fv') :
    AI R A s w0 a' l x kv' vv' av' nv' fv' (w'.setCell ⟨A, i, none⟩ (.slice (some ⟨g, 0, none⟩) (xs.length + 1) cap)) := by
  have hlo : ∀ k, v.ownBlock = some k → w0.heap.size ≤ k := fun k hk => (World.ownsRow.lt (h.rows.own r _ hi) k hk).1
  have k1 : Keeps [R, A] w0 w' := h.kp.grown hg (fun i hi => .inr (hlo i hi))
  have hRn : some R ≠ v.ownBlock := fun e => by have := hlo R e.symm; have := h.lR; omega
  have hAn : some A ≠ v.ownBlock := fun e => by have := hlo A e.symm; have := h.lA; omega
  have rd1 : Rs w' R s l x := by
    obtain ⟨p, h1, h2, h3⟩ := h.rd
    exact ⟨p, h1, h2, h3.grown hg hRn⟩
  have k : Keeps [A] w' (w'.setCell ⟨A, i, none⟩ (.slice (some ⟨g, 0, none⟩) (xs.length + 1) cap)) := (Keeps.refl _ _).set _ _ _ (.inl (by simp))
  refine ⟨rd1.keeps k (by simpa using h.ne), ?_, ?_, k1.set _ _ _ (.inl (by simp)), h.lR, h.lA, h.ne⟩
  · rw [← he]; exact (h.blk.grown hg hAn).set_ _ _
  · rw [← hr]
    refine (h.rows.push r v T xs hi _ y hw hg (fun k hk => ?_)).keeps k (fun i hi => by rw [List.mem_singleton.1 hi]; exact h.lA)
    simp [Value.ownBlock] at hk
    subst hk
    rcases hat with e | e
    · exact .inl e
    · exact .inr (by omega)
theorem AI.own (h : AI R A s w0 a l x kv vv av nv fv w) (r : Nat) (v : Value) (T : TypeId) (xs : List Value) (hi : (rowsOf a kv vv av nv fv)[r]? = some (v, T, xs)) : w.ownsRow w0.heap.size T 1 v xs.length xs := h.rows.own r _ hi
theorem AI.ar (h : AI R A s w0 a l x kv vv av nv fv w) : AR (fun b => w0.heap.size ≤ b ∧ b < w.heap.size) w (.agg (askV a kv vv av nv fv)) a :=
  ⟨kv, vv, av, nv, fv, rfl, LR.own (h.own 0 _ _ _ rfl), LR.own (h.own 1 _ _ _ rfl), LR.own (h.own 2 _ _ _ rfl), LR.own (h.own 3 _ _ _ rfl), LR.own (h.own 4 _ _ _ rfl)⟩
theorem AI.cell (h : AI R A s w0 a l x kv vv av nv fv w) (i : Nat) : w.cell? ⟨A, i, none⟩ = (askV a kv vv av nv fv)[i]? := h.blk.cell i
theorem AI.frozen (h : AI R A s w0 a l x kv vv av nv fv w) (i : Nat) : w.frozen? ⟨A, i, none⟩ = false := h.blk.frozen i
/-- at the beginning -/
theorem AI.new (R A : Nat) (s : ByteArray) (w : World) (k : UInt8) (hR : Blk w R 47 #[.string s, .int .i64 0, .bool false]) (hA : Blk w A 29 (askV { kind := k } (.slice none 0 0) (.slice none 0 0) (.slice none 0 0) (.slice none 0 0) (.slice none 0 0))) (hne : R ≠ A) :
    AI R A s w { kind := k } s.data.toList false (.slice none 0 0) (.slice none 0 0) (.slice none 0 0) (.slice none 0 0) (.slice none 0 0) w := by
  refine ⟨⟨0, Nat.zero_le _, rfl, hR⟩, hA, ⟨fun i r hr => ?_, fun i j r r' hr hr' hne k hk => ?_⟩, Keeps.refl _ _, hR.lt, hA.lt, hne⟩
  · have : r.1 = .slice none 0 0 ∧ r.2.2 = [] := by
      unfold rowsOf at hr
      match i, hr with
      | 0, hr => injection hr with hr; subst hr; exact ⟨rfl, rfl⟩
      | 1, hr => injection hr with hr; subst hr; exact ⟨rfl, rfl⟩
      | 2, hr => injection hr with hr; subst hr; exact ⟨rfl, rfl⟩
      | 3, hr => injection hr with hr; subst hr; exact ⟨rfl, rfl⟩
      | 4, hr => injection hr with hr; subst hr; exact ⟨rfl, rfl⟩
      | n + 5, hr => simp at hr
    rw [this.1, this.2]; exact World.ownsRow_nil _ _ _ _
  · have : r.1 = .slice none 0 0 := by
      unfold rowsOf at hr
      match i, hr with
      | 0, hr => injection hr with hr; subst hr; rfl
      | 1, hr => injection hr with hr; subst hr; rfl
      | 2, hr => injection hr with hr; subst hr; rfl
      | 3, hr => injection hr with hr; subst hr; rfl
      | 4, hr => injection hr with hr; subst hr; rfl
      | n + 5, hr => simp at hr
    rw [this] at hk
    simp [Value.ownBlock] at hk
end
/-- what a call does that reads a body, or a part of one -/
def AiP (R A : Nat) (s : ByteArray) (w0 : World) (r : Ask × Tx × Bool) (e : Ending) (w' : World) : Prop :=
  e = .returned (.tuple #[]) ∧ ∃ kv vv av nv fv, AI R A s w0 r.1 r.2.1 r.2.2 kv vv av nv fv w'
end Go.Proofs.Ytojgeilihoilnaa
namespace Go.Proofs.Ytojgeilihoilnaa
open Go.ChangeShapes Go.WideShapes Go.ChangeAt Go.RowKit
set_option linter.unusedVariables false
attribute [local go_sem ↓] Go.wp_at_zero Go.wp_at_succ

section
variable (R : Nat) (s : ByteArray) (w : World)

theorem Rs.cell2 {w : World} {R : Nat} {s : ByteArray} {l : Tx} {x : Bool} (h : Rs w R s l x) : w.cell? ⟨R, 2, none⟩ = some (.bool x) := by
  obtain ⟨p, h1, h2, h3⟩ := h
  exact h3.cell 2
theorem rcount_any (l : Tx) (x : Bool) (h : Rs w R s l x) (hs : s.size ≤ 1099511627776) :
    Calls Try.prog 63 #[.pointer (some ⟨R, 0, none⟩)] w (RsP R s (.int .i64 ((rdC l x).1 : Nat)) (rdC l x).2.1 (rdC l x).2.2 w) := by
  have d := r2_any R s w l x h hs
  unfold rdC
  obtain ⟨n, l1, x1, e1⟩ := trip (rd2 l x)
  rw [e1] at d ⊢
  simp only
  clear e1
  have key : ∀ b : Bool, b = decide (0 ≤ n ∧ n ≤ 100) → Calls Try.prog 63 #[.pointer (some ⟨R, 0, none⟩)] w (RsP R s (.int .i64 (((if (x1 || !b) = true then 0 else n.toNat) : Nat) : Int)) l1 (x1 || !b) w) := by
    intro b hb
    by_cases h0 : 0 ≤ n
    · by_cases h1 : n ≤ 100
      · have e : b = true := by rw [hb]; exact decide_eq_true ⟨h0, h1⟩
        subst e
        clear hb
        have a0 : decide (0 ≤ n) = true := decide_eq_true h0
        have a1 : decide (n ≤ 100) = true := decide_eq_true h1
        have hn : ((n.toNat : Nat) : Int) = n := Int.toNat_of_nonneg h0
        cases x1
        all_goals
          go_enter Try.func63, Try.ntmps63
          go_wp2_with fail
          refine d.mono ?_; rintro e w1 ⟨rfl, hr1, hk1⟩
          go_wp2_with fail
          refine (need_any R s _ _ _ true hr1).mono ?_; rintro e w2 ⟨rfl, hr2, hk2⟩
          have c2 := hr2.cell2
          go_wp2
          go_ret
          exact ⟨by first | rfl | simp [hn], hr2, hk1.and hk2⟩
      · have e : b = false := by rw [hb]; exact decide_eq_false (fun h => h1 h.2)
        subst e
        clear hb
        have a0 : decide (0 ≤ n) = true := decide_eq_true h0
        have a1 : decide (n ≤ 100) = false := decide_eq_false h1
        have ex : (x1 || !false) = true := by cases x1 <;> rfl
        have nd := fun w h => need_any R s w l1 x1 false h
        rw [ex] at nd ⊢
        clear ex
        go_enter Try.func63, Try.ntmps63
        go_wp2_with fail
        refine d.mono ?_; rintro e w1 ⟨rfl, hr1, hk1⟩
        go_wp2_with fail
        refine (nd _ hr1).mono ?_; rintro e w2 ⟨rfl, hr2, hk2⟩
        have c2 := hr2.cell2
        go_wp2
        go_ret
        exact ⟨rfl, hr2, hk1.and hk2⟩
    · have e : b = false := by rw [hb]; exact decide_eq_false (fun h => h0 h.1)
      subst e
      clear hb
      have a0 : decide (0 ≤ n) = false := decide_eq_false h0
      have ex : (x1 || !false) = true := by cases x1 <;> rfl
      have nd := fun w h => need_any R s w l1 x1 false h
      rw [ex] at nd ⊢
      clear ex
      go_enter Try.func63, Try.ntmps63
      go_wp2_with fail
      refine d.mono ?_; rintro e w1 ⟨rfl, hr1, hk1⟩
      go_wp2_with fail
      refine (nd _ hr1).mono ?_; rintro e w2 ⟨rfl, hr2, hk2⟩
      have c2 := hr2.cell2
      go_wp2
      go_ret
      exact ⟨rfl, hr2, hk1.and hk2⟩
  exact key _ rfl
end
section
variable (R A : Nat) (s : ByteArray) (w0 : World) (a : Ask) (l : Tx) (x : Bool) (kv vv av nv fv : Value) (w : World)

theorem rsql_any (h : AI R A s w0 a l x kv vv av nv fv w) (hs : s.size ≤ 1099511627776) :
    Calls Try.prog 30 #[.pointer (some ⟨R, 0, none⟩), .pointer (some ⟨A, 0, none⟩)] w (AiP R A s w0 (readD .sql a l x)) := by
  go_enter Try.func30, Try.ntmps30
  go_wp2_with fail
  refine (rtext_any R s w l x h.rd hs).mono ?_; rintro e w1 ⟨rfl, hr1, hk1⟩
  have h1 := h.read hr1 hk1
  have c3 : w1.cell? ⟨A, 3, none⟩ = some (.string (ba a.sql)) := h1.cell 3
  have f3 := h1.frozen 3
  go_wp2
  go_end0
  exact ⟨rfl, _, _, _, _, _, h1.fld 3 _ { a with sql := (rdT l x).1 } rfl rfl⟩
theorem rnothing_any (h : AI R A s w0 a l x kv vv av nv fv w) :
    Calls Try.prog 32 #[.pointer (some ⟨R, 0, none⟩), .pointer (some ⟨A, 0, none⟩)] w (AiP R A s w0 (readD .nothing a l x)) := by
  go_enter Try.func32, Try.ntmps32
  go_wp2
  go_end0
  exact ⟨rfl, _, _, _, _, _, h⟩
theorem rparse_any (h : AI R A s w0 a l x kv vv av nv fv w) (hs : s.size ≤ 1099511627776) :
    Calls Try.prog 34 #[.pointer (some ⟨R, 0, none⟩), .pointer (some ⟨A, 0, none⟩)] w (AiP R A s w0 (readD .parse a l x)) := by
  unfold readD
  obtain ⟨t, l1, x1, e1⟩ := trip (rdT l x)
  obtain ⟨u, l2, x2, e2⟩ := trip (rdT l1 x1)
  obtain ⟨z, l3, x3, e3⟩ := trip (rd2 l2 x2)
  have d1 := fun w h => rtext_any R s w l x h hs
  have d2 := fun w h => rtext_any R s w l1 x1 h hs
  have d3 := fun w h => r2_any R s w l2 x2 h hs
  rw [e1] at d1; rw [e2] at d2; rw [e3] at d3
  simp only [e1, e2, e3] at d1 d2 d3 ⊢
  clear e1 e2 e3
  have ez : decide (z = 0) = (z == 0) := by rw [Bool.eq_iff_iff]; simp
  rw [ez]; clear ez
  go_enter Try.func34, Try.ntmps34
  go_wp2_with fail
  refine (d1 _ h.rd).mono ?_; rintro e w1 ⟨rfl, hr1, hk1⟩
  have h1 := h.read hr1 hk1
  have c1 : w1.cell? ⟨A, 1, none⟩ = some (.string (ba a.name)) := h1.cell 1
  have f1 := h1.frozen 1
  have h2 := h1.fld 1 (.string (ba t)) { a with name := t } rfl rfl
  clear hr1 hk1 h
  go_wp2_with fail
  refine (d2 _ h2.rd).mono ?_; rintro e w2 ⟨rfl, hr2, hk2⟩
  have h3 := h2.read hr2 hk2
  have c3 : w2.cell? ⟨A, 3, none⟩ = some (.string (ba a.sql)) := h3.cell 3
  have f3 := h3.frozen 3
  have h4 := h3.fld 3 (.string (ba u)) { a with name := t, sql := u } rfl rfl
  clear hr2 hk2 h1 h2
  go_wp2_with fail
  refine (d3 _ h4.rd).mono ?_; rintro e w3 ⟨rfl, hr3, hk3⟩
  have h5 := h4.read hr3 hk3
  go_wp2_with fail
  refine (need_any R s _ _ _ _ h5.rd).mono ?_; rintro e w4 ⟨rfl, hr4, hk4⟩
  have h6 := h5.read hr4 hk4
  go_wp2
  go_end0
  exact ⟨rfl, _, _, _, _, _, h6⟩
theorem rdT_true (l : Tx) : (rdT l true).2.2 = true := by unfold rdT; split <;> rfl
theorem rexec_any (h : AI R A s w0 a l x kv vv av nv fv w) (hs : s.size ≤ 1099511627776) :
    Calls Try.prog 40 #[.pointer (some ⟨R, 0, none⟩), .pointer (some ⟨A, 0, none⟩)] w (AiP R A s w0 (readD .exec a l x)) := by
  unfold readD
  obtain ⟨t, l1, x1, e1⟩ := trip (rdT l x)
  obtain ⟨n, l2, x2, e2⟩ := trip (rd4 l1 x1)
  have d1 := fun w h => rtext_any R s w l x h hs
  have d2 := fun w h => r4_any R s w l1 x1 h hs
  rw [e1] at d1; rw [e2] at d2
  simp only [e1, e2] at d1 d2 ⊢
  clear e1 e2
  go_enter Try.func40, Try.ntmps40
  go_wp2_with fail
  refine (d1 _ h.rd).mono ?_; rintro e w1 ⟨rfl, hr1, hk1⟩
  have h1 := h.read hr1 hk1
  have c1 : w1.cell? ⟨A, 2, none⟩ = some (.string (ba a.portal)) := h1.cell 2
  have f1 := h1.frozen 2
  have h2 := h1.fld 2 (.string (ba t)) { a with portal := t } rfl rfl
  clear hr1 hk1 h
  go_wp2_with fail
  refine (d2 _ h2.rd).mono ?_; rintro e w2 ⟨rfl, hr2, hk2⟩
  have h3 := h2.read hr2 hk2
  have c3 : w2.cell? ⟨A, 9, none⟩ = some (.int .i64 a.most) := h3.cell 9
  have f3 := h3.frozen 9
  have h4 := h3.fld 9 (.int .i64 n) { a with portal := t, most := n } rfl rfl
  clear hr2 hk2 h1 h2
  go_wp2_with fail
  refine (need_any R s _ _ _ _ h4.rd).mono ?_; rintro e w4 ⟨rfl, hr4, hk4⟩
  have h6 := h4.read hr4 hk4
  go_wp2
  go_end0
  exact ⟨rfl, _, _, _, _, _, h6⟩
theorem rnamed_any (h : AI R A s w0 a l x kv vv av nv fv w) (hs : s.size ≤ 1099511627776) :
    Calls Try.prog 38 #[.pointer (some ⟨R, 0, none⟩), .pointer (some ⟨A, 0, none⟩)] w (AiP R A s w0 (readD .named a l x)) := by
  unfold readD
  obtain ⟨b, l1, x1, e1⟩ := trip (rdB 1 l x)
  have d1 := fun w h => rbytes_any R s w 1 l x h hs
  rw [e1] at d1
  simp only [e1] at d1 ⊢
  clear e1
  by_cases hb : b = [83] ∨ b = [80]
  · have eb : (x1 || !decide (b = [83] ∨ b = [80])) = x1 := by rw [decide_eq_true hb]; cases x1 <;> rfl
    rw [eb]
    obtain ⟨t, l2, x2, e2⟩ := trip (rdT l1 x1)
    have d2 := fun w h => rtext_any R s w l1 x1 h hs
    rw [e2] at d2
    simp only [e2] at d2 ⊢
    clear e2 eb
    have dn : ∀ w, Rs w R s l1 x1 → Calls Try.prog 60 #[.pointer (some ⟨R, 0, none⟩), .bool true] w (RsP R s (.tuple #[]) l1 x1 w) := fun w h => by
      have := need_any R s w l1 x1 true h
      rw [show (x1 || !true) = x1 by cases x1 <;> rfl] at this; exact this
    rcases hb with rfl | rfl
    all_goals
      first
        | (rw [show ba [83] = ⟨#[83]⟩ from rfl] at d1)
        | (rw [show ba [80] = ⟨#[80]⟩ from rfl] at d1)
      cases x2
      all_goals
        go_enter Try.func38, Try.ntmps38
        go_wp2_with fail
        refine (d1 _ h.rd).mono ?_; rintro e w1 ⟨rfl, hr1, hk1⟩
        have h1 := h.read hr1 hk1
        clear hr1 hk1 h
        go_wp2_with fail
        refine (dn _ h1.rd).mono ?_; rintro e w2 ⟨rfl, hr2, hk2⟩
        have h2 := h1.read hr2 hk2
        clear hr2 hk2 h1
        go_wp2_with fail
        refine (d2 _ h2.rd).mono ?_; rintro e w3 ⟨rfl, hr3, hk3⟩
        have h3 := h2.read hr3 hk3
        have c1 : w3.cell? ⟨A, 1, none⟩ = some (.string (ba a.name)) := h3.cell 1
        have f1 := h3.frozen 1
        have h4 := h3.fld 1 (.string (ba t)) { a with name := t } rfl rfl
        have c2 := h4.rd.cell2
        have c10 : (w3.setCell ⟨A, 1, none⟩ (.string (ba t))).cell? ⟨A, 10, none⟩ = some (u8 a.what) := h4.cell 10
        have f10 := h4.frozen 10
        clear hr3 hk3 h2
        unfold u8 at c10
        go_wp2
        go_end0
        first
          | exact ⟨rfl, _, _, _, _, _, h4⟩
          | exact ⟨rfl, _, _, _, _, _, h4.fld 10 _ { a with name := t, what := 83 } rfl rfl⟩
          | exact ⟨rfl, _, _, _, _, _, h4.fld 10 _ { a with name := t, what := 80 } rfl rfl⟩
  · have eb : (x1 || !decide (b = [83] ∨ b = [80])) = true := by rw [decide_eq_false hb]; cases x1 <;> rfl
    rw [eb]
    have e3 := rdT_true l1
    obtain ⟨t, l2, x2, e2⟩ := trip (rdT l1 true)
    rw [e2] at e3
    obtain rfl : x2 = true := e3
    have d2 := fun w h => rtext_any R s w l1 true h hs
    rw [e2] at d2
    simp only [e2] at d2 ⊢
    clear e2 eb
    have dn : ∀ w, Rs w R s l1 x1 → Calls Try.prog 60 #[.pointer (some ⟨R, 0, none⟩), .bool false] w (RsP R s (.tuple #[]) l1 true w) := fun w h => by
      have := need_any R s w l1 x1 false h
      rw [show (x1 || !false) = true by cases x1 <;> rfl] at this; exact this
    have b1 : ((ba b).toList == [83]) = false := by rw [beq_eq_false_iff_ne, ne_eq, Lib.toList_data, ba_list]; exact fun e => hb (.inl e)
    have b2 : ((ba b).toList == [80]) = false := by rw [beq_eq_false_iff_ne, ne_eq, Lib.toList_data, ba_list]; exact fun e => hb (.inr e)
    go_enter Try.func38, Try.ntmps38
    go_wp2_with fail
    refine (d1 _ h.rd).mono ?_; rintro e w1 ⟨rfl, hr1, hk1⟩
    have h1 := h.read hr1 hk1
    clear hr1 hk1 h
    go_wp2_with fail
    refine (dn _ h1.rd).mono ?_; rintro e w2 ⟨rfl, hr2, hk2⟩
    have h2 := h1.read hr2 hk2
    clear hr2 hk2 h1
    go_wp2_with fail
    refine (d2 _ h2.rd).mono ?_; rintro e w3 ⟨rfl, hr3, hk3⟩
    have h3 := h2.read hr3 hk3
    have c1 : w3.cell? ⟨A, 1, none⟩ = some (.string (ba a.name)) := h3.cell 1
    have f1 := h3.frozen 1
    have h4 := h3.fld 1 (.string (ba t)) { a with name := t } rfl rfl
    have c2 := h4.rd.cell2
    clear hr3 hk3 h2
    go_wp2
    go_end0
    exact ⟨rfl, _, _, _, _, _, h4⟩
end
end Go.Proofs.Ytojgeilihoilnaa
