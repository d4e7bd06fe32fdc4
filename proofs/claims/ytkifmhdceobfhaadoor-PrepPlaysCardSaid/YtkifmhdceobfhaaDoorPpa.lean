/- Package prep, plain: what clients have, which texts were needed, what connections have; what each step makes of it. No program; no condition. -/
import Derived.Test.YtkifmhdceobfhaaDoorMpv
import Derived.Test.YtkifmhdceobfhaaDoorRwa
import Derived.Lib.ItoaMem
import Derived.Lib.ItoaLen
namespace Go.Proofs.YtkifmhdceobfhaaDoor.PP
open Go.ChangeShapes Go.WideShapes Go.ChangeAt Go.RowKit Go.Maps Go.ChangeMaps
open Go.Proofs.YtkifmhdceobfhaaDoor.SL
set_option maxRecDepth 100000
set_option linter.unusedVariables false
set_option linter.unusedSimpArgs false

abbrev Tx := ByteArray
abbrev En := Int × Tx × Tx
abbrev Cn := Int × Nat
structure St where
  L : List En
  T : List Tx
  D : List Cn
def hitE (c : Int) (n : Tx) (e : En) : Bool := decide (e.1 = c ∧ e.2.1 = n)
def fnd (L : List En) (c : Int) (n : Tx) : Option Tx := (L.find? (hitE c n)).map (·.2.2)
def woE (c : Int) (n : Tx) (L : List En) : List En := L.filter fun e => !hitE c n e
def ofE (c : Int) (L : List En) : List En := L.filter fun e => decide (e.1 = c)
def noE (c : Int) (L : List En) : List En := L.filter fun e => !decide (e.1 = c)
def nms (D : List Cn) (c : Int) : List Nat := (D.filter fun e => decide (e.1 = c)).map (·.2)
def noD (c : Int) (D : List Cn) : List Cn := D.filter fun e => !decide (e.1 = c)
def ixT (T : List Tx) (t : Tx) : Option Nat := T.findIdx? fun x => decide (x = t)
def ixN (l : List Nat) (k : Int) : Option Nat := l.findIdx? fun x : Nat => decide ((x : Int) = k)
def UniqE (L : List En) : Prop := L.Pairwise fun a b => ¬ (a.1 = b.1 ∧ a.2.1 = b.2.1)
structure Inv (S : St) : Prop where
  ul : UniqE S.L
  ut : S.T.Nodup
  ud : S.D.Nodup
  nr : ∀ e ∈ S.D, 1 ≤ e.2 ∧ e.2 ≤ S.T.length
def S0 : St := ⟨[], [], []⟩
def big (s : Tx) : Bool := decide (2000 < s.size)
def defS (c : Int) (n s : Tx) (S : St) : St := if 2000 < s.size then S else if (fnd S.L c n).isSome = true ∧ n ≠ ByteArray.empty then S else { S with L := woE c n S.L ++ [(c, n, s)] }
def defA (c : Int) (n s : Tx) (S : St) : Int := if 2000 < s.size then 2 else if (fnd S.L c n).isSome = true ∧ n ≠ ByteArray.empty then 9 else 0
def clsS (c : Int) (n : Tx) (S : St) : St := { S with L := woE c n S.L }
def leaS (c : Int) (S : St) : St := { S with L := noE c S.L }
def forS (c : Int) (S : St) : St := { S with D := noD c S.D }
def numA (t : Tx) (S : St) : Nat := (ixT S.T t).getD S.T.length + 1
def numS (t : Tx) (S : St) : St := { S with T := if (ixT S.T t).isSome = true then S.T else S.T ++ [t] }
def hasA (c : Int) (t : Tx) (S : St) : Bool := (ixN (nms S.D c) (numA t S : Int)).isSome
def neeS (c : Int) (t : Tx) (S : St) : St := { numS t S with D := if hasA c t S = true then S.D else S.D ++ [(c, numA t S)] }
theorem hitE_iff {c : Int} {n : Tx} {e : En} : hitE c n e = true ↔ e.1 = c ∧ e.2.1 = n := by unfold hitE; exact decide_eq_true_iff
theorem fnd_nil (c : Int) (n : Tx) : fnd [] c n = none := rfl
theorem fnd_none {L : List En} {c : Int} {n : Tx} : fnd L c n = none ↔ ∀ e ∈ L, ¬ (e.1 = c ∧ e.2.1 = n) := by
  unfold fnd
  rw [Option.map_eq_none_iff, List.find?_eq_none]
  constructor
  · intro h e he hh; exact h e he (hitE_iff.2 hh)
  · intro h e he hh; exact h e he (hitE_iff.1 hh)
theorem fnd_wo (L : List En) (c c' : Int) (n n' : Tx) : fnd (woE c n L) c' n' = if c' = c ∧ n' = n then none else fnd L c' n' := by
  unfold fnd woE
  by_cases h : c' = c ∧ n' = n
  · obtain ⟨rfl, rfl⟩ := h
    rw [if_pos ⟨rfl, rfl⟩, Option.map_eq_none_iff, List.find?_eq_none]
    intro e he
    have := (List.mem_filter.1 he).2
    simpa using this
  · rw [if_neg h, List.find?_filter]
    congr 2
    funext e
    by_cases he : hitE c' n' e = true
    · rw [he]
      have h2 : hitE c n e = false := by
        rw [Bool.eq_false_iff]
        intro h3
        rw [hitE_iff] at he h3
        exact h ⟨he.1.symm.trans h3.1, he.2.symm.trans h3.2⟩
      rw [h2]; rfl
    · rw [Bool.eq_false_iff.2 he]; simp
theorem fnd_app (L : List En) (c c' : Int) (n n' s : Tx) (h : fnd L c n = none) : fnd (L ++ [(c, n, s)]) c' n' = if c' = c ∧ n' = n then some s else fnd L c' n' := by
  unfold fnd at *
  rw [List.find?_append]
  by_cases hh : c' = c ∧ n' = n
  · obtain ⟨rfl, rfl⟩ := hh
    rw [Option.map_eq_none_iff] at h
    rw [if_pos ⟨rfl, rfl⟩, h]
    simp [hitE]
  · rw [if_neg hh]
    have : ([(c, n, s)] : List En).find? (hitE c' n') = none := by
      rw [List.find?_eq_none]
      intro e he
      rw [List.mem_singleton] at he
      subst he
      rw [hitE_iff]
      rintro ⟨e1, e2⟩
      exact hh ⟨e1.symm, e2.symm⟩
    rw [this, Option.or_none]
theorem fnd_def (L : List En) (c c' : Int) (n n' s : Tx) : fnd (woE c n L ++ [(c, n, s)]) c' n' = if c' = c ∧ n' = n then some s else fnd L c' n' := by
  rw [fnd_app _ _ _ _ _ _ (by rw [fnd_wo, if_pos ⟨rfl, rfl⟩]), fnd_wo]
  split <;> rfl
theorem fnd_no (L : List En) (c c' : Int) (n' : Tx) : fnd (noE c L) c' n' = if c' = c then none else fnd L c' n' := by
  unfold noE
  by_cases h : c' = c
  · subst h
    rw [if_pos rfl, fnd_none]
    intro e he hh
    have := (List.mem_filter.1 he).2
    simp at this
    exact this hh.1
  · rw [if_neg h]
    unfold fnd
    rw [List.find?_filter]
    congr 2
    funext e
    by_cases he : hitE c' n' e = true
    · rw [he]
      rw [hitE_iff] at he
      have : ¬ e.1 = c := fun e1 => h (he.1.symm.trans e1)
      simp [this]
    · rw [Bool.eq_false_iff.2 he]; simp
theorem of_app (c : Int) (L M : List En) : ofE c (L ++ M) = ofE c L ++ ofE c M := List.filter_append ..
theorem of_no (c c' : Int) (L : List En) : ofE c' (noE c L) = if c' = c then [] else ofE c' L := by
  unfold ofE noE
  rw [List.filter_filter]
  by_cases h : c' = c
  · subst h
    rw [if_pos rfl, List.filter_eq_nil_iff]
    intro e _
    simp
  · rw [if_neg h]
    congr 1
    funext e
    by_cases he : e.1 = c'
    · simp [he, h]
    · simp [he]
theorem of_wo_ne {c c' : Int} (h : c' ≠ c) (n : Tx) (L : List En) : ofE c' (woE c n L) = ofE c' L := by
  unfold ofE woE
  rw [List.filter_filter]
  congr 1
  funext e
  by_cases he : e.1 = c'
  · have : hitE c n e = false := by
      rw [Bool.eq_false_iff]
      intro h3
      exact h (he.symm.trans (hitE_iff.1 h3).1)
    simp [he, this]
  · simp [he]
theorem wo_id {c : Int} {n : Tx} {L : List En} (h : fnd L c n = none) : woE c n L = L := by
  unfold woE
  rw [List.filter_eq_self]
  intro e he
  have := (fnd_none.1 h) e he
  rw [← hitE_iff] at this
  simpa using this
theorem of_wo (c : Int) (n : Tx) (L : List En) (hu : UniqE L) : (ofE c (woE c n L)).length + (if (fnd L c n).isSome = true then 1 else 0) = (ofE c L).length := by
  induction L with
  | nil => rfl
  | cons e L ih =>
    obtain ⟨h1, h2⟩ := List.pairwise_cons.1 hu
    by_cases he : hitE c n e = true
    · have e1 := hitE_iff.1 he
      have hn : fnd L c n = none := by
        rw [fnd_none]
        intro x hx hh
        exact h1 x hx ⟨e1.1.trans hh.1.symm, e1.2.trans hh.2.symm⟩
      have w1 : woE c n (e :: L) = L := by
        have := wo_id hn
        unfold woE at this ⊢
        rw [List.filter_cons]
        simp [he, this]
      have f1 : fnd (e :: L) c n = some e.2.2 := by unfold fnd; rw [List.find?_cons, he]; rfl
      rw [w1, f1]
      unfold ofE
      rw [List.filter_cons]
      simp [e1.1]
    · have he2 := Bool.eq_false_iff.2 he
      have w1 : woE c n (e :: L) = e :: woE c n L := by unfold woE; rw [List.filter_cons]; simp [he2]
      have f1 : fnd (e :: L) c n = fnd L c n := by unfold fnd; rw [List.find?_cons, he2]
      rw [w1, f1]
      have := ih h2
      unfold ofE at *
      rw [List.filter_cons, List.filter_cons]
      split
      · rw [List.length_cons, List.length_cons]; omega
      · exact this
theorem of_def (c c' : Int) (n s : Tx) (L : List En) (hu : UniqE L) : (ofE c' (woE c n L ++ [(c, n, s)])).length = if c' = c then (if (fnd L c n).isSome = true then (ofE c L).length else (ofE c L).length + 1) else (ofE c' L).length := by
  rw [of_app, List.length_append]
  by_cases h : c' = c
  · subst h
    have := of_wo c' n L hu
    have e1 : (ofE c' [(c', n, s)]).length = 1 := by unfold ofE; simp
    rw [if_pos rfl, e1]
    split at this
    · rename_i hs; rw [if_pos hs]; omega
    · rename_i hs; rw [if_neg hs]; omega
  · rw [if_neg h, of_wo_ne h]
    have e1 : (ofE c' [(c, n, s)]).length = 0 := by unfold ofE; simp [Ne.symm h]
    rw [e1]; rfl
theorem of_none {c : Int} {L : List En} (h : (ofE c L).length = 0) (n : Tx) : fnd L c n = none := by
  rw [fnd_none]
  intro e he hh
  have := List.eq_nil_of_length_eq_zero h
  unfold ofE at this
  rw [List.filter_eq_nil_iff] at this
  exact this e he (by simp [hh.1])
theorem of_some {c : Int} {n : Tx} {L : List En} (h : (fnd L c n).isSome = true) : 0 < (ofE c L).length := by
  rcases Nat.eq_zero_or_pos (ofE c L).length with h0 | h0
  · rw [of_none h0] at h; cases h
  · exact h0
theorem no_len (c : Int) (L : List En) : (noE c L).length + (ofE c L).length = L.length := by
  unfold noE ofE
  induction L with
  | nil => rfl
  | cons e L ih =>
    rw [List.filter_cons, List.filter_cons]
    by_cases h : e.1 = c
    · simp [h]; omega
    · simp [h]; omega
theorem wo_len (c : Int) (n : Tx) (L : List En) : (woE c n L).length ≤ L.length := List.length_filter_le _ _
theorem wo_lt (c : Int) (n : Tx) (L : List En) : decide ((woE c n L).length < L.length) = (fnd L c n).isSome := by
  cases h : fnd L c n with
  | none => rw [wo_id h]; simp
  | some s =>
    have : (woE c n L).length < L.length := by
      unfold woE
      rw [List.length_filter_lt_length_iff_exists]
      unfold fnd at h
      rw [Option.map_eq_some_iff] at h
      obtain ⟨e, he, _⟩ := h
      exact ⟨e, List.mem_of_find?_eq_some he, by have := List.find?_some he; simpa using this⟩
    simp [this]
theorem ul_filter {L : List En} (h : UniqE L) (p : En → Bool) : UniqE (L.filter p) := h.filter _
theorem ul_app {L : List En} (h : UniqE L) (c : Int) (n s : Tx) (hn : fnd L c n = none) : UniqE (L ++ [(c, n, s)]) := by
  unfold UniqE
  rw [List.pairwise_append]
  refine ⟨h, List.pairwise_singleton _ _, fun e he f hf => ?_⟩
  rw [List.mem_singleton] at hf
  subst hf
  exact fnd_none.1 hn e he
theorem ul_def {L : List En} (h : UniqE L) (c : Int) (n s : Tx) : UniqE (woE c n L ++ [(c, n, s)]) := ul_app (ul_filter h _) c n s (show fnd (woE c n L) c n = none by rw [fnd_wo, if_pos ⟨rfl, rfl⟩])
/- connections -/
theorem nms_app (D : List Cn) (c c' : Int) (k : Nat) : nms (D ++ [(c, k)]) c' = if c' = c then nms D c' ++ [k] else nms D c' := by
  unfold nms
  rw [List.filter_append, List.map_append]
  by_cases h : c' = c
  · subst h; simp
  · rw [if_neg h]; simp [Ne.symm h]
theorem nms_no (D : List Cn) (c c' : Int) : nms (noD c D) c' = if c' = c then [] else nms D c' := by
  unfold nms noD
  rw [List.filter_filter]
  by_cases h : c' = c
  · subst h
    rw [if_pos rfl]
    have : (D.filter fun e => decide (e.1 = c') && !decide (e.1 = c')) = [] := by rw [List.filter_eq_nil_iff]; intro e _; simp
    rw [this]; rfl
  · rw [if_neg h]
    congr 2
    funext e
    by_cases he : e.1 = c'
    · simp [he, h]
    · simp [he]
theorem nms_mem {D : List Cn} {c : Int} {k : Nat} : k ∈ nms D c ↔ (c, k) ∈ D := by
  unfold nms
  rw [List.mem_map]
  constructor
  · rintro ⟨e, he, rfl⟩
    obtain ⟨h1, h2⟩ := List.mem_filter.1 he
    have := of_decide_eq_true h2
    rw [← this]; exact h1
  · intro h
    exact ⟨(c, k), List.mem_filter.2 ⟨h, by simp⟩, rfl⟩
theorem nms_nodup {D : List Cn} (h : D.Nodup) (c : Int) : (nms D c).Nodup := by
  unfold nms List.Nodup
  rw [List.pairwise_map]
  refine (List.Pairwise.filter _ h).imp_of_mem ?_
  intro a b ha hb hne e
  have h1 := of_decide_eq_true (List.mem_filter.1 ha).2
  have h2 := of_decide_eq_true (List.mem_filter.1 hb).2
  exact hne (Prod.ext (h1.trans h2.symm) e)
theorem nms_len (D : List Cn) (c : Int) : (nms D c).length ≤ D.length := by
  unfold nms; rw [List.length_map]; exact List.length_filter_le _ _
theorem noD_len (c : Int) (D : List Cn) : (noD c D).length + (nms D c).length = D.length := by
  unfold noD nms
  rw [List.length_map]
  induction D with
  | nil => rfl
  | cons e L ih =>
    rw [List.filter_cons, List.filter_cons]
    by_cases h : e.1 = c
    · simp [h]; omega
    · simp [h]; omega
theorem ixN_some {l : List Nat} {k : Int} {i : Nat} (h : ixN l k = some i) : ∃ x, l[i]? = some x ∧ (x : Int) = k := by
  unfold ixN at h
  obtain ⟨hi, hp, _⟩ := List.findIdx?_eq_some_iff_getElem.1 h
  exact ⟨l[i], List.getElem?_eq_getElem hi, of_decide_eq_true hp⟩
theorem ixN_lt {l : List Nat} {k : Int} {i : Nat} (h : ixN l k = some i) : i < l.length := by
  unfold ixN at h
  exact (List.findIdx?_eq_some_iff_getElem.1 h).1
theorem ixN_at {l : List Nat} (hn : l.Nodup) {i x : Nat} (h : l[i]? = some x) : ixN l (x : Int) = some i := by
  obtain ⟨hi, hx⟩ := List.getElem?_eq_some_iff.1 h
  unfold ixN
  rw [List.findIdx?_eq_some_iff_getElem]
  refine ⟨hi, by simp [hx], fun j hj => ?_⟩
  have := (List.pairwise_iff_getElem.1 hn) j i (Nat.lt_trans hj hi) hi hj
  rw [hx] at this
  simp only [decide_eq_true_eq, ← ne_eq]
  intro e
  exact this (by omega)
theorem ixN_isSome {l : List Nat} {k : Nat} : (ixN l (k : Int)).isSome = true ↔ k ∈ l := by
  unfold ixN
  rw [List.findIdx?_isSome, List.any_eq_true]
  constructor
  · rintro ⟨x, hx, h⟩
    have := of_decide_eq_true h
    have : x = k := by omega
    exact this ▸ hx
  · intro h; exact ⟨k, h, by simp⟩
theorem ixN_app (l : List Nat) (k : Nat) (h : k ∉ l) (x : Int) : ixN (l ++ [k]) x = if x = (k : Int) then some l.length else ixN l x := by
  unfold ixN
  rw [List.findIdx?_append]
  by_cases hx : x = (k : Int)
  · rw [if_pos hx]
    have : (l.findIdx? fun y : Nat => decide ((y : Int) = x)) = none := by
      rw [List.findIdx?_eq_none_iff]
      intro y hy
      have : y ≠ k := fun e => h (e ▸ hy)
      simp; omega
    rw [this]
    simp [hx]
  · rw [if_neg hx]
    have : (([k] : List Nat).findIdx? fun y : Nat => decide ((y : Int) = x)) = none := by
      rw [List.findIdx?_eq_none_iff]
      intro y hy
      rw [List.mem_singleton] at hy
      subst hy
      simp; omega
    rw [this]; simp
/- texts -/
theorem ixT_lt {T : List Tx} {t : Tx} {i : Nat} (h : ixT T t = some i) : i < T.length := by
  unfold ixT at h
  exact (List.findIdx?_eq_some_iff_getElem.1 h).1
theorem ixT_some {T : List Tx} {t : Tx} {i : Nat} (h : ixT T t = some i) : T[i]? = some t := by
  unfold ixT at h
  obtain ⟨hi, hp, _⟩ := List.findIdx?_eq_some_iff_getElem.1 h
  rw [List.getElem?_eq_getElem hi, of_decide_eq_true hp]
theorem ixT_none {T : List Tx} {t : Tx} : ixT T t = none ↔ t ∉ T := by
  unfold ixT
  rw [List.findIdx?_eq_none_iff]
  constructor
  · intro h ht; have := h t ht; simp at this
  · intro h x hx; simp; exact fun e => h (e ▸ hx)
theorem ixT_app (T : List Tx) (t : Tx) (h : ixT T t = none) (x : Tx) : ixT (T ++ [t]) x = if x = t then some T.length else ixT T x := by
  have h' := ixT_none.1 h
  unfold ixT
  rw [List.findIdx?_append]
  by_cases hx : x = t
  · subst hx
    rw [if_pos rfl]
    unfold ixT at h
    rw [h]; simp
  · rw [if_neg hx]
    have : (([t] : List Tx).findIdx? fun y => decide (y = x)) = none := by
      rw [List.findIdx?_eq_none_iff]
      intro y hy
      rw [List.mem_singleton] at hy
      subst hy
      simp; exact Ne.symm hx
    rw [this]; simp
theorem numA_le (t : Tx) (S : St) : 1 ≤ numA t S ∧ numA t S ≤ S.T.length + 1 := by
  unfold numA
  cases h : ixT S.T t with
  | none => exact ⟨by simp, by simp⟩
  | some i => have := ixT_lt h; simp; omega
theorem numS_len (t : Tx) (S : St) : (numS t S).T.length ≤ S.T.length + 1 ∧ numA t S ≤ (numS t S).T.length ∧ S.T.length ≤ (numS t S).T.length := by
  unfold numS numA
  cases h : ixT S.T t with
  | none => simp
  | some i => have := ixT_lt h; simp; omega
/- the invariant -/
theorem Inv.zero : Inv S0 := ⟨List.Pairwise.nil, List.Pairwise.nil, List.Pairwise.nil, fun e h => by cases h⟩
variable {S : St}
theorem Inv.def_ (h : Inv S) (c : Int) (n s : Tx) : Inv (defS c n s S) := by
  unfold defS
  split
  · exact h
  · split
    · exact h
    · exact ⟨ul_def h.ul c n s, h.ut, h.ud, h.nr⟩
theorem Inv.cls (h : Inv S) (c : Int) (n : Tx) : Inv (clsS c n S) := ⟨ul_filter h.ul _, h.ut, h.ud, h.nr⟩
theorem Inv.lea (h : Inv S) (c : Int) : Inv (leaS c S) := ⟨ul_filter h.ul _, h.ut, h.ud, h.nr⟩
theorem Inv.for_ (h : Inv S) (c : Int) : Inv (forS c S) := ⟨h.ul, h.ut, List.Pairwise.filter _ h.ud, fun e he => h.nr e (List.mem_filter.1 he).1⟩
theorem Inv.num (h : Inv S) (t : Tx) : Inv (numS t S) := by
  refine ⟨h.ul, ?_, h.ud, fun e he => ?_⟩
  · unfold numS
    show (if _ then _ else _ : List Tx).Nodup
    cases hi : ixT S.T t with
    | none =>
      rw [if_neg (by simp)]
      rw [List.nodup_append]
      refine ⟨h.ut, List.pairwise_singleton _ _, fun a ha b hb e => ?_⟩
      rw [List.mem_singleton] at hb
      subst hb
      subst e
      exact ixT_none.1 hi ha
    | some i => rw [if_pos (by simp)]; exact h.ut
  · have := h.nr e he
    exact ⟨this.1, Nat.le_trans this.2 (numS_len t S).2.2⟩
theorem Inv.nee (h : Inv S) (c : Int) (t : Tx) : Inv (neeS c t S) := by
  have h1 := h.num t
  refine ⟨h.ul, h1.ut, ?_, fun e he => ?_⟩
  · unfold neeS
    show (if _ then _ else _ : List Cn).Nodup
    cases hh : hasA c t S with
    | true => rw [if_pos rfl]; exact h.ud
    | false =>
      rw [if_neg (by simp), List.nodup_append]
      refine ⟨h.ud, List.pairwise_singleton _ _, fun a ha b hb e => ?_⟩
      rw [List.mem_singleton] at hb
      subst hb
      subst e
      have : hasA c t S = true := by unfold hasA; exact ixN_isSome.2 (nms_mem.2 ha)
      rw [hh] at this
      cases this
  · unfold neeS at he
    have he : e ∈ (if hasA c t S = true then S.D else S.D ++ [(c, numA t S)]) := he
    split at he
    · exact h1.nr e he
    · rcases List.mem_append.1 he with he | he
      · exact h1.nr e he
      · rw [List.mem_singleton] at he
        subst he
        exact ⟨(numA_le t S).1, (numS_len t S).2.1⟩
/- names -/
def valL (l : List UInt8) : Nat := l.foldl (fun a c => 10 * a + (c.toNat - 48)) 0
theorem dig_of (i : Nat) (h : i < 10) : (UInt8.ofNat (48 + i)).toNat = 48 + i := by
  have : ((List.range 10).all fun i => decide ((UInt8.ofNat (48 + i)).toNat = 48 + i)) = true := by kernel_rfl
  exact of_decide_eq_true (List.all_eq_true.1 this i (List.mem_range.2 h))
theorem dec_val (u : Nat) : valL (Lib.decDigits u) = u := by
  induction u using Nat.strongRecOn with
  | ind u ih =>
    rw [Lib.decDigits]
    split
    · rename_i h
      show 10 * 0 + ((UInt8.ofNat (48 + u)).toNat - 48) = u
      rw [dig_of u h]; omega
    · rename_i h
      have := ih (u / 10) (by omega)
      unfold valL at this ⊢
      rw [List.foldl_append, this]
      show 10 * (u / 10) + ((UInt8.ofNat (48 + u % 10)).toNat - 48) = u
      rw [dig_of _ (by omega)]; omega
/-- the name of a number -/
def nm (k : Nat) : Tx := ⟨(115 :: Lib.decDigits k).toArray⟩
theorem nm_inj {j k : Nat} (h : nm j = nm k) : j = k := by
  unfold nm at h
  have h1 : (115 :: Lib.decDigits j).toArray = (115 :: Lib.decDigits k).toArray := ByteArray.mk.inj h
  have h2 : Lib.decDigits j = Lib.decDigits k := by
    have := congrArg Array.toList h1
    simpa using this
  rw [← dec_val j, h2, dec_val]
theorem nm_ne (k : Nat) : nm k ≠ ByteArray.empty := by
  unfold nm
  intro h
  have := congrArg (fun b : ByteArray => b.data.size) h
  simp at this
end Go.Proofs.YtkifmhdceobfhaaDoor.PP
