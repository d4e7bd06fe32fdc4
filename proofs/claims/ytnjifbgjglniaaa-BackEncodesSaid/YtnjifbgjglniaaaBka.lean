/- Plain mathematics of layer 20: what is told, its body, how a body is read, and that each undoes the other. No program is walked here. -/
import Derived.Test.YtnjifbgjglniaaaFoq
namespace Go.Proofs.Ytnjifbgjglniaaa.BK
open Go.Proofs.Ytnjifbgjglniaaa
set_option linter.unusedVariables false

/-- what is told -/
structure Tell where
  kind : UInt8 := 0
  status : UInt8 := 0
  text : Tx := []
  keys : List Tx := []
  vals : List Tx := []
  null : List Bool := []
  n : Int := 0
  m : Int := 0
deriving DecidableEq

inductive Kd | login | secret | status | done | setting | columns | row | fields | nothing
deriving DecidableEq
def kd (k : UInt8) : Option Kd :=
  if k = 82 then some .login else if k = 75 then some .secret else if k = 90 then some .status else if k = 67 then some .done
  else if k = 83 then some .setting else if k = 84 then some .columns else if k = 68 then some .row else if k = 69 ∨ k = 78 then some .fields
  else if k = 49 ∨ k = 50 ∨ k = 51 ∨ k = 110 ∨ k = 73 ∨ k = 115 then some .nothing else none

/-- what stands behind each column's name -/
def like : Tx := [0, 0, 0, 0, 0, 0, 0, 0, 0, 25, 255, 255, 255, 255, 255, 255, 0, 0]
def txtsW : List Tx → Tx
  | t :: r => txt t ++ txtsW r
  | [] => []
def colsW : List Tx → Tx
  | k :: r => txt k ++ (like ++ colsW r)
  | [] => []
def fldW : List Tx → List Tx → Tx
  | k :: ks, v :: vs => txt (k ++ v) ++ fldW ks vs
  | _, _ => []

/-- the body, as it is written -/
def bodyD (d : Kd) (t : Tell) : Tx :=
  match d with
  | .login => n32 t.n
  | .secret => n32 t.n ++ n32 t.m
  | .status => [t.status]
  | .done => txt t.text
  | .setting => txt t.text ++ txtsW t.vals
  | .columns => n16 (t.keys.length : Nat) ++ colsW t.keys
  | .row => n16 (min t.vals.length t.null.length : Nat) ++ argsW t.vals t.null
  | .fields => fldW t.keys t.vals ++ [0]
  | .nothing => []
def body (t : Tell) : Tx := match kd t.kind with | some d => bodyD d t | none => []

/-- it has nothing but what its kind has -/
def keptD (d : Kd) (t : Tell) : Prop :=
  match d with
  | .login => t = { kind := t.kind, n := t.n }
  | .secret => t = { kind := t.kind, n := t.n, m := t.m }
  | .status => t = { kind := t.kind, status := t.status }
  | .done => t = { kind := t.kind, text := t.text }
  | .setting => t = { kind := t.kind, text := t.text, vals := t.vals }
  | .columns => t = { kind := t.kind, keys := t.keys }
  | .row => t = { kind := t.kind, vals := t.vals, null := t.null }
  | .fields => t = { kind := t.kind, keys := t.keys, vals := t.vals }
  | .nothing => t = { kind := t.kind }
def Kept (t : Tell) : Prop := match kd t.kind with | some d => keptD d t | none => False
instance (d : Kd) (t : Tell) : Decidable (keptD d t) := by cases d <;> (unfold keptD; exact inferInstance)
instance (t : Tell) : Decidable (Kept t) := by unfold Kept; cases kd t.kind <;> exact inferInstance

/-- all but the length of its message -/
structure Good (t : Tell) : Prop where
  kept : Kept t
  keys100 : t.keys.length ≤ 100
  vals100 : t.vals.length ≤ 100
  text0 : 0 ∉ t.text
  keys0 : ∀ k ∈ t.keys, 0 ∉ k
  vals0 : kd t.kind ≠ some .row → ∀ v ∈ t.vals, 0 ∉ v
  null : kd t.kind = some .row → t.null.length = t.vals.length
  nulls : kd t.kind = some .row → ∀ p ∈ t.vals.zip t.null, p.2 = true → p.1 = []
  one : kd t.kind = some .setting → t.vals.length = 1
  pair : kd t.kind = some .fields → t.keys.length = t.vals.length
  key1 : kd t.kind = some .fields → ∀ k ∈ t.keys, k.length = 1
  n4 : four t.n
  m4 : four t.m
  login : kd t.kind = some .login → t.n = 0 ∨ t.n = 3
  stat : kd t.kind = some .status → t.status = 73 ∨ t.status = 84 ∨ t.status = 69
def RightP (t : Tell) : Prop := Good t ∧ rightL (t.kind, body t) = true

theorem rdB_less (l : Tx) (x : Bool) (h : (rdB 1 l x).2.2 = false) : (rdB 1 l x).2.1.length < l.length := by
  unfold rdB at *
  split at h
  · rename_i hm
    rw [if_pos hm]; simp; omega
  · simp at h

/-- so many columns' names -/
def colsP : Nat → Tx → Bool → List Tx × Tx × Bool
  | 0, l, x => ([], l, x)
  | n + 1, l, x =>
    let k := rdT l x
    let b := rdB 18 k.2.1 k.2.2
    let r := colsP n b.2.1 (b.2.2 || !decide (b.1 = like))
    (k.1 :: r.1, r.2)
theorem colsP_succ (n : Nat) (l : Tx) (x : Bool) : colsP (n + 1) l x =
    ((rdT l x).1 :: (colsP n (rdB 18 (rdT l x).2.1 (rdT l x).2.2).2.1 ((rdB 18 (rdT l x).2.1 (rdT l x).2.2).2.2 || !decide ((rdB 18 (rdT l x).2.1 (rdT l x).2.2).1 = like))).1,
      (colsP n (rdB 18 (rdT l x).2.1 (rdT l x).2.2).2.1 ((rdB 18 (rdT l x).2.1 (rdT l x).2.2).2.2 || !decide ((rdB 18 (rdT l x).2.1 (rdT l x).2.2).1 = like))).2) := rfl
theorem colsP_inv (n : Nat) : ∀ (l : Tx) (x : Bool) (ks : List Tx) (l' : Tx), colsP n l x = (ks, l', false) →
    x = false ∧ l = colsW ks ++ l' ∧ ks.length = n ∧ (∀ k ∈ ks, 0 ∉ k) := by
  induction n with
  | zero =>
    intro l x ks l' h
    injection h with a b; injection b with b c
    subst a b c
    exact ⟨rfl, rfl, rfl, by simp⟩
  | succ n ih =>
    intro l x ks l' h
    unfold colsP at h
    obtain ⟨k, l1, x1, e1⟩ := trip (rdT l x)
    rw [e1] at h; simp only at h
    obtain ⟨b, l2, x2, e2⟩ := trip (rdB 18 l1 x1)
    rw [e2] at h; simp only at h
    obtain ⟨ks', l3, x3, e3⟩ := trip (colsP n l2 (x2 || !decide (b = like)))
    rw [e3] at h; simp only at h
    injection h with a b; injection b with b c
    subst a b c
    obtain ⟨i1, i2, i3, i4⟩ := ih _ _ _ _ e3
    obtain ⟨rfl, hb⟩ := or_not i1
    have hb := of_decide_eq_true hb
    subst hb
    obtain ⟨j1, j2, j3⟩ := rdB_inv e2
    subst j1
    obtain ⟨m1, m2, m3⟩ := rdT_inv e1
    refine ⟨m1, by rw [m2, j2, i2]; simp [colsW], by simp [i3], ?_⟩
    intro f hf
    rcases List.mem_cons.1 hf with rfl | hf
    · exact m3
    · exact i4 f hf
theorem colsP_fwd (ks : List Tx) : ∀ (l : Tx) (x : Bool), (∀ k ∈ ks, 0 ∉ k) → colsP ks.length (colsW ks ++ l) x = (ks, l, x) := by
  induction ks with
  | nil => intro l x _; rfl
  | cons k ks ih =>
    intro l x h
    have hk := h k (by simp)
    rw [List.length_cons, colsP_succ]
    have e : colsW (k :: ks) ++ l = txt k ++ (like ++ (colsW ks ++ l)) := by simp [colsW]
    rw [e, rdT_fwd _ _ _ hk]
    simp only
    have e2 : rdB 18 (like ++ (colsW ks ++ l)) x = (like, colsW ks ++ l, x) := rdB_fwd like _ x
    rw [e2]
    simp only [decide_true, Bool.not_true, Bool.or_false, ih l x (fun g hg => h g (List.mem_cons_of_mem _ hg))]

/-- fields, the first kind of which is read -/
def fldP (k : Tx) (l : Tx) (x : Bool) : List Tx × List Tx × Tx × Bool :=
  if hk : x = true ∨ k = [0] then ([], [], l, x) else
    let v := rdT l x
    let k2 := rdB 1 v.2.1 v.2.2
    if h2 : k2.2.2 = true ∨ k2.1 = [0] then ([k], [v.1], k2.2.1, k2.2.2) else
      have : k2.2.1.length < l.length := Nat.lt_of_lt_of_le (rdB_less _ _ (by cases h : k2.2.2; rfl; exact absurd (Or.inl h) h2)) (rdT_len _ _)
      let r := fldP k2.1 k2.2.1 k2.2.2
      (k :: r.1, v.1 :: r.2.1, r.2.2)
termination_by l.length
theorem fldP_stop (k l : Tx) (x : Bool) (h : x = true ∨ k = [0]) : fldP k l x = ([], [], l, x) := by rw [fldP, dif_pos h]
theorem fldP_cons (k l : Tx) (x : Bool) (hk : ¬ (x = true ∨ k = [0])) :
    fldP k l x = (k :: (fldP (rdB 1 (rdT l x).2.1 (rdT l x).2.2).1 (rdB 1 (rdT l x).2.1 (rdT l x).2.2).2.1 (rdB 1 (rdT l x).2.1 (rdT l x).2.2).2.2).1,
      (rdT l x).1 :: (fldP (rdB 1 (rdT l x).2.1 (rdT l x).2.2).1 (rdB 1 (rdT l x).2.1 (rdT l x).2.2).2.1 (rdB 1 (rdT l x).2.1 (rdT l x).2.2).2.2).2.1,
      (fldP (rdB 1 (rdT l x).2.1 (rdT l x).2.2).1 (rdB 1 (rdT l x).2.1 (rdT l x).2.2).2.1 (rdB 1 (rdT l x).2.1 (rdT l x).2.2).2.2).2.2) := by
  rw [fldP, dif_neg hk]
  by_cases h2 : (rdB 1 (rdT l x).2.1 (rdT l x).2.2).2.2 = true ∨ (rdB 1 (rdT l x).2.1 (rdT l x).2.2).1 = [0]
  · simp only [dif_pos h2]; rw [fldP_stop _ _ _ h2]
  · simp only [dif_neg h2]
theorem rdB_len_le (n : Int) (l : Tx) (x : Bool) : (rdB n l x).1.length ≤ l.length := by unfold rdB; split <;> simp; omega
theorem fldP_len (n : Nat) : ∀ (k l : Tx) (x : Bool), l.length ≤ n → (fldP k l x).1.length = (fldP k l x).2.1.length ∧ (fldP k l x).1.length ≤ l.length + 1 ∧ (fldP k l x).2.2.1.length ≤ l.length := by
  induction n with
  | zero =>
    intro k l x hl
    by_cases hk : x = true ∨ k = [0]
    · rw [fldP_stop _ _ _ hk]; simp
    · rw [fldP_cons _ _ _ hk]
      have hl0 : l = [] := List.eq_nil_of_length_eq_zero (by omega)
      subst hl0
      have e : rdT [] x = ([], [], true) := by simp [rdT]
      have e2 : rdB 1 [] true = ([], [], true) := by simp [rdB]
      rw [e]; simp only [e2]
      rw [fldP_stop _ _ _ (.inl rfl)]; simp
  | succ n ih =>
    intro k l x hl
    by_cases hk : x = true ∨ k = [0]
    · rw [fldP_stop _ _ _ hk]; simp
    · rw [fldP_cons _ _ _ hk]
      have h1 := rdT_len l x
      have h2 := rdB_len 1 (rdT l x).2.1 (rdT l x).2.2
      have h3 := rdB_less (rdT l x).2.1 (rdT l x).2.2
      by_cases h : (rdB 1 (rdT l x).2.1 (rdT l x).2.2).2.2 = true ∨ (rdB 1 (rdT l x).2.1 (rdT l x).2.2).1 = [0]
      · rw [fldP_stop _ _ _ h]; simp; omega
      · have h4 := h3 (by cases hh : (rdB 1 (rdT l x).2.1 (rdT l x).2.2).2.2; rfl; exact absurd (Or.inl hh) h)
        obtain ⟨i1, i2, i3⟩ := ih (rdB 1 (rdT l x).2.1 (rdT l x).2.2).1 (rdB 1 (rdT l x).2.1 (rdT l x).2.2).2.1 (rdB 1 (rdT l x).2.1 (rdT l x).2.2).2.2 (by omega)
        simp only [List.length_cons]
        exact ⟨by omega, by omega, by omega⟩
theorem txt_app1 (b : UInt8) (v : Tx) (hb : b ≠ 0) : txt ([b] ++ v) = b :: txt v := by
  have hb' : (b != 0) = true := by simpa using hb
  unfold txt upto0
  show List.takeWhile _ (b :: v) ++ [0] = _
  rw [List.takeWhile_cons, if_pos hb']; rfl
theorem rdB1_inv {l : Tx} {x : Bool} {t l' : Tx} (h : rdB 1 l x = (t, l', false)) : x = false ∧ ∃ b, t = [b] ∧ l = b :: l' := by
  obtain ⟨a, b, c⟩ := rdB_inv h
  match t, c with
  | [u], _ => exact ⟨a, u, rfl, b⟩
/-- a field's kind is one byte, not 0 -/
def Key1 (k : Tx) : Prop := ∃ b, b ≠ 0 ∧ k = [b]
theorem fldP_inv (n : Nat) : ∀ (b : UInt8) (l : Tx) (x : Bool) (ks vs l' : _), l.length ≤ n → fldP [b] l x = (ks, vs, l', false) →
    x = false ∧ b :: l = fldW ks vs ++ 0 :: l' ∧ ks.length = vs.length ∧ (∀ t ∈ ks, Key1 t) ∧ (∀ t ∈ vs, 0 ∉ t) := by
  induction n with
  | zero =>
    intro b l x ks vs l' hl h
    by_cases hk : x = true ∨ [b] = [0]
    · rw [fldP_stop _ _ _ hk] at h
      obtain ⟨rfl, rfl, rfl, rfl⟩ : ks = [] ∧ vs = [] ∧ l' = l ∧ x = false := by simpa [eq_comm] using h
      have hb : b = 0 := by simpa using hk
      subst hb
      exact ⟨rfl, rfl, rfl, by simp, by simp⟩
    · rw [fldP_cons _ _ _ hk] at h
      have hl0 : l = [] := List.eq_nil_of_length_eq_zero (by omega)
      subst hl0
      exfalso
      have e : rdT [] x = ([], [], true) := by simp [rdT]
      have e2 : rdB 1 [] true = ([], [], true) := by simp [rdB]
      rw [e] at h; simp only [e2] at h
      rw [fldP_stop _ _ _ (.inl rfl)] at h
      simp at h
  | succ n ih =>
    intro b l x ks vs l' hl h
    by_cases hk : x = true ∨ [b] = [0]
    · rw [fldP_stop _ _ _ hk] at h
      obtain ⟨rfl, rfl, rfl, rfl⟩ : ks = [] ∧ vs = [] ∧ l' = l ∧ x = false := by simpa [eq_comm] using h
      have hb : b = 0 := by simpa using hk
      subst hb
      exact ⟨rfl, rfl, rfl, by simp, by simp⟩
    · rw [fldP_cons _ _ _ hk] at h
      have hx : x = false := by cases x; rfl; exact absurd (Or.inl rfl) hk
      have hb : b ≠ 0 := fun e => hk (.inr (by rw [e]))
      subst hx
      have h1 := rdT_len l false
      have h3 := rdB_less (rdT l false).2.1 (rdT l false).2.2
      obtain ⟨v, l1, x1, e1⟩ := trip (rdT l false)
      rw [e1] at h h1 h3
      simp only at h h1 h3
      obtain ⟨k2, l2, x2, e2⟩ := trip (rdB 1 l1 x1)
      rw [e2] at h h3
      simp only at h h3
      obtain ⟨ks', vs', l3, x3, e3⟩ : ∃ a b c d, fldP k2 l2 x2 = (a, b, c, d) := ⟨_, _, _, _, rfl⟩
      rw [e3] at h
      simp only at h
      obtain ⟨rfl, rfl, rfl, rfl⟩ : [b] :: ks' = ks ∧ v :: vs' = vs ∧ l3 = l' ∧ x3 = false := by
        injection h with a b; injection b with b c; injection c with c d; exact ⟨a, b, c, d⟩
      have hx2 : x2 = false := by
        cases hh : x2
        · rfl
        · subst hh
          rw [fldP_stop _ _ _ (.inl rfl)] at e3
          injection e3 with _ e3; injection e3 with _ e3; injection e3 with _ e3
      subst hx2
      obtain ⟨rfl, b2, rfl, rfl⟩ := rdB1_inv e2
      obtain ⟨_, m2, m3⟩ := rdT_inv e1
      obtain ⟨i1, i2, i3, i4, i5⟩ := ih b2 l2 false ks' vs' l3 (by have := h3 rfl; omega) e3
      refine ⟨rfl, ?_, by simp [i3], ?_, ?_⟩
      · rw [m2, i2]
        simp only [fldW]
        rw [txt_app1 _ _ hb]; simp
      · intro t ht
        rcases List.mem_cons.1 ht with rfl | ht
        · exact ⟨b, hb, rfl⟩
        · exact i4 t ht
      · intro t ht
        rcases List.mem_cons.1 ht with rfl | ht
        · exact m3
        · exact i5 t ht
theorem fldP_fwd (ks : List Tx) : ∀ (vs : List Tx) (l : Tx), ks.length = vs.length → (∀ t ∈ ks, Key1 t) → (∀ t ∈ vs, 0 ∉ t) →
    fldP (rdB 1 (fldW ks vs ++ 0 :: l) false).1 (rdB 1 (fldW ks vs ++ 0 :: l) false).2.1 (rdB 1 (fldW ks vs ++ 0 :: l) false).2.2 = (ks, vs, l, false) := by
  induction ks with
  | nil =>
    intro vs l hl h1 h2
    have : vs = [] := List.eq_nil_of_length_eq_zero (by simpa using hl.symm)
    subst this
    have e : rdB 1 (fldW [] [] ++ 0 :: l) false = ([0], l, false) := rdB_fwd [0] l false
    rw [e, fldP_stop _ _ _ (.inr rfl)]
  | cons k ks ih =>
    intro vs l hl h1 h2
    match vs, hl with
    | v :: vs, hl =>
      obtain ⟨b, hb, rfl⟩ := h1 k (by simp)
      have hv := h2 v (by simp)
      have e : fldW ([b] :: ks) (v :: vs) ++ 0 :: l = [b] ++ (txt v ++ (fldW ks vs ++ 0 :: l)) := by
        simp only [fldW]; rw [txt_app1 _ _ hb]; simp
      have e2 : rdB 1 ([b] ++ (txt v ++ (fldW ks vs ++ 0 :: l))) false = ([b], txt v ++ (fldW ks vs ++ 0 :: l), false) := rdB_fwd [b] _ false
      rw [e, e2]
      simp only
      rw [fldP_cons _ _ _ (by rintro (h | h); cases h; injection h with h; exact hb h), rdT_fwd _ _ _ hv]
      simp only
      rw [ih vs l (by simpa using hl) (fun t ht => h1 t (by simp [ht])) (fun t ht => h2 t (by simp [ht]))]

/-- how a body is read: what is told, what is left, whether something was wrong -/
def readD (d : Kd) (t : Tell) (l : Tx) (x : Bool) : Tell × Tx × Bool :=
  match d with
  | .login => let r := rd4 l x; ({ t with n := r.1 }, r.2.1, r.2.2 || !decide (r.1 = 0 ∨ r.1 = 3))
  | .secret => let r := rd4 l x; let q := rd4 r.2.1 r.2.2; ({ t with n := r.1, m := q.1 }, q.2.1, q.2.2)
  | .status => let r := rdB 1 l x; if r.1 = [73] ∨ r.1 = [84] ∨ r.1 = [69] then ({ t with status := r.1.headD 0 }, r.2.1, r.2.2) else (t, r.2.1, true)
  | .done => let r := rdT l x; ({ t with text := r.1 }, r.2.1, r.2.2)
  | .setting => let r := rdT l x; let q := rdT r.2.1 r.2.2; ({ t with text := r.1, vals := [q.1] }, q.2.1, q.2.2)
  | .columns => let c := rdC l x; let r := colsP c.1 c.2.1 c.2.2; ({ t with keys := r.1 }, r.2.1, r.2.2)
  | .row => let c := rdC l x; let r := argsP c.1 c.2.1 c.2.2; ({ t with vals := r.1, null := r.2.1 }, r.2.2.1, r.2.2.2)
  | .fields => let k := rdB 1 l x; let r := fldP k.1 k.2.1 k.2.2; ({ t with keys := r.1, vals := r.2.1 }, r.2.2.1, r.2.2.2 || !decide (r.1.length ≤ 100))
  | .nothing => (t, l, x)
/-- what a message tells -/
def decP (k : UInt8) (s : Tx) : Tell × Int :=
  match kd k with
  | none => ({}, 5)
  | some d =>
    if rightL (k, s) = false then ({}, 4) else
      if (readD d { kind := k } s false).2.2 = true ∨ (readD d { kind := k } s false).2.1 ≠ [] then ({}, 4) else ((readD d { kind := k } s false).1, 0)

theorem kept_of (d : Kd) (a : Tell) (hd : kd a.kind = some d) (h : keptD d a) : Kept a := by unfold Kept; rw [hd]; exact h
theorem body_of (d : Kd) (a : Tell) (hd : kd a.kind = some d) : body a = bodyD d a := by unfold body; rw [hd]
theorem four0 : four 0 := by simp [four]
theorem key0 {k : Tx} (h : Key1 k) : 0 ∉ k := by obtain ⟨b, hb, rfl⟩ := h; simpa using fun e => hb e.symm
theorem key1 {k : Tx} (h : Key1 k) : k.length = 1 := by obtain ⟨b, hb, rfl⟩ := h; rfl
theorem key_of {k : Tx} (h0 : 0 ∉ k) (h1 : k.length = 1) : Key1 k := by
  match k, h1 with
  | [b], _ => exact ⟨b, by simpa [eq_comm] using h0, rfl⟩

theorem sound (d : Kd) (k : UInt8) (hd : kd k = some d) (s l : Tx) (a : Tell) (h : readD d { kind := k } s false = (a, l, false)) : a.kind = k ∧ s = bodyD d a ++ l ∧ Good a := by
  cases d
  · -- login
    unfold readD at h
    obtain ⟨n, l1, x1, e1⟩ := trip (rd4 s false)
    simp only [e1] at h
    injection h with ha hb; injection hb with hb hc
    obtain ⟨rfl, hz⟩ := or_not hc
    have hz := of_decide_eq_true hz
    subst ha hb
    obtain ⟨m1, m2, m3⟩ := rd4_inv e1
    refine ⟨rfl, m2, ?_⟩
    exact { kept := kept_of .login _ hd (by simp [keptD]), keys100 := by simp, vals100 := by simp, text0 := by simp, keys0 := by simp, vals0 := by simp, null := by simp, nulls := by simp, one := (by intro h; rw [hd] at h; cases h), pair := by simp, key1 := by simp, n4 := m3, m4 := four0, login := fun _ => hz, stat := (by intro h; rw [hd] at h; cases h) }
  · -- secret
    unfold readD at h
    obtain ⟨n, l1, x1, e1⟩ := trip (rd4 s false)
    simp only [e1] at h
    obtain ⟨m, l2, x2, e2⟩ := trip (rd4 l1 x1)
    simp only [e2] at h
    injection h with ha hb; injection hb with hb hc
    subst ha hb hc
    obtain ⟨i1, i2, i3⟩ := rd4_inv e2
    subst i1
    obtain ⟨m1, m2, m3⟩ := rd4_inv e1
    refine ⟨rfl, ?_, ?_⟩
    · show s = n32 n ++ n32 m ++ l2
      rw [m2, i2]; simp
    · exact { kept := kept_of .secret _ hd (by simp [keptD]), keys100 := by simp, vals100 := by simp, text0 := by simp, keys0 := by simp, vals0 := by simp, null := by simp, nulls := by simp, one := (by intro h; rw [hd] at h; cases h), pair := by simp, key1 := by simp, n4 := m3, m4 := i3, login := (by intro h; rw [hd] at h; cases h), stat := (by intro h; rw [hd] at h; cases h) }
  · -- status
    unfold readD at h
    obtain ⟨b, l1, x1, e1⟩ := trip (rdB 1 s false)
    simp only [e1] at h
    split at h
    · rename_i hb
      injection h with ha hb1; injection hb1 with hb1 hc
      subst ha hb1 hc
      obtain ⟨j1, u, rfl, j3⟩ := rdB1_inv e1
      refine ⟨rfl, by rw [j3]; rfl, ?_⟩
      exact { kept := kept_of .status _ hd (by simp [keptD]), keys100 := by simp, vals100 := by simp, text0 := by simp, keys0 := by simp, vals0 := by simp, null := by simp, nulls := by simp, one := (by intro h; rw [hd] at h; cases h), pair := by simp, key1 := by simp, n4 := four0, m4 := four0, login := (by intro h; rw [hd] at h; cases h), stat := by intro _; show u = 73 ∨ u = 84 ∨ u = 69; simpa using hb }
    · injection h with ha hb1; injection hb1 with hb1 hc; cases hc
  · -- done
    unfold readD at h
    obtain ⟨t, l1, x1, e1⟩ := trip (rdT s false)
    simp only [e1] at h
    injection h with ha hb; injection hb with hb hc
    subst ha hb hc
    obtain ⟨m1, m2, m3⟩ := rdT_inv e1
    refine ⟨rfl, m2, ?_⟩
    exact { kept := kept_of .done _ hd (by simp [keptD]), keys100 := by simp, vals100 := by simp, text0 := m3, keys0 := by simp, vals0 := by simp, null := by simp, nulls := by simp, one := (by intro h; rw [hd] at h; cases h), pair := by simp, key1 := by simp, n4 := four0, m4 := four0, login := (by intro h; rw [hd] at h; cases h), stat := (by intro h; rw [hd] at h; cases h) }
  · -- setting
    unfold readD at h
    obtain ⟨t, l1, x1, e1⟩ := trip (rdT s false)
    simp only [e1] at h
    obtain ⟨u, l2, x2, e2⟩ := trip (rdT l1 x1)
    simp only [e2] at h
    injection h with ha hb; injection hb with hb hc
    subst ha hb hc
    obtain ⟨j1, j2, j3⟩ := rdT_inv e2
    subst j1
    obtain ⟨m1, m2, m3⟩ := rdT_inv e1
    refine ⟨rfl, ?_, ?_⟩
    · show s = txt t ++ (txt u ++ []) ++ l2
      rw [m2, j2]; simp
    · exact { kept := kept_of .setting _ hd (by simp [keptD]), keys100 := by simp, vals100 := by simp, text0 := m3, keys0 := by simp, vals0 := by simpa using fun _ => j3, null := (by intro h; rw [hd] at h; cases h), nulls := by simp, one := fun _ => rfl, pair := (by intro h; rw [hd] at h; cases h), key1 := by simp, n4 := four0, m4 := four0, login := (by intro h; rw [hd] at h; cases h), stat := (by intro h; rw [hd] at h; cases h) }
  · -- columns
    unfold readD at h
    obtain ⟨n, l1, x1, e1⟩ := trip (rdC s false)
    simp only [e1] at h
    obtain ⟨ks, l2, x2, e2⟩ := trip (colsP n l1 x1)
    simp only [e2] at h
    injection h with ha hb; injection hb with hb hc
    subst ha hb hc
    obtain ⟨j1, j2, j3, j4⟩ := colsP_inv _ _ _ _ _ e2
    subst j1
    obtain ⟨m1, m2, m3⟩ := rdC_inv e1
    refine ⟨rfl, ?_, ?_⟩
    · show s = n16 (ks.length : Nat) ++ colsW ks ++ l2
      rw [m2, j2, j3]; simp
    · exact { kept := kept_of .columns _ hd (by simp [keptD]), keys100 := by show ks.length ≤ 100; omega, vals100 := by simp, text0 := by simp, keys0 := j4, vals0 := by simp, null := (by intro h; rw [hd] at h; cases h), nulls := by simp, one := (by intro h; rw [hd] at h; cases h), pair := (by intro h; rw [hd] at h; cases h), key1 := (by intro h; rw [hd] at h; cases h), n4 := four0, m4 := four0, login := (by intro h; rw [hd] at h; cases h), stat := (by intro h; rw [hd] at h; cases h) }
  · -- row
    unfold readD at h
    obtain ⟨n, l1, x1, e1⟩ := trip (rdC s false)
    simp only [e1] at h
    obtain ⟨az, ns, l5, x5, e5⟩ : ∃ a b c d, argsP n l1 x1 = (a, b, c, d) := ⟨_, _, _, _, rfl⟩
    simp only [e5] at h
    injection h with ha hb; injection hb with hb hc
    subst ha hb hc
    obtain ⟨d1, d2, d3, d4, d5⟩ := argsP_inv _ _ _ _ _ _ e5
    subst d1
    obtain ⟨m1, m2, m3⟩ := rdC_inv e1
    refine ⟨rfl, ?_, ?_⟩
    · show s = n16 (min az.length ns.length : Nat) ++ argsW az ns ++ l5
      rw [m2, d2, d3, d4, Nat.min_self]; simp
    · exact { kept := kept_of .row _ hd (by simp [keptD]), keys100 := by simp, vals100 := by show az.length ≤ 100; omega, text0 := by simp, keys0 := by simp, vals0 := by intro h; exact absurd hd h, null := by intro _; show ns.length = az.length; omega, nulls := fun _ => d5, one := (by intro h; rw [hd] at h; cases h), pair := (by intro h; rw [hd] at h; cases h), key1 := by simp, n4 := four0, m4 := four0, login := (by intro h; rw [hd] at h; cases h), stat := (by intro h; rw [hd] at h; cases h) }
  · -- fields
    unfold readD at h
    obtain ⟨k1, l1, x1, e1⟩ := trip (rdB 1 s false)
    simp only [e1] at h
    obtain ⟨ks, vs, l5, x5, e5⟩ : ∃ a b c d, fldP k1 l1 x1 = (a, b, c, d) := ⟨_, _, _, _, rfl⟩
    simp only [e5] at h
    injection h with ha hb; injection hb with hb hc
    obtain ⟨rfl, hn⟩ := or_not hc
    have hn := of_decide_eq_true hn
    subst ha hb
    have hx1 : x1 = false := by
      cases hh : x1
      · rfl
      · subst hh
        rw [fldP_stop _ _ _ (.inl rfl)] at e5
        injection e5 with _ e5; injection e5 with _ e5; injection e5 with _ e5
    subst hx1
    obtain ⟨_, b, rfl, rfl⟩ := rdB1_inv e1
    obtain ⟨i1, i2, i3, i4, i5⟩ := fldP_inv _ b l1 false ks vs l5 (Nat.le_refl _) e5
    refine ⟨rfl, ?_, ?_⟩
    · show b :: l1 = fldW ks vs ++ [0] ++ l5
      rw [i2]; simp
    · exact { kept := kept_of .fields _ hd (by simp [keptD]), keys100 := hn, vals100 := by show vs.length ≤ 100; omega, text0 := by simp, keys0 := fun t ht => key0 (i4 t ht), vals0 := fun _ => i5, null := (by intro h; rw [hd] at h; cases h), nulls := (by intro h; rw [hd] at h; cases h), one := (by intro h; rw [hd] at h; cases h), pair := fun _ => i3, key1 := fun _ t ht => key1 (i4 t ht), n4 := four0, m4 := four0, login := (by intro h; rw [hd] at h; cases h), stat := (by intro h; rw [hd] at h; cases h) }
  · -- nothing
    unfold readD at h
    injection h with ha hb; injection hb with hb hc
    subst ha hb
    refine ⟨rfl, rfl, ?_⟩
    exact { kept := kept_of .nothing _ hd (by simp [keptD]), keys100 := by simp, vals100 := by simp, text0 := by simp, keys0 := by simp, vals0 := by simp, null := by simp, nulls := by simp, one := (by intro h; rw [hd] at h; cases h), pair := by simp, key1 := by simp, n4 := four0, m4 := four0, login := (by intro h; rw [hd] at h; cases h), stat := (by intro h; rw [hd] at h; cases h) }

theorem fwd (d : Kd) (a : Tell) (hd : kd a.kind = some d) (g : Good a) (hb : d = .row → ∀ t ∈ a.vals, t.length < 2147483648) (l : Tx) : readD d { kind := a.kind } (bodyD d a ++ l) false = (a, l, false) := by
  have hk : keptD d a := by have := g.kept; unfold Kept at this; rw [hd] at this; exact this
  cases d
  · simp only [keptD] at hk
    rw [show bodyD .login a = n32 a.n from rfl]
    unfold readD
    have e1 := rd4_fwd a.n l false g.n4
    simp only [e1]
    rw [decide_eq_true (g.login hd), ← hk]; rfl
  · simp only [keptD] at hk
    unfold readD
    simp only [bodyD, List.append_assoc]
    rw [rd4_fwd _ _ _ g.n4]
    simp only
    rw [rd4_fwd _ _ _ g.m4]
    simp only
    rw [← hk]
  · simp only [keptD] at hk
    rw [show bodyD .status a = [a.status] from rfl]
    unfold readD
    have e1 : rdB 1 ([a.status] ++ l) false = ([a.status], l, false) := rdB_fwd [a.status] _ _
    simp only [e1]
    have hs : [a.status] = [73] ∨ [a.status] = [84] ∨ [a.status] = [69] := by simpa using g.stat hd
    rw [if_pos hs]
    have e3 : ([a.status] : Tx).headD 0 = a.status := rfl
    rw [e3, ← hk]
  · simp only [keptD] at hk
    unfold readD
    simp only [bodyD]
    rw [rdT_fwd _ _ _ g.text0]
    simp only
    rw [← hk]
  · simp only [keptD] at hk
    have h1 := g.one hd
    have h0 := g.vals0 (by rw [hd]; simp)
    obtain ⟨v, hv⟩ := List.length_eq_one_iff.1 h1
    unfold readD
    simp only [bodyD, List.append_assoc]
    rw [rdT_fwd _ _ _ g.text0]
    simp only
    have e : txtsW a.vals ++ l = txt v ++ l := by rw [hv]; simp [txtsW]
    rw [e, rdT_fwd _ _ _ (h0 v (by rw [hv]; simp))]
    simp only
    rw [← hv, ← hk]
  · simp only [keptD] at hk
    unfold readD
    simp only [bodyD, List.append_assoc]
    rw [rdC_fwd _ _ _ g.keys100]
    simp only [Bool.false_eq_true, if_false]
    rw [colsP_fwd _ _ _ g.keys0]
    simp only
    rw [← hk]
  · simp only [keptD] at hk
    unfold readD
    simp only [bodyD, List.append_assoc]
    have hn := g.null hd
    rw [hn, Nat.min_self, rdC_fwd _ _ _ g.vals100]
    simp only [Bool.false_eq_true, if_false]
    rw [argsP_fwd a.vals a.null _ false hn (g.nulls hd) (hb rfl)]
    simp only
    rw [← hk]
  · simp only [keptD] at hk
    have hp := g.pair hd
    have h0 := g.vals0 (by rw [hd]; simp)
    have e : bodyD .fields a ++ l = fldW a.keys a.vals ++ 0 :: l := by simp [bodyD]
    unfold readD
    rw [e]
    simp only
    rw [fldP_fwd a.keys a.vals l hp (fun t ht => key_of (g.keys0 t ht) (g.key1 hd t ht)) h0]
    simp only
    rw [decide_eq_true g.keys100, ← hk]; rfl
  · simp only [keptD] at hk
    unfold readD
    simp only [bodyD]
    rw [← hk]; rfl

theorem Good.kind {a : Tell} (g : Good a) : ∃ d, kd a.kind = some d := by
  have := g.kept
  unfold Kept at this
  cases h : kd a.kind with
  | none => rw [h] at this; exact this.elim
  | some d => exact ⟨d, rfl⟩
theorem Good.valsB {a : Tell} (g : Good a) (hd : kd a.kind = some .row) : ∀ t ∈ a.vals, t.length ≤ (body a).length := by
  intro t ht
  rw [body_of _ a hd]
  have := argsW_len a.vals a.null (g.null hd) (g.nulls hd) t ht
  simp only [bodyD, List.length_append]; omega
theorem RightP.len {a : Tell} (h : RightP a) : (body a).length ≤ 4092 := by
  have := h.2
  simp [rightL] at this
  exact this.2
theorem read_right {a : Tell} (h : RightP a) (d : Kd) (hd : kd a.kind = some d) (l : Tx) : readD d { kind := a.kind } (body a ++ l) false = (a, l, false) := by
  rw [body_of d a hd]
  refine fwd d a hd h.1 (fun e t ht => ?_) l
  subst e
  have := h.1.valsB hd t ht
  have := h.len
  omega
theorem dec_ok {a : Tell} (h : RightP a) : decP a.kind (body a) = (a, 0) := by
  obtain ⟨d, hd⟩ := h.1.kind
  have e := read_right h d hd []
  rw [List.append_nil] at e
  unfold decP
  rw [hd]
  simp only [h.2, Bool.true_eq_false, if_false]
  rw [e]; simp
theorem dec_inv {k : UInt8} {s : Tx} (h : (decP k s).2 = 0) : RightP (decP k s).1 ∧ (decP k s).1.kind = k ∧ body (decP k s).1 = s := by
  unfold decP at *
  cases hd : kd k with
  | none => rw [hd] at h; cases h
  | some d =>
    rw [hd] at h
    simp only at h ⊢
    by_cases hr : rightL (k, s) = false
    · rw [if_pos hr] at h; cases h
    · rw [if_neg hr] at h ⊢
      by_cases hx : (readD d { kind := k } s false).2.2 = true ∨ (readD d { kind := k } s false).2.1 ≠ []
      · rw [if_pos hx] at h; cases h
      · rw [if_neg hx]
        obtain ⟨a, l, x, e⟩ := trip (readD d { kind := k } s false)
        rw [e] at hx ⊢
        have hx0 : x = false := by cases x; rfl; exact absurd (Or.inl rfl) hx
        have hl0 : l = [] := by
          by_cases h : l = []
          · exact h
          · exact absurd (Or.inr h) hx
        subst hx0 hl0
        obtain ⟨h1, h2, h3⟩ := sound d k hd s [] a e
        rw [List.append_nil, ← body_of d a (by rw [h1]; exact hd)] at h2
        refine ⟨⟨h3, ?_⟩, h1, h2.symm⟩
        rw [h1, ← h2]; simpa using hr
theorem dec_no {k : UInt8} {s : Tx} (h : (decP k s).2 ≠ 0) : decP k s = ({}, if (kd k).isSome then 4 else 5) := by
  unfold decP at *
  cases hd : kd k with
  | none => rfl
  | some d =>
    rw [hd] at h
    simp only at h ⊢
    by_cases hr : rightL (k, s) = false
    · rw [if_pos hr]; rfl
    · rw [if_neg hr] at h ⊢
      by_cases hx : (readD d { kind := k } s false).2.2 = true ∨ (readD d { kind := k } s false).2.1 ≠ []
      · rw [if_pos hx]; rfl
      · rw [if_neg hx] at h; exact absurd rfl h

open Classical in
/-- what is encoded -/
noncomputable def encP (a : Tell) : (UInt8 × Tx) × Int := if RightP a then ((a.kind, body a), 0) else ((0, []), 4)

-- how long what is right is
def sumT (l : List Tx) : Nat := (l.map List.length).sum
theorem sumT_cons (t : Tx) (l : List Tx) : sumT (t :: l) = t.length + sumT l := by simp [sumT]
theorem sumT_step (l : List Tx) (k : Nat) (h : k < l.length) : sumT (l.take (k + 1)) = sumT (l.take k) + (l[k]).length := by
  unfold sumT; rw [List.take_succ_eq_append_getElem h, List.map_append, List.sum_append]; simp
theorem txt_len0 (t : Tx) (h : 0 ∉ t) : (txt t).length = t.length + 1 := by rw [txt_of t h]; simp
theorem colsW_sum (ks : List Tx) : (∀ k ∈ ks, 0 ∉ k) → sumT ks ≤ (colsW ks).length := by
  induction ks with
  | nil => intro _; simp [sumT]
  | cons k ks ih =>
    intro h
    have h1 := txt_len0 k (h k (by simp))
    have h2 := ih (fun t ht => h t (by simp [ht]))
    rw [sumT_cons]; simp only [colsW, List.length_append]; omega
theorem argsW_sum (az : List Tx) : ∀ ns : List Bool, ns.length = az.length → (∀ p ∈ az.zip ns, p.2 = true → p.1 = []) → sumT az ≤ (argsW az ns).length := by
  induction az with
  | nil => intro ns _ _; simp [sumT]
  | cons a az ih =>
    intro ns hl h
    match ns, hl with
    | b :: ns, hl =>
      have h2 := ih ns (by simpa using hl) (fun p hp => h p (by rw [List.zip_cons_cons]; exact List.mem_cons_of_mem _ hp))
      rw [argsW_cons, List.length_append, sumT_cons]
      cases b with
      | true => have : a = [] := h (a, true) (by simp) rfl
                subst this; simp; omega
      | false => rw [argW_false, List.length_append]; omega
theorem fldW_sum (ks : List Tx) : ∀ vs : List Tx, ks.length = vs.length → (∀ k ∈ ks, Key1 k) → (∀ t ∈ vs, 0 ∉ t) → sumT ks + sumT vs ≤ (fldW ks vs).length := by
  induction ks with
  | nil =>
    intro vs hl _ _
    have : vs = [] := List.eq_nil_of_length_eq_zero (by simpa using hl.symm)
    subst this; simp [sumT]
  | cons k ks ih =>
    intro vs hl h1 h2
    match vs, hl with
    | v :: vs, hl =>
      have h3 := ih vs (by simpa using hl) (fun t ht => h1 t (by simp [ht])) (fun t ht => h2 t (by simp [ht]))
      obtain ⟨b, hb, rfl⟩ := h1 k (by simp)
      have h4 := txt_len0 v (h2 v (by simp))
      simp only [fldW, List.length_append]
      rw [txt_app1 _ _ hb, sumT_cons, sumT_cons]; simp; omega
def shortB (t : Tell) : Bool := decide (t.keys.length ≤ 100 ∧ t.vals.length ≤ 100 ∧ t.text.length + sumT t.keys + sumT t.vals ≤ 4096)
theorem right_short {a : Tell} (h : RightP a) : shortB a = true := by
  obtain ⟨d, hd⟩ := h.1.kind
  have hl := h.len
  have g := h.1
  rw [body_of d a hd] at hl
  have hk : keptD d a := by have := g.kept; unfold Kept at this; rw [hd] at this; exact this
  unfold shortB
  refine decide_eq_true ⟨g.keys100, g.vals100, ?_⟩
  have e0 : sumT [] = 0 := rfl
  cases d <;> simp only [keptD] at hk <;> simp only [bodyD, List.length_append] at hl
  · rw [hk]; simp [e0]
  · rw [hk]; simp [e0]
  · rw [hk]; simp [e0]
  · have := txt_len0 a.text g.text0
    rw [hk]; simp [e0]; omega
  · obtain ⟨v, hv⟩ := List.length_eq_one_iff.1 (g.one hd)
    have h0 := g.vals0 (by rw [hd]; simp) v (by rw [hv]; simp)
    have := txt_len0 a.text g.text0
    have := txt_len0 v h0
    rw [hv] at hl
    have ek : a.keys = [] := by rw [hk]
    rw [ek, hv, sumT_cons, e0]
    simp [txtsW] at hl
    omega
  · have := colsW_sum a.keys g.keys0
    have e1 : a.vals = [] := by rw [hk]
    have e2 : a.text = [] := by rw [hk]
    rw [e1, e2, e0]; simp; omega
  · have := argsW_sum a.vals a.null (g.null hd) (g.nulls hd)
    have e1 : a.keys = [] := by rw [hk]
    have e2 : a.text = [] := by rw [hk]
    rw [e1, e2, e0]; simp; omega
  · have := fldW_sum a.keys a.vals (g.pair hd) (fun t ht => key_of (g.keys0 t ht) (g.key1 hd t ht)) (g.vals0 (by rw [hd]; simp))
    have e2 : a.text = [] := by rw [hk]
    rw [e2]; simp; omega
  · rw [hk]; simp [e0]
/-- what Encode makes of what is told -/
def encR (a : Tell) (d : Kd) : (UInt8 × Tx) × Int :=
  if shortB a = true ∧ (decP a.kind (bodyD d a)).2 = 0 ∧ a = (decP a.kind (bodyD d a)).1 then ((a.kind, bodyD d a), 0) else ((0, []), 4)
theorem encR_eq (a : Tell) (d : Kd) (hd : kd a.kind = some d) : encR a d = encP a := by
  unfold encR encP
  rw [← body_of d a hd]
  by_cases h : RightP a
  · rw [if_pos h, if_pos ⟨right_short h, by rw [dec_ok h], by rw [dec_ok h]⟩]
  · rw [if_neg h, if_neg]
    rintro ⟨h1, h2, h3⟩
    have := (dec_inv h2).1
    rw [← h3] at this
    exact h this
theorem encP_none (a : Tell) (hd : kd a.kind = none) : encP a = ((0, []), 4) := by
  unfold encP
  rw [if_neg]
  intro h
  obtain ⟨d, e⟩ := h.1.kind
  rw [hd] at e; cases e
end Go.Proofs.Ytnjifbgjglniaaa.BK
