/- Plain mathematics of layer 3: what is asked, its body, how a body is read, and that each undoes the other. No program is walked here. -/
import Derived.Test.YtnjifbgjglniaaaFrp
namespace Go.Proofs.Ytnjifbgjglniaaa
set_option linter.unusedVariables false

abbrev Tx := List UInt8
/-- what is asked -/
structure Ask where
  kind : UInt8 := 0
  name : Tx := []
  portal : Tx := []
  sql : Tx := []
  keys : List Tx := []
  vals : List Tx := []
  args : List Tx := []
  null : List Bool := []
  formats : List Int := []
  most : Int := 0
  what : UInt8 := 0
  cancel : Bool := false
  pid : Int := 0
  secret : Int := 0
deriving DecidableEq

inductive Kd | start | sql | nothing | parse | bind | named | exec
deriving DecidableEq
def kd (k : UInt8) : Option Kd :=
  if k = 0 then some .start else if k = 112 ∨ k = 81 then some .sql else if k = 88 ∨ k = 83 ∨ k = 72 then some .nothing
  else if k = 80 then some .parse else if k = 66 then some .bind else if k = 68 ∨ k = 67 then some .named else if k = 69 then some .exec else none

def n16 (n : Int) : Tx := [byt (n / 256), byt n]
def n32 (n : Int) : Tx := [byt (n / 16777216), byt (n / 65536), byt (n / 256), byt n]
def upto0 (t : Tx) : Tx := t.takeWhile (· != 0)
def txt (t : Tx) : Tx := upto0 t ++ [0]
def four (n : Int) : Prop := -2147483648 ≤ n ∧ n < 2147483648
instance (n : Int) : Decidable (four n) := inferInstanceAs (Decidable (_ ∧ _))

def pairsW : List Tx → List Tx → Tx
  | k :: ks, v :: vs => txt k ++ (txt v ++ pairsW ks vs)
  | _, _ => []
def argW (a : Tx) (n : Bool) : Tx := if n then n32 (-1) else n32 a.length ++ a
def argsW : List Tx → List Bool → Tx
  | a :: az, n :: ns => argW a n ++ argsW az ns
  | _, _ => []
def fmtW : List Int → Tx
  | f :: fs => n16 f ++ fmtW fs
  | [] => []

def bodyD (d : Kd) (a : Ask) : Tx :=
  match d with
  | .start => if a.cancel then n32 80877102 ++ (n32 a.pid ++ n32 a.secret) else n32 196608 ++ (pairsW a.keys a.vals ++ [0])
  | .sql => txt a.sql
  | .nothing => []
  | .parse => txt a.name ++ (txt a.sql ++ n16 0)
  | .bind => txt a.portal ++ (txt a.name ++ (n16 0 ++ (n16 (min a.args.length a.null.length : Nat) ++ (argsW a.args a.null ++ (n16 a.formats.length ++ fmtW a.formats)))))
  | .named => [a.what] ++ txt a.name
  | .exec => txt a.portal ++ n32 a.most
def body (a : Ask) : Tx := match kd a.kind with | some d => bodyD d a | none => []

/-- it has nothing but what its kind has -/
def keptD (d : Kd) (a : Ask) : Prop :=
  match d with
  | .start => a = if a.cancel then { kind := a.kind, cancel := true, pid := a.pid, secret := a.secret } else { kind := a.kind, keys := a.keys, vals := a.vals }
  | .sql => a = { kind := a.kind, sql := a.sql }
  | .nothing => a = { kind := a.kind }
  | .parse => a = { kind := a.kind, name := a.name, sql := a.sql }
  | .bind => a = { kind := a.kind, portal := a.portal, name := a.name, args := a.args, null := a.null, formats := a.formats }
  | .named => a = { kind := a.kind, what := a.what, name := a.name }
  | .exec => a = { kind := a.kind, portal := a.portal, most := a.most }
def Kept (a : Ask) : Prop := match kd a.kind with | some d => keptD d a | none => False
instance (d : Kd) (a : Ask) : Decidable (keptD d a) := by cases d <;> (unfold keptD; exact inferInstance)
instance (a : Ask) : Decidable (Kept a) := by unfold Kept; cases kd a.kind <;> exact inferInstance

/-- all but the length of its message -/
structure Good (a : Ask) : Prop where
  kept : Kept a
  vals : a.keys.length = a.vals.length
  null : a.null.length = a.args.length
  args100 : a.args.length ≤ 100
  fmts100 : a.formats.length ≤ 100
  keys100 : a.keys.length ≤ 100
  name0 : 0 ∉ a.name
  portal0 : 0 ∉ a.portal
  sql0 : 0 ∉ a.sql
  keys0 : ∀ t ∈ a.keys, 0 ∉ t
  vals0 : ∀ t ∈ a.vals, 0 ∉ t
  pid4 : four a.pid
  secret4 : four a.secret
  most0 : 0 ≤ a.most
  most4 : four a.most
  keysN : ∀ t ∈ a.keys, t ≠ []
  nulls : ∀ p ∈ a.args.zip a.null, p.2 = true → p.1 = []
  fmts : ∀ f ∈ a.formats, 0 ≤ f ∧ f ≤ 1
  what : kd a.kind = some .named → a.what = 83 ∨ a.what = 80
def RightP (a : Ask) : Prop := Good a ∧ rightL (a.kind, body a) = true

-- reading
def rdT (l : Tx) (x : Bool) : Tx × Tx × Bool := if 0 ∈ l then (upto0 l, l.drop ((upto0 l).length + 1), x) else ([], [], true)
def rd4 (l : Tx) (x : Bool) : Int × Tx × Bool := if 4 ≤ l.length then (sgn32 (beN (l.take 4)), l.drop 4, x) else (0, [], true)
def rd2 (l : Tx) (x : Bool) : Int × Tx × Bool := if 2 ≤ l.length then (sgn16 (beN (l.take 2)), l.drop 2, x) else (0, [], true)
def rdB (n : Int) (l : Tx) (x : Bool) : Tx × Tx × Bool := if 0 ≤ n ∧ n ≤ l.length then (l.take n.toNat, l.drop n.toNat, x) else ([], [], true)
def rdC (l : Tx) (x : Bool) : Nat × Tx × Bool :=
  let r := rd2 l x
  let y := r.2.2 || !decide (0 ≤ r.1 ∧ r.1 ≤ 100)
  (if y then 0 else r.1.toNat, r.2.1, y)

theorem upto0_le (l : Tx) : (upto0 l).length ≤ l.length := (List.takeWhile_sublist _).length_le
theorem upto0_split (l : Tx) (h : 0 ∈ l) : l = upto0 l ++ 0 :: l.drop ((upto0 l).length + 1) ∧ 0 ∉ upto0 l := by
  induction l with
  | nil => cases h
  | cons b r ih =>
    unfold upto0 at *
    by_cases hb : b = 0
    · subst hb; simp
    · have hr : 0 ∈ r := by
        rcases List.mem_cons.1 h with e | e
        · exact absurd e.symm hb
        · exact e
      obtain ⟨i1, i2⟩ := ih hr
      have hb' : (b != 0) = true := by simpa using hb
      rw [List.takeWhile_cons, if_pos hb']
      refine ⟨?_, ?_⟩
      · simp only [List.length_cons, List.drop_succ_cons, List.cons_append]
        exact congrArg _ i1
      · intro hm
        rcases List.mem_cons.1 hm with e | e
        · exact hb e.symm
        · exact i2 e
theorem upto0_self (t : Tx) (h : 0 ∉ t) : upto0 t = t := by
  induction t with
  | nil => rfl
  | cons b r ih =>
    have hb : b ≠ 0 := fun e => h (by simp [e])
    have := ih (fun e => h (List.mem_cons_of_mem _ e))
    unfold upto0 at *
    rw [List.takeWhile_cons, if_pos (by simpa using hb), this]
theorem txt_of (t : Tx) (h : 0 ∉ t) : txt t = t ++ [0] := by unfold txt; rw [upto0_self t h]
theorem upto0_app (t : Tx) (l : Tx) (h : 0 ∉ t) : upto0 (t ++ 0 :: l) = t := by
  induction t with
  | nil => simp [upto0]
  | cons b r ih =>
    have hb : b ≠ 0 := fun e => h (by simp [e])
    have hr : 0 ∉ r := fun e => h (List.mem_cons_of_mem _ e)
    have := ih hr
    unfold upto0 at *
    rw [List.cons_append, List.takeWhile_cons, if_pos (by simpa using hb), this]

theorem rdT_inv {l : Tx} {x : Bool} {t l' : Tx} (h : rdT l x = (t, l', false)) : x = false ∧ l = txt t ++ l' ∧ 0 ∉ t := by
  unfold rdT at h
  split at h
  · rename_i hm
    obtain ⟨e1, e2⟩ := upto0_split l hm
    injection h with h1 h2
    injection h2 with h2 h3
    subst h1 h2 h3
    refine ⟨rfl, ?_, e2⟩
    rw [txt_of _ e2]
    simpa using e1
  · simp at h
theorem rdT_fwd (t l : Tx) (x : Bool) (h : 0 ∉ t) : rdT (txt t ++ l) x = (t, l, x) := by
  rw [txt_of t h]
  unfold rdT
  have e : t ++ [0] ++ l = t ++ 0 :: l := by simp
  rw [e, if_pos (by simp), upto0_app t l h]
  simp
theorem rdT_len (l : Tx) (x : Bool) : (rdT l x).2.1.length ≤ l.length := by
  unfold rdT; split <;> simp
theorem rdT_less (l : Tx) (x : Bool) (h : (rdT l x).1 ≠ []) : (rdT l x).2.1.length < l.length := by
  unfold rdT at *
  split at h
  · rename_i hm
    rw [if_pos hm]
    have : l ≠ [] := fun e => by simp [e] at hm
    have : 0 < l.length := List.length_pos_iff.2 this
    simp; omega
  · simp at h

theorem n32_back (a b c d : UInt8) : n32 (sgn32 (beN [a, b, c, d])) = [a, b, c, d] := by
  have ha := a.toNat_lt; have hb := b.toNat_lt; have hc := c.toNat_lt; have hd := d.toNat_lt
  have e : beN [a, b, c, d] = ((a.toNat * 256 + b.toNat) * 256 + c.toNat) * 256 + d.toNat := by simp [beN]
  rw [e]
  have key : ∀ (n : Int) (u : UInt8), n % 256 = u.toNat → byt n = u := by
    intro n u h
    apply UInt8.toNat_inj.1
    have := byt_toNat n
    omega
  unfold n32
  have s1 : ∀ m : Nat, m < 4294967296 → ∃ q : Int, sgn32 m = m - q * 4294967296 := by
    intro m hm
    unfold sgn32; split
    · exact ⟨0, by omega⟩
    · exact ⟨1, by omega⟩
  obtain ⟨q, hq⟩ := s1 (((a.toNat * 256 + b.toNat) * 256 + c.toNat) * 256 + d.toNat) (by omega)
  rw [hq]
  rw [key _ a (by omega), key _ b (by omega), key _ c (by omega), key _ d (by omega)]
theorem n16_back (a b : UInt8) : n16 (sgn16 (beN [a, b])) = [a, b] := by
  have ha := a.toNat_lt; have hb := b.toNat_lt
  have e : beN [a, b] = a.toNat * 256 + b.toNat := by simp [beN]
  rw [e]
  have key : ∀ (n : Int) (u : UInt8), n % 256 = u.toNat → byt n = u := by
    intro n u h
    apply UInt8.toNat_inj.1
    have := byt_toNat n
    omega
  unfold n16
  have s1 : ∀ m : Nat, m < 65536 → ∃ q : Int, sgn16 m = m - q * 65536 := by
    intro m hm
    unfold sgn16; split
    · exact ⟨0, by omega⟩
    · exact ⟨1, by omega⟩
  obtain ⟨q, hq⟩ := s1 (a.toNat * 256 + b.toNat) (by omega)
  rw [hq]
  rw [key _ a (by omega), key _ b (by omega)]
theorem beN_n32 (n : Int) (h : four n) : sgn32 (beN (n32 n)) = n := by
  unfold four at h
  have e : beN (n32 n) = (((byt (n / 16777216)).toNat * 256 + (byt (n / 65536)).toNat) * 256 + (byt (n / 256)).toNat) * 256 + (byt n).toNat := by simp [beN, n32]
  have b1 := byt_toNat (n / 16777216)
  have b2 := byt_toNat (n / 65536)
  have b3 := byt_toNat (n / 256)
  have b4 := byt_toNat n
  rw [e]
  unfold sgn32
  split <;> omega
theorem beN_n16 (n : Int) (h1 : -32768 ≤ n) (h2 : n < 32768) : sgn16 (beN (n16 n)) = n := by
  have e : beN (n16 n) = (byt (n / 256)).toNat * 256 + (byt n).toNat := by simp [beN, n16]
  have b3 := byt_toNat (n / 256)
  have b4 := byt_toNat n
  rw [e]
  unfold sgn16
  split <;> omega
theorem sgn32_four (l : Tx) (h : l.length = 4) : four (sgn32 (beN l)) := by
  have := beN_lt l
  rw [h] at this
  unfold four sgn32; split <;> omega
theorem n32_len (n : Int) : (n32 n).length = 4 := rfl
theorem n16_len (n : Int) : (n16 n).length = 2 := rfl

theorem rd4_inv {l : Tx} {x : Bool} {n : Int} {l' : Tx} (h : rd4 l x = (n, l', false)) : x = false ∧ l = n32 n ++ l' ∧ four n := by
  unfold rd4 at h
  split at h
  · rename_i hm
    injection h with h1 h2
    injection h2 with h2 h3
    subst h1 h2 h3
    refine ⟨rfl, ?_, sgn32_four _ (by simp; omega)⟩
    match l, hm with
    | a :: b :: c :: d :: r, _ =>
      have := n32_back a b c d
      simp only [List.take_succ_cons, List.take_zero, List.drop_succ_cons, List.drop_zero] at *
      rw [this]; rfl
  · simp at h
theorem rd4_fwd (n : Int) (l : Tx) (x : Bool) (h : four n) : rd4 (n32 n ++ l) x = (n, l, x) := by
  unfold rd4
  rw [if_pos (by rw [List.length_append, n32_len]; omega), List.take_left' (n32_len n), List.drop_left' (n32_len n), beN_n32 n h]
theorem rd2_inv {l : Tx} {x : Bool} {n : Int} {l' : Tx} (h : rd2 l x = (n, l', false)) : x = false ∧ l = n16 n ++ l' := by
  unfold rd2 at h
  split at h
  · rename_i hm
    injection h with h1 h2
    injection h2 with h2 h3
    subst h1 h2 h3
    refine ⟨rfl, ?_⟩
    match l, hm with
    | a :: b :: r, _ =>
      have := n16_back a b
      simp only [List.take_succ_cons, List.take_zero, List.drop_succ_cons, List.drop_zero] at *
      rw [this]; rfl
  · simp at h
theorem rd2_fwd (n : Int) (l : Tx) (x : Bool) (h1 : -32768 ≤ n) (h2 : n < 32768) : rd2 (n16 n ++ l) x = (n, l, x) := by
  unfold rd2
  rw [if_pos (by rw [List.length_append, n16_len]; omega), List.take_left' (n16_len n), List.drop_left' (n16_len n), beN_n16 n h1 h2]
theorem rdB_inv {k : Int} {l : Tx} {x : Bool} {t l' : Tx} (h : rdB k l x = (t, l', false)) : x = false ∧ l = t ++ l' ∧ (t.length : Int) = k := by
  unfold rdB at h
  split at h
  · rename_i hm
    injection h with h1 h2
    injection h2 with h2 h3
    subst h1 h2 h3
    exact ⟨rfl, by simp, by simp; omega⟩
  · simp at h
theorem rdB_fwd (t l : Tx) (x : Bool) : rdB t.length (t ++ l) x = (t, l, x) := by
  unfold rdB
  rw [if_pos (by simp; omega)]
  simp
theorem rdC_inv {l : Tx} {x : Bool} {n : Nat} {l' : Tx} (h : rdC l x = (n, l', false)) : x = false ∧ l = n16 n ++ l' ∧ n ≤ 100 := by
  unfold rdC at h
  cases h2 : rd2 l x with
  | mk v r =>
    obtain ⟨l2, y⟩ := r
    rw [h2] at h
    simp only at h
    injection h with h1 h3
    injection h3 with h3 h4
    subst h3
    have hy : y = false := by cases y; rfl; simp at h4
    subst hy
    have hb : decide (0 ≤ v ∧ v ≤ 100) = true := by simpa using h4
    have hb' := of_decide_eq_true hb
    obtain ⟨a, b⟩ := rd2_inv h2
    rw [h4] at h1
    simp only [Bool.false_eq_true, if_false] at h1
    refine ⟨a, ?_, by omega⟩
    rw [b, ← h1, Int.toNat_of_nonneg hb'.1]
theorem rdC_fwd (n : Nat) (l : Tx) (x : Bool) (h : n ≤ 100) : rdC (n16 n ++ l) x = (if x then 0 else n, l, x) := by
  unfold rdC
  rw [rd2_fwd _ _ _ (by omega) (by omega)]
  have : decide ((0 : Int) ≤ (n : Int) ∧ (n : Int) ≤ 100) = true := decide_eq_true ⟨by omega, by omega⟩
  simp only [this]
  cases x <;> simp

theorem rd4_len (l : Tx) (x : Bool) : (rd4 l x).2.1.length ≤ l.length := by unfold rd4; split <;> simp
theorem rd2_len (l : Tx) (x : Bool) : (rd2 l x).2.1.length ≤ l.length := by unfold rd2; split <;> simp
theorem rdB_len (n : Int) (l : Tx) (x : Bool) : (rdB n l x).2.1.length ≤ l.length := by unfold rdB; split <;> simp
theorem rdC_len (l : Tx) (x : Bool) : (rdC l x).2.1.length ≤ l.length := rd2_len l x

/-- pairs, the first key of which is read -/
def pairsP (k : Tx) (l : Tx) (x : Bool) : List Tx × List Tx × Tx × Bool :=
  if hk : k = [] then ([], [], l, x) else
    let v := rdT l x
    let k2 := rdT v.2.1 v.2.2
    if h2 : k2.1 = [] then ([k], [v.1], k2.2.1, k2.2.2) else
      have : k2.2.1.length < l.length := Nat.lt_of_lt_of_le (rdT_less _ _ h2) (rdT_len _ _)
      let r := pairsP k2.1 k2.2.1 k2.2.2
      (k :: r.1, v.1 :: r.2.1, r.2.2)
termination_by l.length

theorem pairsP_nil (l : Tx) (x : Bool) : pairsP [] l x = ([], [], l, x) := by rw [pairsP, dif_pos rfl]
theorem pairsP_cons (k l : Tx) (x : Bool) (hk : k ≠ []) :
    pairsP k l x = (k :: (pairsP (rdT (rdT l x).2.1 (rdT l x).2.2).1 (rdT (rdT l x).2.1 (rdT l x).2.2).2.1 (rdT (rdT l x).2.1 (rdT l x).2.2).2.2).1,
      (rdT l x).1 :: (pairsP (rdT (rdT l x).2.1 (rdT l x).2.2).1 (rdT (rdT l x).2.1 (rdT l x).2.2).2.1 (rdT (rdT l x).2.1 (rdT l x).2.2).2.2).2.1,
      (pairsP (rdT (rdT l x).2.1 (rdT l x).2.2).1 (rdT (rdT l x).2.1 (rdT l x).2.2).2.1 (rdT (rdT l x).2.1 (rdT l x).2.2).2.2).2.2) := by
  rw [pairsP, dif_neg hk]
  by_cases h2 : (rdT (rdT l x).2.1 (rdT l x).2.2).1 = []
  · simp only [h2, dite_true]; rw [pairsP_nil]
  · simp only [h2, dite_false]

theorem pairsP_len (n : Nat) : ∀ (k l : Tx) (x : Bool), l.length ≤ n → (pairsP k l x).1.length = (pairsP k l x).2.1.length ∧ (pairsP k l x).1.length ≤ l.length + 1 ∧ (pairsP k l x).2.2.1.length ≤ l.length := by
  induction n with
  | zero =>
    intro k l x hl
    by_cases hk : k = []
    · subst hk; rw [pairsP_nil]; simp
    · rw [pairsP_cons _ _ _ hk]
      have h1 := rdT_len l x
      have h2 := rdT_len (rdT l x).2.1 (rdT l x).2.2
      have h3 := rdT_less (rdT l x).2.1 (rdT l x).2.2
      by_cases h : (rdT (rdT l x).2.1 (rdT l x).2.2).1 = []
      · rw [h, pairsP_nil]; simp; omega
      · have := h3 h; omega
  | succ n ih =>
    intro k l x hl
    by_cases hk : k = []
    · subst hk; rw [pairsP_nil]; simp
    · rw [pairsP_cons _ _ _ hk]
      have h1 := rdT_len l x
      have h2 := rdT_len (rdT l x).2.1 (rdT l x).2.2
      have h3 := rdT_less (rdT l x).2.1 (rdT l x).2.2
      by_cases h : (rdT (rdT l x).2.1 (rdT l x).2.2).1 = []
      · rw [h, pairsP_nil]; simp; omega
      · have h4 := h3 h
        obtain ⟨i1, i2, i3⟩ := ih (rdT (rdT l x).2.1 (rdT l x).2.2).1 (rdT (rdT l x).2.1 (rdT l x).2.2).2.1 (rdT (rdT l x).2.1 (rdT l x).2.2).2.2 (by omega)
        simp only [List.length_cons]
        exact ⟨by omega, by omega, by omega⟩

theorem pairsP_inv (n : Nat) : ∀ (k l : Tx) (x : Bool) (ks vs l' : _), l.length ≤ n → 0 ∉ k → pairsP k l x = (ks, vs, l', false) →
    x = false ∧ txt k ++ l = pairsW ks vs ++ (if k = [] then [0] ++ l else 0 :: l') ∧ (k = [] → ks = [] ∧ vs = [] ∧ l = l') ∧ ks.length = vs.length ∧ (∀ t ∈ ks, 0 ∉ t ∧ t ≠ []) ∧ (∀ t ∈ vs, 0 ∉ t) := by
  induction n with
  | zero =>
    intro k l x ks vs l' hl h0 h
    by_cases hk : k = []
    · subst hk; rw [pairsP_nil] at h
      obtain ⟨rfl, rfl, rfl, rfl⟩ : ks = [] ∧ vs = [] ∧ l' = l ∧ x = false := by simpa [eq_comm] using h
      refine ⟨rfl, by simp [txt, upto0, pairsW], fun _ => ⟨rfl, rfl, rfl⟩, rfl, by simp, by simp⟩
    · rw [pairsP_cons _ _ _ hk] at h
      have hl0 : l = [] := List.eq_nil_of_length_eq_zero (by omega)
      subst hl0
      exfalso
      have e : rdT [] x = ([], [], true) := by simp [rdT]
      have e2 : rdT [] true = ([], [], true) := by simp [rdT]
      rw [e] at h; simp only [e2] at h
      rw [pairsP_nil] at h
      simp at h
  | succ n ih =>
    intro k l x ks vs l' hl h0 h
    by_cases hk : k = []
    · subst hk; rw [pairsP_nil] at h
      obtain ⟨rfl, rfl, rfl, rfl⟩ : ks = [] ∧ vs = [] ∧ l' = l ∧ x = false := by simpa [eq_comm] using h
      refine ⟨rfl, by simp [txt, upto0, pairsW], fun _ => ⟨rfl, rfl, rfl⟩, rfl, by simp, by simp⟩
    · rw [pairsP_cons _ _ _ hk] at h
      have h1 := rdT_len l x
      have h2 := rdT_len (rdT l x).2.1 (rdT l x).2.2
      have h3 := rdT_less (rdT l x).2.1 (rdT l x).2.2
      obtain ⟨v, l1, x1, e1⟩ : ∃ v l1 x1, rdT l x = (v, l1, x1) := ⟨_, _, _, rfl⟩
      rw [e1] at h h1 h2 h3
      simp only at h h1 h2 h3
      obtain ⟨k2, l2, x2, e2⟩ : ∃ k2 l2 x2, rdT l1 x1 = (k2, l2, x2) := ⟨_, _, _, rfl⟩
      rw [e2] at h h2 h3
      simp only at h h2 h3
      obtain ⟨ks', vs', l3, x3, e3⟩ : ∃ a b c d, pairsP k2 l2 x2 = (a, b, c, d) := ⟨_, _, _, _, rfl⟩
      rw [e3] at h
      simp only at h
      obtain ⟨rfl, rfl, rfl, rfl⟩ : k :: ks' = ks ∧ v :: vs' = vs ∧ l3 = l' ∧ x3 = false := by
        injection h with a b; injection b with b c; injection c with c d; exact ⟨a, b, c, d⟩
      have fin : x2 = false → x = false ∧ l = txt v ++ (txt k2 ++ l2) ∧ 0 ∉ v ∧ 0 ∉ k2 := by
        intro hx2
        subst hx2
        obtain ⟨a1, a2, a3⟩ := rdT_inv e2
        subst a1
        obtain ⟨b1, b2, b3⟩ := rdT_inv e1
        exact ⟨b1, by rw [b2, a2], b3, a3⟩
      by_cases hk2 : k2 = []
      · subst hk2
        rw [pairsP_nil] at e3
        obtain ⟨rfl, rfl, rfl, rfl⟩ : [] = ks' ∧ [] = vs' ∧ l2 = l3 ∧ x2 = false := by
          injection e3 with a b; injection b with b c; injection c with c d; exact ⟨a, b, c, d⟩
        obtain ⟨c1, c2, c3, c4⟩ := fin rfl
        refine ⟨c1, ?_, fun e => absurd e hk, rfl, by simpa using ⟨h0, hk⟩, by simpa using c3⟩
        rw [if_neg hk, c2]
        simp [pairsW, txt, upto0]
      · have h4 := h3 hk2
        have hz : 0 ∉ k2 := by
          have := e2
          unfold rdT at this
          split at this
          · rename_i hm
            injection this with a b
            rw [← a]
            exact (upto0_split _ hm).2
          · injection this with a b; exact absurd a.symm hk2
        obtain ⟨i1, i2, i3, i4, i5, i6⟩ := ih k2 l2 x2 ks' vs' l3 (by omega) hz e3
        obtain ⟨c1, c2, c3, c4⟩ := fin i1
        refine ⟨c1, ?_, fun e => absurd e hk, by simp [i4], ?_, ?_⟩
        · rw [if_neg hk, c2]
          rw [if_neg hk2] at i2
          simp only [pairsW, List.append_assoc] at i2 ⊢
          rw [i2]
        · intro t ht
          rcases List.mem_cons.1 ht with rfl | ht
          · exact ⟨h0, hk⟩
          · exact i5 t ht
        · intro t ht
          rcases List.mem_cons.1 ht with rfl | ht
          · exact c3
          · exact i6 t ht

theorem pairsP_fwd (ks : List Tx) : ∀ (vs : List Tx) (l : Tx) (x : Bool), ks.length = vs.length → (∀ t ∈ ks, 0 ∉ t ∧ t ≠ []) → (∀ t ∈ vs, 0 ∉ t) →
    pairsP (rdT (pairsW ks vs ++ 0 :: l) x).1 (rdT (pairsW ks vs ++ 0 :: l) x).2.1 (rdT (pairsW ks vs ++ 0 :: l) x).2.2 = (ks, vs, l, x) := by
  induction ks with
  | nil =>
    intro vs l x hl h1 h2
    have : vs = [] := List.eq_nil_of_length_eq_zero (by simpa using hl.symm)
    subst this
    have e : rdT (pairsW [] [] ++ 0 :: l) x = ([], l, x) := rdT_fwd [] l x (by simp)
    rw [e, pairsP_nil]
  | cons k ks ih =>
    intro vs l x hl h1 h2
    match vs, hl with
    | v :: vs, hl =>
      have e : pairsW (k :: ks) (v :: vs) ++ 0 :: l = txt k ++ (txt v ++ (pairsW ks vs ++ 0 :: l)) := by simp [pairsW]
      have hk := h1 k (by simp)
      have hv := h2 v (by simp)
      rw [e, rdT_fwd _ _ _ hk.1]
      simp only
      rw [pairsP_cons _ _ _ hk.2, rdT_fwd _ _ _ hv]
      simp only
      rw [ih vs l x (by simpa using hl) (fun t ht => h1 t (by simp [ht])) (fun t ht => h2 t (by simp [ht]))]

/-- so many arguments: what each is, and whether it is none -/
def argsP : Nat → Tx → Bool → List Tx × List Bool × Tx × Bool
  | 0, l, x => ([], [], l, x)
  | n + 1, l, x =>
    let k := rd4 l x
    let b := rdB (if k.1 = -1 then 0 else k.1) k.2.1 k.2.2
    let r := argsP n b.2.1 b.2.2
    (b.1 :: r.1, decide (k.1 = -1) :: r.2.1, r.2.2)
def fmtP : Nat → Tx → Bool → List Int × Tx × Bool
  | 0, l, x => ([], l, x)
  | n + 1, l, x =>
    let k := rd2 l x
    let r := fmtP n k.2.1 (k.2.2 || !decide (k.1 = 0 ∨ k.1 = 1))
    (k.1 :: r.1, r.2)

theorem argsW_cons (a : Tx) (az : List Tx) (b : Bool) (ns : List Bool) : argsW (a :: az) (b :: ns) = argW a b ++ argsW az ns := rfl
theorem argW_true (a : Tx) : argW a true = n32 (-1) := rfl
theorem argW_false (a : Tx) : argW a false = n32 a.length ++ a := rfl
theorem argsP_succ (n : Nat) (l : Tx) (x : Bool) : argsP (n + 1) l x =
    ((rdB (if (rd4 l x).1 = -1 then 0 else (rd4 l x).1) (rd4 l x).2.1 (rd4 l x).2.2).1 :: (argsP n (rdB (if (rd4 l x).1 = -1 then 0 else (rd4 l x).1) (rd4 l x).2.1 (rd4 l x).2.2).2.1 (rdB (if (rd4 l x).1 = -1 then 0 else (rd4 l x).1) (rd4 l x).2.1 (rd4 l x).2.2).2.2).1,
      decide ((rd4 l x).1 = -1) :: (argsP n (rdB (if (rd4 l x).1 = -1 then 0 else (rd4 l x).1) (rd4 l x).2.1 (rd4 l x).2.2).2.1 (rdB (if (rd4 l x).1 = -1 then 0 else (rd4 l x).1) (rd4 l x).2.1 (rd4 l x).2.2).2.2).2.1,
      (argsP n (rdB (if (rd4 l x).1 = -1 then 0 else (rd4 l x).1) (rd4 l x).2.1 (rd4 l x).2.2).2.1 (rdB (if (rd4 l x).1 = -1 then 0 else (rd4 l x).1) (rd4 l x).2.1 (rd4 l x).2.2).2.2).2.2) := rfl
theorem fmtP_succ (n : Nat) (l : Tx) (x : Bool) : fmtP (n + 1) l x = ((rd2 l x).1 :: (fmtP n (rd2 l x).2.1 ((rd2 l x).2.2 || !decide ((rd2 l x).1 = 0 ∨ (rd2 l x).1 = 1))).1, (fmtP n (rd2 l x).2.1 ((rd2 l x).2.2 || !decide ((rd2 l x).1 = 0 ∨ (rd2 l x).1 = 1))).2) := rfl

theorem argsP_inv (n : Nat) : ∀ (l : Tx) (x : Bool) (az : List Tx) (ns : List Bool) (l' : Tx), argsP n l x = (az, ns, l', false) →
    x = false ∧ l = argsW az ns ++ l' ∧ az.length = n ∧ ns.length = n ∧ (∀ p ∈ az.zip ns, p.2 = true → p.1 = []) := by
  induction n with
  | zero =>
    intro l x az ns l' h
    injection h with a b; injection b with b c; injection c with c d
    subst a b c d
    exact ⟨rfl, rfl, rfl, rfl, by simp⟩
  | succ n ih =>
    intro l x az ns l' h
    unfold argsP at h
    obtain ⟨k, l1, x1, e1⟩ : ∃ v l1 x1, rd4 l x = (v, l1, x1) := ⟨_, _, _, rfl⟩
    rw [e1] at h; simp only at h
    obtain ⟨t, l2, x2, e2⟩ : ∃ v l2 x2, rdB (if k = -1 then 0 else k) l1 x1 = (v, l2, x2) := ⟨_, _, _, rfl⟩
    rw [e2] at h; simp only at h
    obtain ⟨az', ns', l3, x3, e3⟩ : ∃ a b c d, argsP n l2 x2 = (a, b, c, d) := ⟨_, _, _, _, rfl⟩
    rw [e3] at h; simp only at h
    injection h with a b; injection b with b c; injection c with c d
    subst a b c d
    obtain ⟨i1, i2, i3, i4, i5⟩ := ih _ _ _ _ _ e3
    subst i1
    obtain ⟨j1, j2, j3⟩ := rdB_inv e2
    subst j1
    obtain ⟨m1, m2, m3⟩ := rd4_inv e1
    refine ⟨m1, ?_, by simp [i3], by simp [i4], ?_⟩
    · rw [m2, j2, i2, argsW_cons]
      by_cases hk : k = -1
      · rw [if_pos hk] at j3
        have ht : t = [] := List.eq_nil_of_length_eq_zero (by omega)
        subst ht
        rw [hk, show decide ((-1 : Int) = -1) = true from rfl, argW_true]; simp
      · rw [if_neg hk] at j3
        rw [decide_eq_false hk, argW_false, j3]; simp
    · intro p hp hp2
      rw [List.zip_cons_cons] at hp
      rcases List.mem_cons.1 hp with rfl | hp
      · have hk : k = -1 := of_decide_eq_true hp2
        rw [if_pos hk] at j3
        have : t.length = 0 := by omega
        exact List.eq_nil_of_length_eq_zero this
      · exact i5 p hp hp2
theorem argsP_fwd (az : List Tx) : ∀ (ns : List Bool) (l : Tx) (x : Bool), ns.length = az.length → (∀ p ∈ az.zip ns, p.2 = true → p.1 = []) → (∀ t ∈ az, t.length < 2147483648) →
    argsP az.length (argsW az ns ++ l) x = (az, ns, l, x) := by
  induction az with
  | nil =>
    intro ns l x hl _ _
    have : ns = [] := List.eq_nil_of_length_eq_zero (by simpa using hl)
    subst this; rfl
  | cons a az ih =>
    intro ns l x hl h1 h2
    match ns, hl with
    | b :: ns, hl =>
      have ha : b = true → a = [] := h1 (a, b) (by simp)
      have hlt := h2 a (by simp)
      have e : argsW (a :: az) (b :: ns) ++ l = argW a b ++ (argsW az ns ++ l) := by simp [argsW]
      rw [e]
      have i := ih ns l x (by simpa using hl) (fun p hp => h1 p (by rw [List.zip_cons_cons]; exact List.mem_cons_of_mem _ hp)) (fun t ht => h2 t (List.mem_cons_of_mem _ ht))
      rw [List.length_cons, argsP_succ]
      cases b with
      | true =>
        have := ha rfl
        subst this
        rw [argW_true, rd4_fwd _ _ _ (by unfold four; omega)]
        simp only [if_true]
        have e2 : rdB 0 (argsW az ns ++ l) x = ([], argsW az ns ++ l, x) := rdB_fwd [] _ x
        rw [e2]
        simp only [i]
        rfl
      | false =>
        rw [argW_false, List.append_assoc, rd4_fwd _ _ _ (by unfold four; omega)]
        simp only
        have hne : ¬ ((a.length : Int) = -1) := by omega
        rw [if_neg hne, rdB_fwd a _ x]
        simp only [i, decide_eq_false hne]
theorem fmtP_inv (n : Nat) : ∀ (l : Tx) (x : Bool) (fs : List Int) (l' : Tx), fmtP n l x = (fs, l', false) →
    x = false ∧ l = fmtW fs ++ l' ∧ fs.length = n ∧ (∀ f ∈ fs, 0 ≤ f ∧ f ≤ 1) := by
  induction n with
  | zero =>
    intro l x fs l' h
    injection h with a b; injection b with b c
    subst a b c
    exact ⟨rfl, rfl, rfl, by simp⟩
  | succ n ih =>
    intro l x fs l' h
    unfold fmtP at h
    obtain ⟨k, l1, x1, e1⟩ : ∃ v l1 x1, rd2 l x = (v, l1, x1) := ⟨_, _, _, rfl⟩
    rw [e1] at h; simp only at h
    obtain ⟨fs', l3, x3, e3⟩ : ∃ a c d, fmtP n l1 (x1 || !decide (k = 0 ∨ k = 1)) = (a, c, d) := ⟨_, _, _, rfl⟩
    rw [e3] at h; simp only at h
    injection h with a b; injection b with b c
    subst a b c
    obtain ⟨i1, i2, i3, i4⟩ := ih _ _ _ _ e3
    have hx : x1 = false := by cases x1; rfl; simp at i1
    subst hx
    have hk : k = 0 ∨ k = 1 := by simp at i1; omega
    obtain ⟨m1, m2⟩ := rd2_inv e1
    refine ⟨m1, by rw [m2, i2]; simp [fmtW], by simp [i3], ?_⟩
    intro f hf
    rcases List.mem_cons.1 hf with rfl | hf
    · omega
    · exact i4 f hf
theorem fmtP_fwd (fs : List Int) : ∀ (l : Tx) (x : Bool), (∀ f ∈ fs, 0 ≤ f ∧ f ≤ 1) → fmtP fs.length (fmtW fs ++ l) x = (fs, l, x) := by
  induction fs with
  | nil => intro l x _; rfl
  | cons f fs ih =>
    intro l x h
    have hf := h f (by simp)
    rw [List.length_cons, fmtP_succ]
    have e : fmtW (f :: fs) ++ l = n16 f ++ (fmtW fs ++ l) := by simp [fmtW]
    rw [e, rd2_fwd _ _ _ (by omega) (by omega)]
    have hk : decide (f = 0 ∨ f = 1) = true := decide_eq_true (by omega)
    simp only [hk, Bool.not_true, Bool.or_false, ih l x (fun g hg => h g (List.mem_cons_of_mem _ hg))]

/-- how a body is read: what is asked, what is left, whether something was wrong -/
def readD (d : Kd) (a : Ask) (l : Tx) (x : Bool) : Ask × Tx × Bool :=
  match d with
  | .start =>
    let c := rd4 l x
    if c.1 = 196608 then
      let k := rdT c.2.1 c.2.2
      let r := pairsP k.1 k.2.1 k.2.2
      ({ a with keys := r.1, vals := r.2.1 }, r.2.2.1, r.2.2.2 || !decide (r.1.length ≤ 100))
    else if c.1 = 80877102 then
      let p := rd4 c.2.1 c.2.2
      let s := rd4 p.2.1 p.2.2
      ({ a with cancel := true, pid := p.1, secret := s.1 }, s.2.1, s.2.2)
    else (a, c.2.1, true)
  | .sql => let t := rdT l x; ({ a with sql := t.1 }, t.2.1, t.2.2)
  | .nothing => (a, l, x)
  | .parse =>
    let t := rdT l x
    let u := rdT t.2.1 t.2.2
    let z := rd2 u.2.1 u.2.2
    ({ a with name := t.1, sql := u.1 }, z.2.1, z.2.2 || !decide (z.1 = 0))
  | .bind =>
    let t := rdT l x
    let u := rdT t.2.1 t.2.2
    let z := rd2 u.2.1 u.2.2
    let c := rdC z.2.1 (z.2.2 || !decide (z.1 = 0))
    let r := argsP c.1 c.2.1 c.2.2
    let e := rdC r.2.2.1 r.2.2.2
    let f := fmtP e.1 e.2.1 e.2.2
    ({ a with portal := t.1, name := u.1, args := r.1, null := r.2.1, formats := f.1 }, f.2.1, f.2.2)
  | .named =>
    let w := rdB 1 l x
    let t := rdT w.2.1 (w.2.2 || !decide (w.1 = [83] ∨ w.1 = [80]))
    ({ a with name := t.1, what := if t.2.2 then a.what else w.1.headD 0 }, t.2.1, t.2.2)
  | .exec =>
    let t := rdT l x
    let n := rd4 t.2.1 t.2.2
    ({ a with portal := t.1, most := n.1 }, n.2.1, n.2.2 || !decide (0 ≤ n.1))

def decP (k : UInt8) (s : Tx) : Ask × Int :=
  match kd k with
  | none => ({}, 5)
  | some d =>
    if rightL (k, s) = false then ({}, 4)
    else if (readD d { kind := k } s false).2.2 = true ∨ (readD d { kind := k } s false).2.1 ≠ [] then ({}, 4)
    else ((readD d { kind := k } s false).1, 0)
end Go.Proofs.Ytnjifbgjglniaaa
