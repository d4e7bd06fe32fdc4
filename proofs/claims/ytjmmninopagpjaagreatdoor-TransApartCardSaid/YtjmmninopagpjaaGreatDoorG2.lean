/- Db -/
import Derived.Test.YtjmmninopagpjaaGreatDoorG1
import Derived.Lib.Bytealg
set_option linter.unusedSimpArgs false
set_option linter.unusedVariables false
namespace Go.Proofs.YtjmmninopagpjaaGreatDoor
open Go.ChangeShapes Go.WideShapes Go.ChangeAt Go.RowKit
set_option maxRecDepth 100000
set_option linter.unusedVariables false
set_option linter.unusedSimpArgs false

def lowP {α : Type} (p : α → Bool) (l : List α) : Nat := (l.takeWhile p).length
theorem low_le {α : Type} (p : α → Bool) : ∀ l : List α,lowP p l ≤ l.length
 | [] => Nat.le_refl _
 | a :: t => by
  unfold lowP
  rw [List.takeWhile_cons]
  split
  ·have := low_le p t
   unfold lowP at this
   simp only [List.length_cons]; omega
  ·simp
theorem low_before {α : Type} (p : α → Bool) : ∀ (l : List α) (i : Nat) (x : α),i < lowP p l → l[i]? = some x → p x = true
 | [],i,x,h,_ => by simp [lowP] at h
 | a :: t,i,x,h,hx => by
  unfold lowP at h
  rw [List.takeWhile_cons] at h
  split at h
  ·rename_i ha
   cases i with
   | zero => simp at hx; subst hx; exact ha
   | succ i => exact low_before p t i x (by simpa [lowP] using h) (by simpa using hx)
  ·simp at h
theorem low_at {α : Type} (p : α → Bool) : ∀ (l : List α) (x : α),l[lowP p l]? = some x → p x = false
 | [],x,h => by simp at h
 | a :: t,x,h => by
  unfold lowP at h
  rw [List.takeWhile_cons] at h
  split at h
  ·exact low_at p t x (by simpa [lowP] using h)
  ·rename_i ha; simp at h; subst h; simpa using ha
theorem low_uniq {α : Type} (p : α → Bool) (l : List α) (i : Nat) (hi : i ≤ l.length) (h1 : ∀ t x,t < i → l[t]? = some x → p x = true) (h2 : ∀ x,l[i]? = some x → p x = false) : lowP p l = i := by
 rcases Nat.lt_trichotomy (lowP p l) i with h | h | h
 ·have hl : lowP p l < l.length := by omega
  have := low_at p l _ (List.getElem?_eq_getElem hl)
  rw [h1 _ _ h (List.getElem?_eq_getElem hl)] at this
  cases this
 ·exact h
 ·have hl : i < l.length := by have := low_le p l; omega
  have := h2 _ (List.getElem?_eq_getElem hl)
  rw [low_before p l i _ h (List.getElem?_eq_getElem hl)] at this
  cases this
def MonoP {α : Type} (p : α → Bool) (l : List α) : Prop := ∀ (i j : Nat) (a b : α),i ≤ j → l[i]? = some a → l[j]? = some b → p b = true → p a = true

def upR (l : List Rw) : Prop := ∀ (i j : Nat) (a b : Rw),i < j → l[i]? = some a → l[j]? = some b → a.1 < b.1
def ltK (k : Int) (r : Rw) : Bool := decide (r.1 < k)
theorem upR_mono {l : List Rw} (h : upR l) (k : Int) : MonoP (ltK k) l := by
 intro i j a b hij ha hb hp
 have hb2 := of_decide_eq_true hp
 rcases Nat.lt_or_ge i j with h1 | h1
 ·have := h i j a b h1 ha hb
  exact decide_eq_true (by omega)
 ·have : i = j := by omega
  subst this
  rw [ha] at hb; injection hb with hb; subst hb; exact hp
def lowR (l : List Rw) (k : Int) : Nat := lowP (ltK k) l
def hasR (l : List Rw) (k : Int) : Bool := match l[lowR l k]? with | some r => r.1 == k | none => false
def insR (l : List Rw) (k v : Int) : List Rw := l.take (lowR l k) ++ (k,v) :: l.drop (lowR l k)
def putR (l : List Rw) (k v : Int) : List Rw × Int :=
 if hasR l k = true then (l.set (lowR l k) (k,v),0) else if 64 ≤ l.length then (l,11) else (insR l k v,0)
def addR (l : List Rw) (k : Int) : List Rw × Int :=
 match l[lowR l k]? with
 | some r => if r.1 = k then (if 999999 ≤ r.2 then (l,2) else (l.set (lowR l k) (k,r.2 + 1),0)) else (l,0)
 | none => (l,0)
def meantB (kd : Bool) (k : Int) (r : Rw) : Bool := !kd || r.1 == k
def getR (kd : Bool) (k : Int) (l : List Rw) : List Rw := l.filter (meantB kd k)
def delR (kd : Bool) (k : Int) (l : List Rw) : List Rw := l.filter fun r => !meantB kd k r
def upN (s : List Tb) : Prop := ∀ (i j : Nat) (a b : Tb),i < j → s[i]? = some a → s[j]? = some b → a.1.data.toList < b.1.data.toList
def ltN (n : ByteArray) (t : Tb) : Bool := decide (t.1.data.toList < n.data.toList)
theorem upN_mono {s : List Tb} (h : upN s) (n : ByteArray) : MonoP (ltN n) s := by
 intro i j a b hij ha hb hp
 have hb2 := of_decide_eq_true hp
 rcases Nat.lt_or_ge i j with h1 | h1
 ·have := h i j a b h1 ha hb
  exact decide_eq_true (List.lt_trans this hb2)
 ·have : i = j := by omega
  subst this
  rw [ha] at hb; injection hb with hb; subst hb; exact hp
def lowT (s : List Tb) (n : ByteArray) : Nat := lowP (ltN n) s
def madeS (s : List Tb) (n : ByteArray) : List Tb := s.take (lowT s n) ++ (n,[]) :: s.drop (lowT s n)
def findN : List Tb → ByteArray → Nat → Int
 | [],_,_ => -1
 | t :: r,n,i => if (t.1.toList == n.toList) = true then (i : Int) else findN r n (i + 1)
theorem find_some : ∀ (s : List Tb) (n : ByteArray) (i : Nat),(findN s n i = -1 ∧ ∀ t ∈ s,t.1 ≠ n) ∨ ∃ k t,findN s n i = ((i + k : Nat) : Int) ∧ s[k]? = some t ∧ t.1 = n ∧ ∀ j u,j < k → s[j]? = some u → u.1 ≠ n
 | [],n,i => .inl ⟨rfl,fun t h => by simp at h⟩
 | t :: r,n,i => by
  rw [findN]
  by_cases h : (t.1.toList == n.toList) = true
  ·rw [if_pos h]
   refine .inr ⟨0,t,by simp,rfl,?_,fun j u hj => by omega⟩
   rw [beq_iff_eq,Lib.toList_data,Lib.toList_data] at h
   apply ByteArray.ext; exact Array.toList_inj.1 h
  ·rw [if_neg h]
   have hne : t.1 ≠ n := fun e => h (by rw [e]; simp)
   rcases find_some r n (i + 1) with ⟨h1,h2⟩ | ⟨k,u,h1,h2,h3,h4⟩
   ·refine .inl ⟨h1,fun x hx => ?_⟩
    rcases List.mem_cons.1 hx with rfl | hx
    ·exact hne
    ·exact h2 x hx
   ·refine .inr ⟨k + 1,u,by rw [h1]; congr 1; omega,by simpa using h2,h3,fun j x hj hx => ?_⟩
    cases j with
    | zero => simp at hx; subst hx; exact hne
    | succ j => exact h4 j x (by omega) (by simpa using hx)
def chgR (kd : Int) (K V : Int) (kb : Bool) (l : List Rw) : List Rw × Int :=
 if kd = 2 then putR l K V else if kd = 3 then addR l K else (delR kb K l,0)
def doS (s : List Tb) (kd : Int) (n : ByteArray) (K V : Int) (kb : Bool) : List Tb × List Rw × Int :=
 if kd = 5 then (if 0 ≤ findN s n 0 then (s,[],9) else if 16 ≤ s.length then (s,[],11) else (madeS s n,[],0))
 else if findN s n 0 < 0 then (s,[],8)
 else match s[(findN s n 0).toNat]? with
  | some t => if kd = 1 then (s,getR kb K t.2,0) else (s.set (findN s n 0).toNat (t.1,(chgR kd K V kb t.2).1),[],(chgR kd K V kb t.2).2)
  | none => (s,[],8)

def inI (n : Int) : Prop := 0 ≤ n ∧ n ≤ 999999
structure RowsP (l : List Rw) : Prop where
 len : l.length ≤ 64
 up : upR l
 ins : ∀ r ∈ l,inI r.1 ∧ inI r.2
structure StateP (s : List Tb) : Prop where
 len : s.length ≤ 16
 up : upN s
 each : ∀ t ∈ s,0 < t.1.size ∧ t.1.size ≤ 30 ∧ RowsP t.2
theorem upR_set {l : List Rw} (h : upR l) (i : Nat) (r : Rw) (hr : l[i]? = some r) (v : Int) : upR (l.set i (r.1,v)) := by
 intro a b x y hab hx hy
 rw [List.getElem?_set] at hx hy
 have hl : i < l.length := (List.getElem?_eq_some_iff.1 hr).1
 split at hx
 ·rename_i e; subst e
  try rw [if_pos hl] at hx
  injection hx with hx; subst hx
  rw [if_neg (by omega)] at hy
  have z := h _ _ r _ hab hr hy
  exact z
 ·split at hy
  ·rename_i e; subst e
   try rw [if_pos hl] at hy
   injection hy with hy; subst hy
   have z := h _ _ _ r hab hx hr
   exact z
  ·exact h _ _ _ _ hab hx hy
theorem has_at {l : List Rw} {k : Int} (h : hasR l k = true) : ∃ r,l[lowR l k]? = some r ∧ r.1 = k := by
 unfold hasR at h
 split at h
 ·rename_i r hr; exact ⟨r,hr,by simpa using h⟩
 ·cases h
theorem has_not {l : List Rw} {k : Int} (h : hasR l k = false) (hu : upR l) : ∀ (i : Nat) (r : Rw),l[i]? = some r → (i < lowR l k → r.1 < k) ∧ (lowR l k ≤ i → k < r.1) := by
 intro i r hr
 refine ⟨fun h1 => of_decide_eq_true (low_before (ltK k) l i r h1 hr),fun h1 => ?_⟩
 have hil : i < l.length := (List.getElem?_eq_some_iff.1 hr).1
 have hlow : lowR l k < l.length := by omega
 have h2 := low_at (ltK k) l _ (List.getElem?_eq_getElem hlow)
 have h3 := of_decide_eq_false h2
 unfold hasR at h
 rw [List.getElem?_eq_getElem hlow] at h
 simp only at h
 have h4 : l[lowR l k].1 ≠ k := fun e => by rw [e] at h; simp at h
 have h5 : k < l[lowR l k].1 := by
  have : ¬ (l[lowR l k].1 < k) := h3
  omega
 rcases Nat.lt_or_ge (lowR l k) i with h6 | h6
 ·have := hu _ _ _ _ h6 (List.getElem?_eq_getElem hlow) hr; omega
 ·have : i = lowR l k := by omega
  subst this
  rw [List.getElem?_eq_getElem hlow] at hr; injection hr with hr; subst hr; exact h5
theorem ins_at {α : Type} (l : List α) (n : Nat) (x : α) (hn : n ≤ l.length) (i : Nat) : (l.take n ++ x :: l.drop n)[i]? = if i < n then l[i]? else if i = n then some x else l[i - 1]? := by
 have ht : (l.take n).length = n := by rw [List.length_take]; omega
 rw [List.getElem?_append,ht]
 split
 ·rename_i h; rw [List.getElem?_take,if_pos h]
 ·rename_i h
  split
  ·rename_i e; subst e; simp
  ·rename_i e
   obtain ⟨d,rfl⟩ : ∃ d,i = n + 1 + d := ⟨i - n - 1,by omega⟩
   rw [show n + 1 + d - n = d + 1 by omega,List.getElem?_cons_succ,List.getElem?_drop]
   congr 1; omega
theorem upR_ins {l : List Rw} {k : Int} (h : hasR l k = false) (hu : upR l) (v : Int) : upR (insR l k v) := by
 have hh := has_not h hu
 have hle : lowR l k ≤ l.length := low_le (ltK k) l
 intro a b x y hab hx hy
 unfold insR at hx hy
 rw [ins_at l _ _ hle] at hx hy
 split at hx
 ·rename_i h1
  split at hy
  ·exact hu _ _ _ _ hab hx hy
  ·split at hy
   ·injection hy with hy; subst hy; exact (hh a x hx).1 h1
   ·have h2 := (hh a x hx).1 h1
    have h3 := (hh _ y hy).2 (by omega)
    omega
 ·split at hx
  ·injection hx with hx; subst hx
   rw [if_neg (by omega),if_neg (by omega)] at hy
   exact (hh _ y hy).2 (by omega)
  ·rw [if_neg (by omega),if_neg (by omega)] at hy
   exact hu _ _ _ _ (by omega) hx hy
theorem mem_set {α : Type} {l : List α} {i : Nat} {x y : α} (h : y ∈ l.set i x) : y = x ∨ y ∈ l := by
 rcases List.mem_or_eq_of_mem_set h with h | h
 ·exact .inr h
 ·exact .inl h
theorem put_right {l : List Rw} {k v : Int} (h : RowsP l) (hk : inI k) (hv : inI v) : RowsP (putR l k v).1 := by
 unfold putR
 by_cases hc : hasR l k = true
 ·rw [if_pos hc]
  obtain ⟨r,hr,rfl⟩ := has_at hc
  refine ⟨by rw [List.length_set]; exact h.len,upR_set h.up _ r hr v,fun x hx => ?_⟩
  rcases mem_set hx with rfl | hx
  ·exact ⟨hk,hv⟩
  ·exact h.ins x hx
 ·rw [if_neg hc]
  by_cases h64 : 64 ≤ l.length
  ·rw [if_pos h64]; exact h
  ·rw [if_neg h64]
   have hle := low_le (ltK k) l
   refine ⟨?_,upR_ins (by simpa using hc) h.up v,fun x hx => ?_⟩
   ·show (insR l k v).length ≤ 64
    unfold insR
    rw [List.length_append,List.length_cons,List.length_take,List.length_drop]
    unfold lowR; omega
   ·unfold insR at hx
    rcases List.mem_append.1 hx with hx | hx
    ·exact h.ins x (List.mem_of_mem_take hx)
    ·rcases List.mem_cons.1 hx with rfl | hx
     ·exact ⟨hk,hv⟩
     ·exact h.ins x (List.mem_of_mem_drop hx)
theorem add_right {l : List Rw} {k : Int} (h : RowsP l) : RowsP (addR l k).1 := by
 unfold addR
 split
 ·rename_i r hr
  by_cases hk : r.1 = k
  ·rw [if_pos hk]
   by_cases h9 : 999999 ≤ r.2
   ·rw [if_pos h9]; exact h
   ·rw [if_neg h9]
    have hri := h.ins r (List.mem_of_getElem? hr)
    subst hk
    refine ⟨by rw [List.length_set]; exact h.len,upR_set h.up _ r hr _,fun x hx => ?_⟩
    rcases mem_set hx with rfl | hx
    ·exact ⟨hri.1,by have := hri.2.1; unfold inI; omega⟩
    ·exact h.ins x hx
  ·rw [if_neg hk]; exact h
 ·exact h
theorem filter_up {l : List Rw} (q : Rw → Bool) (h : upR l) : upR (l.filter q) := by
 have hp : l.Pairwise (fun a b => a.1 < b.1) := by
  rw [List.pairwise_iff_getElem]
  intro i j hi hj hij
  exact h i j _ _ hij (List.getElem?_eq_getElem hi) (List.getElem?_eq_getElem hj)
 have hq := hp.filter q
 rw [List.pairwise_iff_getElem] at hq
 intro i j a b hij ha hb
 obtain ⟨hi,rfl⟩ := List.getElem?_eq_some_iff.1 ha
 obtain ⟨hj,rfl⟩ := List.getElem?_eq_some_iff.1 hb
 exact hq i j hi hj hij
theorem filter_right {l : List Rw} (q : Rw → Bool) (h : RowsP l) : RowsP (l.filter q) :=
 ⟨Nat.le_trans (List.length_filter_le _ _) h.len,filter_up q h.up,fun r hr => h.ins r (List.mem_filter.1 hr).1⟩
theorem chg_right {l : List Rw} {kd K V : Int} {kb : Bool} (h : RowsP l) (hk : inI K) (hv : inI V) : RowsP (chgR kd K V kb l).1 := by
 unfold chgR
 split
 ·exact put_right h hk hv
 ·split
  ·exact add_right h
  ·exact filter_right _ h
theorem upN_set {s : List Tb} (h : upN s) (i : Nat) (t : Tb) (ht : s[i]? = some t) (l : List Rw) : upN (s.set i (t.1,l)) := by
 intro a b x y hab hx hy
 rw [List.getElem?_set] at hx hy
 have hl : i < s.length := (List.getElem?_eq_some_iff.1 ht).1
 split at hx
 ·rename_i e; subst e
  try rw [if_pos hl] at hx
  injection hx with hx; subst hx
  rw [if_neg (by omega)] at hy
  have z := h _ _ t _ hab ht hy
  exact z
 ·split at hy
  ·rename_i e; subst e
   try rw [if_pos hl] at hy
   injection hy with hy; subst hy
   have z := h _ _ _ t hab hx ht
   exact z
  ·exact h _ _ _ _ hab hx hy
theorem lt_tri (a b : List UInt8) (h1 : ¬ a < b) (h2 : a ≠ b) : b < a := by
 rcases Decidable.em (b < a) with h | h
 ·exact h
 ·exact absurd (List.le_antisymm (List.not_lt.1 h) (List.not_lt.1 h1)) h2
theorem not_in {s : List Tb} {n : ByteArray} (h : ∀ t ∈ s,t.1 ≠ n) (hu : upN s) : ∀ (i : Nat) (t : Tb),s[i]? = some t → (i < lowT s n → t.1.data.toList < n.data.toList) ∧ (lowT s n ≤ i → n.data.toList < t.1.data.toList) := by
 intro i t ht
 refine ⟨fun h1 => of_decide_eq_true (low_before (ltN n) s i t h1 ht),fun h1 => ?_⟩
 have hil : i < s.length := (List.getElem?_eq_some_iff.1 ht).1
 have hlow : lowT s n < s.length := by omega
 have h2 := of_decide_eq_false (low_at (ltN n) s _ (List.getElem?_eq_getElem hlow))
 have h4 : s[lowT s n].1.data.toList ≠ n.data.toList := fun e => h _ (List.getElem_mem hlow) (by apply ByteArray.ext; exact Array.toList_inj.1 e)
 have h5 : n.data.toList < s[lowT s n].1.data.toList := lt_tri _ _ h2 h4
 rcases Nat.lt_or_ge (lowT s n) i with h6 | h6
 ·exact List.lt_trans h5 (hu _ _ _ _ h6 (List.getElem?_eq_getElem hlow) ht)
 ·have : i = lowT s n := by omega
  subst this
  rw [List.getElem?_eq_getElem hlow] at ht; injection ht with ht; subst ht; exact h5
theorem upN_made {s : List Tb} {n : ByteArray} (h : ∀ t ∈ s,t.1 ≠ n) (hu : upN s) (l : List Rw) : upN (s.take (lowT s n) ++ (n,l) :: s.drop (lowT s n)) := by
 have hh := not_in h hu
 have hle : lowT s n ≤ s.length := low_le (ltN n) s
 intro a b x y hab hx hy
 rw [ins_at s _ _ hle] at hx hy
 split at hx
 ·rename_i h1
  split at hy
  ·exact hu _ _ _ _ hab hx hy
  ·split at hy
   ·injection hy with hy; subst hy; exact (hh a x hx).1 h1
   ·exact List.lt_trans ((hh a x hx).1 h1) ((hh _ y hy).2 (by omega))
 ·split at hx
  ·injection hx with hx; subst hx
   rw [if_neg (by omega),if_neg (by omega)] at hy
   exact (hh _ y hy).2 (by omega)
  ·rw [if_neg (by omega),if_neg (by omega)] at hy
   exact hu _ _ _ _ (by omega) hx hy
theorem find_neg {s : List Tb} {n : ByteArray} (h : findN s n 0 < 0) : ∀ t ∈ s,t.1 ≠ n := by
 rcases find_some s n 0 with ⟨_,h2⟩ | ⟨k,t,h1,_⟩
 ·exact h2
 ·omega
theorem find_pos {s : List Tb} {n : ByteArray} (h : 0 ≤ findN s n 0) : ∃ t,s[(findN s n 0).toNat]? = some t ∧ t.1 = n ∧ (findN s n 0).toNat < s.length := by
 rcases find_some s n 0 with ⟨h1,h2⟩ | ⟨k,t,h1,h2,h3,_⟩
 ·omega
 ·have e : (findN s n 0).toNat = k := by omega
  rw [e]
  exact ⟨t,h2,h3,(List.getElem?_eq_some_iff.1 h2).1⟩
end Go.Proofs.YtjmmninopagpjaaGreatDoor
