/- Dc Dd -/
import Derived.Test.YtjmmninopagpjaaGreatDoorG2
import Derived.Test.YtjmmninopagpjaaGreatDoorG1
set_option linter.unusedSimpArgs false
set_option linter.unusedVariables false
namespace Go.Proofs.YtjmmninopagpjaaGreatDoor
open Go.ChangeShapes Go.WideShapes Go.ChangeAt Go.RowKit
set_option maxRecDepth 100000
set_option linter.unusedVariables false
set_option linter.unusedSimpArgs false

theorem set_self {α : Type} : ∀ (l : List α) (i : Nat) (x : α),l[i]? = some x → l.set i x = l
 | [],i,x,h => by simp at h
 | a :: t,0,x,h => by simp at h; subst h; rfl
 | a :: t,i + 1,x,h => by rw [List.set_cons_succ,set_self t i x (by simpa using h)]
theorem find_at {s : List Tb} (hu : upN s) {i : Nat} {t : Tb} (ht : s[i]? = some t) : findN s t.1 0 = (i : Int) := by
 rcases find_some s t.1 0 with ⟨_,h2⟩ | ⟨k,u,h1,h2,h3,_⟩
 ·exact absurd rfl (h2 t (List.mem_of_getElem? ht))
 ·rw [h1,Nat.zero_add]
  congr 1
  rcases Nat.lt_trichotomy k i with h | h | h
  ·have := hu _ _ _ _ h h2 ht; rw [h3] at this; exact absurd this (List.lt_irrefl _)
  ·exact h
  ·have := hu _ _ _ _ h ht h2; rw [h3] at this; exact absurd this (List.lt_irrefl _)
theorem find_mem {s : List Tb} (hu : upN s) {t : Tb} (ht : t ∈ s) : ∃ i : Nat,findN s t.1 0 = (i : Int) ∧ s[i]? = some t := by
 obtain ⟨i,hi,rfl⟩ := List.getElem_of_mem ht
 exact ⟨i,find_at hu (List.getElem?_eq_getElem hi),List.getElem?_eq_getElem hi⟩
theorem do_cases (s : List Tb) (kd : Int) (n : ByteArray) (K V : Int) (kb : Bool) :
  (kd = 5 ∧ ((∃ t ∈ s,t.1 = n) ∧ doS s kd n K V kb = (s,[],9) ∨ (∀ t ∈ s,t.1 ≠ n) ∧ 16 ≤ s.length ∧ doS s kd n K V kb = (s,[],11) ∨ (∀ t ∈ s,t.1 ≠ n) ∧ s.length < 16 ∧ doS s kd n K V kb = (madeS s n,[],0))) ∨
  (kd ≠ 5 ∧ (∀ t ∈ s,t.1 ≠ n) ∧ doS s kd n K V kb = (s,[],8)) ∨
  (kd ≠ 5 ∧ ∃ i t,s[i]? = some t ∧ t.1 = n ∧ doS s kd n K V kb = if kd = 1 then (s,getR kb K t.2,0) else (s.set i (t.1,(chgR kd K V kb t.2).1),[],(chgR kd K V kb t.2).2)) := by
 by_cases h5 : kd = 5
 ·left
  refine ⟨h5,?_⟩
  unfold doS
  rw [if_pos h5]
  by_cases hf : 0 ≤ findN s n 0
  ·obtain ⟨t,h1,h2,_⟩ := find_pos hf
   exact .inl ⟨⟨t,List.mem_of_getElem? h1,h2⟩,by rw [if_pos hf]⟩
  ·rw [if_neg hf]
   have hn := find_neg (s := s) (n := n) (by omega)
   by_cases h16 : 16 ≤ s.length
   ·exact .inr (.inl ⟨hn,h16,by rw [if_pos h16]⟩)
   ·exact .inr (.inr ⟨hn,by omega,by rw [if_neg h16]⟩)
 ·right
  by_cases hf : findN s n 0 < 0
  ·left
   refine ⟨h5,find_neg hf,?_⟩
   unfold doS
   rw [if_neg h5,if_pos hf]
  ·right
   obtain ⟨t,h1,h2,_⟩ := find_pos (s := s) (n := n) (by omega)
   refine ⟨h5,_,t,h1,h2,?_⟩
   unfold doS
   rw [if_neg h5,if_neg hf,h1]

theorem set_cut {α : Type} : ∀ (l : List α) (i : Nat) (x : α),i < l.length → l.set i x = l.take i ++ x :: l.drop (i + 1)
 | [],i,x,h => by simp at h
 | a :: t,0,x,_ => rfl
 | a :: t,i + 1,x,h => by rw [List.set_cons_succ,set_cut t i x (by simpa using h)]; rfl
theorem up_step {α : Type} {R : α → α → Prop} (ht : ∀ a b c,R a b → R b c → R a c) {l : List α} (h : ∀ (i : Nat) (a b : α),l[i]? = some a → l[i + 1]? = some b → R a b) : ∀ (i j : Nat) (a b : α),i < j → l[i]? = some a → l[j]? = some b → R a b := by
 intro i j
 induction j with
 | zero => intro a b h; omega
 | succ j ih =>
  intro a b hij ha hb
  rcases Nat.lt_or_ge i j with h1 | h1
  ·have hj : j < l.length := by have := (List.getElem?_eq_some_iff.1 hb).1; omega
   exact ht _ _ _ (ih a l[j] h1 ha (List.getElem?_eq_getElem hj)) (h j _ _ (List.getElem?_eq_getElem hj) hb)
  ·have : i = j := by omega
   subst this
   exact h i _ _ ha hb
end Go.Proofs.YtjmmninopagpjaaGreatDoor
