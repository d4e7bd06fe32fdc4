/- Sea Seb -/
import Derived.Test.YtjmmninopagpjaaGreatDoorG9
import Derived.Test.YtjmmninopagpjaaGreatDoorG1
set_option linter.unusedSimpArgs false
set_option linter.unusedVariables false
namespace Go.Proofs.YtjmmninopagpjaaGreatDoor
set_option maxRecDepth 100000
set_option linter.unusedVariables false
set_option linter.unusedSimpArgs false

def keysL : List Tx := [[115,101,108,101,99,116],[102,114,111,109],[119,104,101,114,101],[106,111,105,110],[111,110],[117,115,105,110,103],[103,114,111,117,112],[111,114,100,101,114],[104,97,118,105,110,103],[108,105,109,105,116],[111,102,102,115,101,116],[117,110,105,111,110],[101,120,99,101,112,116],[105,110,116,101,114,115,101,99,116],[97,115],[97,110,100],[111,114],[110,111,116],[105,110],[105,115],[110,117,108,108],[118,97,108,117,101,115],[115,101,116],[105,110,116,111],[105,110,110,101,114],[108,101,102,116],[114,105,103,104,116],[102,117,108,108],[111,117,116,101,114],[99,114,111,115,115],[110,97,116,117,114,97,108],[108,97,116,101,114,97,108],[111,110,108,121],[114,101,116,117,114,110,105,110,103],[119,105,110,100,111,119],[102,111,114],[102,101,116,99,104],[119,104,101,110],[116,104,101,110],[119,105,116,104],[116,97,98,108,101]]
def w_from : Tx := [102,114,111,109]
def w_join : Tx := [106,111,105,110]
def w_using : Tx := [117,115,105,110,103]
def w_table : Tx := [116,97,98,108,101]
def w_delete : Tx := [100,101,108,101,116,101]
def w_only : Tx := [111,110,108,121]
def w_as : Tx := [97,115]
def isTok (k : Int) (ss : List Tx) (l : List Tok) (i : Nat) : Bool := match l[i]? with | some t => t.1 == k && ss.contains t.2.1.toList | none => false
def partB (l : List Tok) (i : Nat) : Bool := match l[i]? with | some t => t.1 == 2 || t.1 == 1 && !keysL.contains t.2.1.toList | none => false
def txtAt (l : List Tok) (i : Nat) : Tx := match l[i]? with | some t => t.2.1.toList | none => []
def nameW (l : List Tok) (i : Nat) : Nat := if partB l i = false then 0 else if (isTok 5 [[46]] l (i + 1) && partB l (i + 2)) = true then 3 else 1
def nameX (l : List Tok) (i : Nat) : Tx := if nameW l i = 3 then txtAt l i ++ [46] ++ txtAt l (i + 2) else txtAt l i
def skipB (l : List Tok) (i : Nat) : Nat := if isTok 1 [w_only,w_table] l i = true then i + 1 else i
def asB (l : List Tok) (i : Nat) : Nat := if isTok 1 [w_as] l i = true then i + 1 else i
def aliasB (l : List Tok) (i : Nat) : Nat := if partB l (asB l i) = true then asB l i + 1 else asB l i
def commaB (l : List Tok) (i : Nat) : Bool := isTok 5 [[44]] l i
def fromF : Nat → List Tok → Nat → List (Tx × Nat)
 | 0,_,_ => []
 | n + 1,l,i => if nameW l (skipB l i) = 0 then [] else (nameX l (skipB l i),skipB l i) :: (if commaB l (aliasB l (skipB l i + nameW l (skipB l i))) = true then fromF n l (aliasB l (skipB l i + nameW l (skipB l i)) + 1) else [])
def fromL (l : List Tok) (i : Nat) : List (Tx × Nat) := fromF (l.length - i) l i
theorem partB_lt {l : List Tok} {i : Nat} (h : partB l i = true) : i < l.length := by
 unfold partB at h
 by_cases hi : i < l.length
 ·exact hi
 ·rw [List.getElem?_eq_none (by omega)] at h; cases h
theorem isTok_lt {k : Int} {ss : List Tx} {l : List Tok} {i : Nat} (h : isTok k ss l i = true) : i < l.length := by
 unfold isTok at h
 by_cases hi : i < l.length
 ·exact hi
 ·rw [List.getElem?_eq_none (by omega)] at h; cases h
theorem nameW_lt {l : List Tok} {i : Nat} (h : nameW l i ≠ 0) : i + nameW l i ≤ l.length ∧ 1 ≤ nameW l i ∧ nameW l i ≤ 3 := by
 unfold nameW at h ⊢
 split at h
 ·exact absurd rfl h
 ·rename_i hp
  have hp2 : partB l i = true := by simpa using hp
  have h1 := partB_lt hp2
  rw [if_neg hp]
  by_cases hd : (isTok 5 [[46]] l (i + 1) && partB l (i + 2)) = true
  ·rw [if_pos hd]
   have h2 := partB_lt (Bool.and_eq_true_iff.1 hd).2
   omega
  ·rw [if_neg hd]; omega
theorem skip_le (l : List Tok) (i : Nat) : i ≤ skipB l i ∧ skipB l i ≤ i + 1 := by unfold skipB; split <;> omega
theorem as_le (l : List Tok) (i : Nat) : i ≤ asB l i ∧ asB l i ≤ i + 1 := by unfold asB; split <;> omega
theorem alias_le (l : List Tok) (i : Nat) : i ≤ aliasB l i ∧ aliasB l i ≤ i + 2 := by have := as_le l i; unfold aliasB; split <;> omega
theorem fromF_stable (l : List Tok) : ∀ (n i : Nat),l.length - i ≤ n → fromF n l i = fromF (l.length - i) l i := by
 intro n
 induction n using Nat.strongRecOn with
 | ind n ih =>
  intro i hn
  by_cases hz : nameW l (skipB l i) = 0
  ·have e : ∀ m,fromF m l i = [] := fun m => by cases m with | zero => rfl | succ m => rw [fromF,if_pos hz]
   rw [e,e]
  ·have h1 := nameW_lt hz
   have h2 := skip_le l i
   obtain ⟨a,ha⟩ : ∃ a,l.length - i = a + 1 := ⟨l.length - i - 1,by omega⟩
   obtain ⟨m,rfl⟩ : ∃ m,n = m + 1 := ⟨n - 1,by omega⟩
   rw [ha,fromF,fromF,if_neg hz,if_neg hz]
   have h3 := alias_le l (skipB l i + nameW l (skipB l i))
   generalize aliasB l (skipB l i + nameW l (skipB l i)) = b at h3
   by_cases hc : commaB l b = true
   ·rw [if_pos hc,if_pos hc,ih m (by omega) (b + 1) (by omega)]
    by_cases ham : a = m
    ·subst ham; rw [ih a (by omega) (b + 1) (by omega)]
    ·rw [ih a (by omega) (b + 1) (by omega)]
   ·rw [if_neg hc,if_neg hc]
theorem fromL_eq (l : List Tok) (i : Nat) : fromL l i = if nameW l (skipB l i) = 0 then [] else (nameX l (skipB l i),skipB l i) :: (if commaB l (aliasB l (skipB l i + nameW l (skipB l i))) = true then fromL l (aliasB l (skipB l i + nameW l (skipB l i)) + 1) else []) := by
 by_cases hz : nameW l (skipB l i) = 0
 ·rw [if_pos hz]; unfold fromL; cases l.length - i with | zero => rfl | succ n => rw [fromF,if_pos hz]
 ·have h1 := nameW_lt hz
  have h2 := skip_le l i
  have h3 := alias_le l (skipB l i + nameW l (skipB l i))
  rw [if_neg hz]
  unfold fromL
  obtain ⟨a,ha⟩ : ∃ a,l.length - i = a + 1 := ⟨l.length - i - 1,by omega⟩
  rw [ha,fromF,if_neg hz]
  generalize aliasB l (skipB l i + nameW l (skipB l i)) = b at h3
  by_cases hc : commaB l b = true
  ·rw [if_pos hc,if_pos hc,fromF_stable l a (b + 1) (by omega)]
  ·rw [if_neg hc,if_neg hc]
theorem fromL_len (l : List Tok) : ∀ (n i : Nat),l.length - i ≤ n → (fromL l i).length ≤ n := by
 intro n
 induction n using Nat.strongRecOn with
 | ind n ih =>
  intro i hn
  rw [fromL_eq]
  split
  ·exact Nat.zero_le _
  ·rename_i hz
   have h1 := nameW_lt hz
   have h2 := skip_le l i
   have h3 := alias_le l (skipB l i + nameW l (skipB l i))
   generalize aliasB l (skipB l i + nameW l (skipB l i)) = b at h3
   split
   ·have := ih (n - 1) (by omega) (b + 1) (by omega)
    simp only [List.length_cons]; omega
   ·simp only [List.length_cons,List.length_nil]; omega
def readsB (l : List Tok) (i : Nat) : Bool := isTok 1 [w_join,w_using] l i || isTok 1 [w_from] l i && !(i != 0 && isTok 1 [w_delete] l (i - 1)) || i == 0 && isTok 1 [w_table] l i
def readsAt (l : List Tok) (i : Nat) : List Tx := if readsB l i = true then (fromL l (i + 1)).map (·.1) else []
def upto (f : Nat → List Tx) : Nat → List Tx
 | 0 => []
 | n + 1 => upto f n ++ f n
def insL (l : List Tx) (s : Tx) : List Tx := if l.contains s = true then l else l.takeWhile (fun x => decide (x < s)) ++ [s] ++ l.dropWhile (fun x => decide (x < s))
def riseL (l : List Tx) : List Tx := l.foldl insL []
def readsL (l : List Tok) : List Tx := riseL (upto (readsAt l) l.length)
end Go.Proofs.YtjmmninopagpjaaGreatDoor
namespace Go.Proofs.YtjmmninopagpjaaGreatDoor
set_option linter.unusedVariables false
set_option linter.unusedSimpArgs false

abbrev Rises (l : List Tx) : Prop := l.Pairwise (· < ·)
theorem tx_irrefl (a : Tx) : ¬ a < a := List.lt_irrefl a
theorem tx_trans {a b c : Tx} (h : a < b) (h2 : b < c) : a < c := List.lt_trans h h2
theorem tx_tri (a b : Tx) : a < b ∨ a = b ∨ b < a := by
 by_cases h : a < b
 ·exact .inl h
 ·by_cases h2 : b < a
  ·exact .inr (.inr h2)
  ·exact .inr (.inl (List.le_antisymm (List.not_lt.1 h2) (List.not_lt.1 h)))
theorem rises_same : ∀ (a b : List Tx),Rises a → Rises b → (∀ s,s ∈ a ↔ s ∈ b) → a = b := by
 intro a
 induction a with
 | nil =>
  intro b _ _ h
  cases b with
  | nil => rfl
  | cons y t => exact absurd ((h y).2 (List.mem_cons_self ..)) (by simp)
 | cons x r ih =>
  intro b ha hb h
  cases b with
  | nil => exact absurd ((h x).1 (List.mem_cons_self ..)) (by simp)
  | cons y t =>
   obtain ⟨hx,hr⟩ := List.pairwise_cons.1 ha
   obtain ⟨hy,ht⟩ := List.pairwise_cons.1 hb
   have hxy : x = y := by
    rcases List.mem_cons.1 ((h x).1 (List.mem_cons_self ..)) with e | e
    ·exact e
    ·rcases List.mem_cons.1 ((h y).2 (List.mem_cons_self ..)) with e2 | e2
     ·exact e2.symm
     ·exact absurd (tx_trans (hy x e) (hx y e2)) (tx_irrefl _)
   subst hxy
   rw [ih t hr ht fun s => ⟨fun hs => ?_,fun hs => ?_⟩]
   ·rcases List.mem_cons.1 ((h s).1 (List.mem_cons_of_mem _ hs)) with e | e
    ·subst e; exact absurd (hx _ hs) (tx_irrefl _)
    ·exact e
   ·rcases List.mem_cons.1 ((h s).2 (List.mem_cons_of_mem _ hs)) with e | e
    ·subst e; exact absurd (hy _ hs) (tx_irrefl _)
    ·exact e
theorem ins_mem (l : List Tx) (s x : Tx) : x ∈ insL l s ↔ x = s ∨ x ∈ l := by
 unfold insL
 split
 ·rename_i h
  have h2 : s ∈ l := by simpa using h
  constructor
  ·exact .inr
  ·rintro (e | e)
   ·rw [e]; exact h2
   ·exact e
 ·have e : ∀ y,y ∈ l ↔ y ∈ l.takeWhile (fun x => decide (x < s)) ∨ y ∈ l.dropWhile (fun x => decide (x < s)) := fun y => by rw [← List.mem_append,List.takeWhile_append_dropWhile]
  rw [e]
  simp only [List.mem_append,List.mem_singleton]
  constructor
  ·rintro ((h | h) | h)
   ·exact .inr (.inl h)
   ·exact .inl h
   ·exact .inr (.inr h)
  ·rintro (h | h | h)
   ·exact .inl (.inr h)
   ·exact .inl (.inl h)
   ·exact .inr h
theorem rises_split (s : Tx) : ∀ l : List Tx,Rises l → (∀ y ∈ l.takeWhile (fun x => decide (x < s)),y < s) ∧ (∀ y ∈ l.dropWhile (fun x => decide (x < s)),¬ y < s) := by
 intro l
 induction l with
 | nil => intro _; exact ⟨fun y h => by simp at h,fun y h => by simp at h⟩
 | cons x r ih =>
  intro h
  obtain ⟨hx,hr⟩ := List.pairwise_cons.1 h
  obtain ⟨i1,i2⟩ := ih hr
  by_cases c : x < s
  ·have d : decide (x < s) = true := by simpa using c
   rw [List.takeWhile_cons,List.dropWhile_cons]
   simp only [d,if_true]
   exact ⟨fun y hy => (List.mem_cons.1 hy).elim (fun e => by rw [e]; exact c) (i1 y),i2⟩
  ·have d : decide (x < s) = false := by simpa using c
   rw [List.takeWhile_cons,List.dropWhile_cons]
   simp only [d,Bool.false_eq_true,if_false]
   refine ⟨fun y hy => by simp at hy,fun y hy => ?_⟩
   rcases List.mem_cons.1 hy with e | e
   ·rw [e]; exact c
   ·exact fun h2 => c (tx_trans (hx y e) h2)
theorem ins_rises (l : List Tx) (s : Tx) (h : Rises l) : Rises (insL l s) := by
 unfold insL
 split
 ·exact h
 ·rename_i hn
  have hn2 : s ∉ l := by simpa using hn
  obtain ⟨h1,h2⟩ := rises_split s l h
  have hl : Rises (l.takeWhile (fun x => decide (x < s)) ++ l.dropWhile (fun x => decide (x < s))) := by rw [List.takeWhile_append_dropWhile]; exact h
  obtain ⟨g1,g2,g3⟩ := List.pairwise_append.1 hl
  have hd : ∀ y ∈ l.dropWhile (fun x => decide (x < s)),s < y := fun y hy => by
   rcases tx_tri s y with c | c | c
   ·exact c
   ·exact absurd (by rw [c]; exact (List.dropWhile_sublist _).mem hy) hn2
   ·exact absurd c (h2 y hy)
  rw [List.append_assoc]
  refine List.pairwise_append.2 ⟨g1,List.pairwise_append.2 ⟨List.pairwise_singleton ..,g2,fun a ha b hb => ?_⟩,fun a ha b hb => ?_⟩
  ·rw [List.mem_singleton.1 ha]; exact hd b hb
  ·rcases List.mem_append.1 hb with hb | hb
   ·rw [List.mem_singleton.1 hb]; exact h1 a ha
   ·exact g3 a ha b hb
theorem foldl_rises (m : List Tx) : ∀ l : List Tx,Rises l → Rises (m.foldl insL l) ∧ ∀ s,s ∈ m.foldl insL l ↔ s ∈ l ∨ s ∈ m := by
 induction m with
 | nil => intro l h; exact ⟨h,fun s => by simp⟩
 | cons x r ih =>
  intro l h
  obtain ⟨a,b⟩ := ih (insL l x) (ins_rises l x h)
  refine ⟨a,fun s => ?_⟩
  rw [List.foldl_cons,b,ins_mem,List.mem_cons]
  constructor
  ·rintro ((h | h) | h)
   ·exact .inr (.inl h)
   ·exact .inl h
   ·exact .inr (.inr h)
  ·rintro (h | h | h)
   ·exact .inl (.inr h)
   ·exact .inl (.inl h)
   ·exact .inr h
theorem rise_rises (l : List Tx) : Rises (riseL l) := (foldl_rises l [] List.Pairwise.nil).1
theorem rise_mem (l : List Tx) (s : Tx) : s ∈ riseL l ↔ s ∈ l := by rw [riseL,(foldl_rises l [] List.Pairwise.nil).2]; simp
theorem rise_is {l m : List Tx} (h : Rises m) (hm : ∀ s,s ∈ m ↔ s ∈ l) : m = riseL l := rises_same _ _ h (rise_rises l) fun s => by rw [rise_mem,hm]
theorem upto_mem (f : Nat → List Tx) : ∀ (n : Nat) (s : Tx),s ∈ upto f n ↔ ∃ i,i < n ∧ s ∈ f i := by
 intro n
 induction n with
 | zero => intro s; simp [upto]
 | succ n ih =>
  intro s
  rw [upto,List.mem_append,ih]
  constructor
  ·rintro (⟨i,h,h2⟩ | h)
   ·exact ⟨i,by omega,h2⟩
   ·exact ⟨n,by omega,h⟩
  ·rintro ⟨i,h,h2⟩
   by_cases e : i = n
   ·subst e; exact .inr h2
   ·exact .inl ⟨i,by omega,h2⟩
end Go.Proofs.YtjmmninopagpjaaGreatDoor
