/- A queue of keys with deadlines, as plain lists: what is set, dropped, due. No program; no condition. -/
import Derived.Test.YtfilmbeoggmglaaRwa
namespace Go.Proofs.Ytfilmbeoggmglaa.EX
open Go.ChangeShapes Go.WideShapes Go.ChangeAt Go.RowKit
set_option maxRecDepth 100000
set_option linter.unusedVariables false
set_option linter.unusedSimpArgs false

/-- an entry: its key, its deadline, which set it was -/
abbrev Et : Type := ByteArray × Int × Int
/-- an item: a key, its deadline -/
abbrev It : Type := ByteArray × Int
def it (e : Et) : It := (e.1, e.2.1)
def dropL (k : ByteArray) (L : List Et) : List Et := L.filter fun e => decide (e.1 ≠ k)
def dropI (k : ByteArray) (l : List It) : List It := l.filter fun e => decide (e.1 ≠ k)
def leL (t : Int) (L : List Et) : List Et := L.filter fun e => !decide (t < e.2.1)
def gtL (t : Int) (L : List Et) : List Et := L.filter fun e => decide (t < e.2.1)
def leI (t : Int) (l : List It) : List It := l.filter fun e => !decide (t < e.2)
def gtI (t : Int) (l : List It) : List It := l.filter fun e => decide (t < e.2)
def setL (k : ByteArray) (t n : Int) (L : List Et) : List Et := leL t (dropL k L) ++ (k, t, n) :: gtL t (dropL k L)
def setI (k : ByteArray) (t : Int) (l : List It) : List It := leI t (dropI k l) ++ (k, t) :: gtI t (dropI k l)
def atI (k : ByteArray) (l : List It) : Option Int := (l.find? fun e => decide (e.1 = k)).map (·.2)
def keysI (l : List It) : List ByteArray := l.map (·.1)
theorem it_dropL (k : ByteArray) (L : List Et) : (dropL k L).map it = dropI k (L.map it) := by unfold dropL dropI; rw [List.filter_map]; rfl
theorem it_leL (t : Int) (L : List Et) : (leL t L).map it = leI t (L.map it) := by unfold leL leI; rw [List.filter_map]; rfl
theorem it_gtL (t : Int) (L : List Et) : (gtL t L).map it = gtI t (L.map it) := by unfold gtL gtI; rw [List.filter_map]; rfl
theorem it_setL (k : ByteArray) (t n : Int) (L : List Et) : (setL k t n L).map it = setI k t (L.map it) := by
  unfold setL setI
  rw [List.map_append, List.map_cons, it_leL, it_gtL, it_dropL]; rfl
def ltE (a b : Et) : Prop := a.2.1 < b.2.1 ∨ a.2.1 = b.2.1 ∧ a.2.2 < b.2.2
/-- entries in their order, each key once -/
structure Srt (n : Int) (L : List Et) : Prop where
  ord : L.Pairwise ltE
  uq : (L.map (·.1)).Nodup
  cnt : ∀ e ∈ L, e.2.2 ≤ n
theorem Srt.nil (n : Int) : Srt n [] := ⟨List.Pairwise.nil, List.nodup_nil, fun e he => by simp at he⟩
theorem Srt.sub {n : Int} {L M : List Et} (h : Srt n L) (hs : M.Sublist L) : Srt n M := ⟨h.ord.sublist hs, h.uq.sublist (hs.map _), fun e he => h.cnt e (hs.subset he)⟩
theorem Srt.mono {n m : Int} {L : List Et} (h : Srt n L) (hn : n ≤ m) : Srt m L := ⟨h.ord, h.uq, fun e he => by have := h.cnt e he; omega⟩
theorem Srt.drop {n : Int} {L : List Et} (h : Srt n L) (k : ByteArray) : Srt n (dropL k L) := h.sub List.filter_sublist
theorem Srt.gt {n : Int} {L : List Et} (h : Srt n L) (t : Int) : Srt n (gtL t L) := h.sub List.filter_sublist
/-- where a test that stays true begins to hold: the list is cut there -/
theorem cut_filter {α : Type} (q : α → Bool) : ∀ (L : List α) (c : Nat), c ≤ L.length → (∀ i x, i < c → L[i]? = some x → q x = false) → (∀ i x, c ≤ i → L[i]? = some x → q x = true) →
    L.take c = L.filter (fun x => !q x) ∧ L.drop c = L.filter q
  | [], c, _, _, _ => by simp
  | x :: L, 0, _, _, h2 => by
    have hq : ∀ y ∈ x :: L, q y = true := fun y hy => by
      obtain ⟨i, hi⟩ := List.mem_iff_getElem?.1 hy
      exact h2 i y (Nat.zero_le _) hi
    refine ⟨?_, ?_⟩
    · rw [List.take_zero]; symm; rw [List.filter_eq_nil_iff]; intro y hy; rw [hq y hy]; simp
    · rw [List.drop_zero]; symm; rw [List.filter_eq_self]; exact hq
  | x :: L, c + 1, hc, h1, h2 => by
    have hx := h1 0 x (Nat.succ_pos _) rfl
    obtain ⟨a, b⟩ := cut_filter q L c (by simpa using hc) (fun i y hi hy => h1 (i + 1) y (by omega) (by simpa using hy)) (fun i y hi hy => h2 (i + 1) y (by omega) (by simpa using hy))
    rw [List.take_succ_cons, List.drop_succ_cons, a, b]
    simp [List.filter_cons, hx]
theorem Srt.split {n : Int} {L : List Et} (h : Srt n L) (t : Int) : L = leL t L ++ gtL t L := by
  have key : ∀ L : List Et, L.Pairwise ltE → L = leL t L ++ gtL t L := by
    intro L
    induction L with
    | nil => intro _; rfl
    | cons x L ih =>
      intro hp
      obtain ⟨h1, h2⟩ := List.pairwise_cons.1 hp
      unfold leL gtL at ih ⊢
      by_cases hx : t < x.2.1
      · have hall : ∀ y ∈ L, decide (t < y.2.1) = true := fun y hy => decide_eq_true (by rcases h1 y hy with e | e <;> omega)
        have e1 : L.filter (fun e => !decide (t < e.2.1)) = [] := by rw [List.filter_eq_nil_iff]; intro y hy; rw [hall y hy]; simp
        have e2 : L.filter (fun e => decide (t < e.2.1)) = L := by rw [List.filter_eq_self]; exact hall
        rw [List.filter_cons, List.filter_cons, if_neg (by simp [hx]), if_pos (by simp [hx]), e1, e2]; rfl
      · rw [List.filter_cons, List.filter_cons, if_pos (by simp [hx]), if_neg (by simp [hx])]
        exact congrArg (x :: ·) (ih h2)
  exact key L h.ord
theorem nodup_mid {α : Type} {A B : List α} {k : α} : (A ++ k :: B).Nodup ↔ (k :: (A ++ B)).Nodup := List.Perm.nodup_iff List.perm_middle
theorem Srt.setL {n : Int} {L : List Et} (h : Srt n L) (k : ByteArray) (t : Int) : Srt (n + 1) (setL k t (n + 1) L) := by
  have hd := h.drop k
  have hl : Srt n (leL t (dropL k L)) := hd.sub List.filter_sublist
  have hg : Srt n (gtL t (dropL k L)) := hd.sub List.filter_sublist
  have ml : ∀ a ∈ leL t (dropL k L), a.2.1 ≤ t ∧ a.2.2 ≤ n ∧ a.1 ≠ k := fun a ha => by
    have := (List.mem_filter.1 ha).2
    have h2 := (List.mem_filter.1 (List.mem_filter.1 ha).1).2
    exact ⟨by simpa using this, hl.cnt a ha, by simpa using h2⟩
  have mg : ∀ a ∈ gtL t (dropL k L), t < a.2.1 ∧ a.1 ≠ k := fun a ha => by
    have := (List.mem_filter.1 ha).2
    have h2 := (List.mem_filter.1 (List.mem_filter.1 ha).1).2
    exact ⟨by simpa using this, by simpa using h2⟩
  refine ⟨?_, ?_, ?_⟩
  · unfold EX.setL
    refine List.pairwise_append.2 ⟨hl.ord, List.pairwise_cons.2 ⟨fun b hb => .inl (mg b hb).1, hg.ord⟩, fun a ha b hb => ?_⟩
    have h1 := ml a ha
    rcases List.mem_cons.1 hb with rfl | hb
    · by_cases e : a.2.1 = t
      · exact .inr ⟨e, by show a.2.2 < n + 1; omega⟩
      · exact .inl (by show a.2.1 < t; omega)
    · exact .inl (by have := (mg b hb).1; omega)
  · unfold EX.setL
    have h3 := hd.uq
    rw [hd.split t, List.map_append] at h3
    rw [List.map_append, List.map_cons]
    refine nodup_mid.2 (List.nodup_cons.2 ⟨fun hm => ?_, h3⟩)
    rcases List.mem_append.1 hm with hm | hm
    · obtain ⟨y, hy, e⟩ := List.mem_map.1 hm; exact (ml y hy).2.2 e
    · obtain ⟨y, hy, e⟩ := List.mem_map.1 hm; exact (mg y hy).2 e
  · intro e he
    unfold EX.setL at he
    rcases List.mem_append.1 he with he | he
    · have := (ml e he).2.1; omega
    · rcases List.mem_cons.1 he with rfl | he
      · exact Int.le_refl _
      · have := hg.cnt e he; omega
/-- taking out an entry that is there -/
theorem Srt.out {n : Int} {A B : List Et} {x : Et} (h : Srt n (A ++ x :: B)) : dropL x.1 (A ++ x :: B) = A ++ B ∧ (∀ a ∈ A, ltE a x) ∧ (∀ b ∈ B, ltE x b) := by
  have h2 := h.uq
  rw [List.map_append, List.map_cons] at h2
  have h3 := nodup_mid.1 h2
  have hn := (List.nodup_cons.1 h3).1
  obtain ⟨o1, o2, o3⟩ := List.pairwise_append.1 h.ord
  refine ⟨?_, fun a ha => o3 a ha x (List.mem_cons_self ..), (List.pairwise_cons.1 o2).1⟩
  unfold dropL
  rw [List.filter_append, List.filter_cons, if_neg (by simp)]
  congr 1
  · rw [List.filter_eq_self]; intro a ha
    exact decide_eq_true fun e => hn (List.mem_append.2 (.inl (List.mem_map.2 ⟨a, ha, e⟩)))
  · rw [List.filter_eq_self]; intro a ha
    exact decide_eq_true fun e => hn (List.mem_append.2 (.inr (List.mem_map.2 ⟨a, ha, e⟩)))
theorem dropL_no {k : ByteArray} {L : List Et} (h : ∀ e ∈ L, e.1 ≠ k) : dropL k L = L := by unfold dropL; rw [List.filter_eq_self]; exact fun a ha => decide_eq_true (h a ha)
theorem setL_len (k : ByteArray) (t n : Int) (L : List Et) : (setL k t n L).length ≤ L.length + 1 := by
  have h1 : (leL t (dropL k L)).length + (gtL t (dropL k L)).length = (dropL k L).length := by
    unfold leL gtL
    induction (dropL k L) with
    | nil => rfl
    | cons x l ih => rw [List.filter_cons, List.filter_cons]; by_cases hx : t < x.2.1 <;> simp [hx] <;> omega
  have h2 : (dropL k L).length ≤ L.length := List.length_filter_le _ _
  unfold setL
  rw [List.length_append, List.length_cons]; omega
end Go.Proofs.Ytfilmbeoggmglaa.EX
