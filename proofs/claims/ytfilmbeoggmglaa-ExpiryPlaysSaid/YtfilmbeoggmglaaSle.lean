/- What may stand in a store of package slru, as plain lists: budgets are kept, whatever is put, touched and dropped. No program; no condition. -/
import Derived.Test.YtfilmbeoggmglaaSlk
namespace Go.Proofs.Ytfilmbeoggmglaa.SL
open Go.ChangeShapes Go.WideShapes Go.ChangeAt Go.RowKit Go.Maps Go.ChangeMaps
set_option maxRecDepth 100000
set_option linter.unusedVariables false
set_option linter.unusedSimpArgs false

def posE (l : List En) : Prop := ∀ y ∈ l, 1 ≤ y.2
theorem posE.del {l : List En} (h : posE l) (k : ByteArray) : posE (delE k l) := fun y hy => h y (del_ne hy).1
theorem sum_del_has {k : ByteArray} : ∀ {l : List En}, posE l → (∀ z, hasE k l = some z → sumE (delE k l) + z ≤ sumE l) ∧ sumE (delE k l) ≤ sumE l
  | [], _ => ⟨fun z h => by simp [hasE] at h, Int.le_refl _⟩
  | x :: l, h => by
    have hx := h x (by simp)
    obtain ⟨h1, h2⟩ := sum_del_has (k := k) (l := l) fun y hy => h y (by simp [hy])
    by_cases e : x.1 = k
    · have e1 : delE k (x :: l) = delE k l := by unfold delE; rw [List.filter_cons, if_neg (by simp [e])]
      rw [e1, sumE]
      refine ⟨fun z hz => ?_, by omega⟩
      have : x.2 = z := by unfold hasE at hz; rw [List.find?_cons_of_pos (by simp [e])] at hz; simpa using hz
      omega
    · have e1 : delE k (x :: l) = x :: delE k l := by unfold delE; rw [List.filter_cons, if_pos (by simp [e])]
      have e2 : hasE k (x :: l) = hasE k l := by unfold hasE; rw [List.find?_cons_of_neg (by simp [e])]
      rw [e1, e2, sumE, sumE]
      refine ⟨fun z hz => ?_, by omega⟩
      have := h1 z hz
      omega
theorem has_pos {k : ByteArray} {l : List En} (h : posE l) {z : Int} (hz : hasE k l = some z) : 1 ≤ z := by
  unfold hasE at hz
  cases hf : l.find? (fun x => decide (x.1 = k)) with
  | none => rw [hf] at hz; cases hz
  | some y => rw [hf] at hz; injection hz with hz; rw [← hz]; exact h y (List.mem_of_find?_eq_some hf)
theorem has_key {k : ByteArray} {l : List En} {z : Int} (hz : hasE k l = some z) : ∃ y ∈ l, y.1 = k ∧ y.2 = z := by
  unfold hasE at hz
  cases hf : l.find? (fun x => decide (x.1 = k)) with
  | none => rw [hf] at hz; cases hz
  | some y =>
    rw [hf] at hz; injection hz with hz
    exact ⟨y, List.mem_of_find?_eq_some hf, by simpa using List.find?_some hf, hz⟩
theorem last_app {l : List En} {x : En} (h : l.getLast? = some x) : l = l.dropLast ++ [x] := by
  obtain ⟨a, rfl⟩ : ∃ a, l = a ++ [x] := by
    cases hl : l with
    | nil => rw [hl] at h; cases h
    | cons y t =>
      refine ⟨l.dropLast, ?_⟩
      have hne : l ≠ [] := by rw [hl]; simp
      have h2 := List.getLast?_eq_some_getLast hne
      rw [h] at h2
      injection h2 with h2
      rw [← hl, h2]
      exact (List.dropLast_concat_getLast hne).symm
  simp
theorem room_le {al z : Int} : ∀ (n : Nat) (T K : List En), posE T → posE K → sumE (roomE al z n T K).2.1 ≤ sumE K
  | 0, T, K, _, _ => Int.le_refl _
  | n + 1, T, K, hT, hK => by
    unfold roomE
    split
    · split
      · exact room_le n _ _ (fun y hy => hT y (List.dropLast_subset _ hy)) hK
      · split
        · rename_i b hb
          have h1 := room_le (al := al) (z := z) n T K.dropLast hT (fun y hy => hK y (List.dropLast_subset _ hy))
          have h2 := last_app hb
          have h3 : sumE K = sumE K.dropLast + b.2 := by
            have := congrArg sumE h2
            rw [sum_app] at this
            rw [this, sumE, sumE]; omega
          have := hK b (List.mem_of_getLast? hb)
          simp only; omega
        · exact Int.le_refl _
    · exact Int.le_refl _
theorem shr_ok {ke : Int} (hke : 0 ≤ ke) : ∀ (n : Nat) (T K : List En), K.length = n → posE T → posE K →
    sumE (shrE ke n T K).1 + sumE (shrE ke n T K).2.1 = sumE T + sumE K ∧ sumE (shrE ke n T K).2.1 ≤ ke ∧ (∀ y, y ∈ (shrE ke n T K).1 ∨ y ∈ (shrE ke n T K).2.1 → y ∈ T ∨ y ∈ K)
  | 0, T, K, h, _, _ => by
    have : K = [] := List.eq_nil_of_length_eq_zero h
    subst this
    exact ⟨rfl, hke, fun y hy => hy⟩
  | n + 1, T, K, h, hT, hK => by
    unfold shrE
    split
    · split
      · rename_i b hb
        have hb0 := hK b (List.mem_of_getLast? hb)
        obtain ⟨h1, h2, h3⟩ := shr_ok hke n (b :: T) K.dropLast (by rw [List.length_dropLast]; omega) (fun y hy => (List.mem_cons.1 hy).elim (fun e => by rw [e]; exact hb0) (hT y)) (fun y hy => hK y (List.dropLast_subset _ hy))
        have h4 : sumE K = sumE K.dropLast + b.2 := by
          have := congrArg sumE (last_app hb)
          rw [sum_app] at this
          rw [this, sumE, sumE]; omega
        refine ⟨by rw [h1, sumE]; omega, h2, fun y hy => ?_⟩
        rcases h3 y hy with h0 | h0
        · rcases List.mem_cons.1 h0 with rfl | h0
          · exact .inr (List.mem_of_getLast? hb)
          · exact .inl h0
        · exact .inr (List.dropLast_subset _ h0)
      · rename_i hb
        have : K = [] := List.getLast?_eq_none_iff.1 hb
        subst this
        simp at h
    · exact ⟨rfl, by simp only; omega, fun y hy => hy⟩
/-- budgets are kept -/
structure OkE (al ke mo : Int) (T K : List En) : Prop where
  sk : sumE K ≤ ke
  sa : sumE T + sumE K ≤ al
  kl : ∀ y, y ∈ T ∨ y ∈ K → y.1.size ≤ 100
theorem OkE.nil {al ke mo : Int} (h : okB al ke mo) : OkE al ke mo [] [] := ⟨h.2.2.1, by show (0 : Int) + 0 ≤ al; have := h.1; omega, fun y hy => by simp at hy⟩
theorem OkE.drop {al ke mo : Int} {T K : List En} (h : OkE al ke mo T K) (hT : posE T) (hK : posE K) (k : ByteArray) : OkE al ke mo (delE k T) (delE k K) := by
  have h1 := (sum_del_has (k := k) hT).2
  have h2 := (sum_del_has (k := k) hK).2
  have := h.sk
  have := h.sa
  exact ⟨by omega, by omega, fun y hy => h.kl y (hy.imp (fun e => (del_ne e).1) fun e => (del_ne e).1)⟩
theorem OkE.put {al ke mo : Int} {T K : List En} (h : OkE al ke mo T K) (hT : posE T) (hK : posE K) (k : ByteArray) (hk : k.size ≤ 100) (z : Int) (hz : z ≤ al) : OkE al ke mo (putE al k z T K).1 (putE al k z T K).2.1 := by
  have hd := h.drop hT hK k
  have h1 := room_le (al := al) (z := z) ((delE k T).length + (delE k K).length) _ _ (hT.del k) (hK.del k)
  have h2 := room_fit (al := al) hz ((delE k T).length + (delE k K).length) (delE k T) (delE k K) rfl
  have h3 := room_sub (al := al) (z := z) ((delE k T).length + (delE k K).length) (delE k T) (delE k K)
  have := hd.sk
  refine ⟨?_, ?_, fun y hy => ?_⟩
  · unfold putE; simp only; omega
  · unfold putE; simp only [sumE]; omega
  · unfold putE at hy
    simp only at hy
    rcases hy with hy | hy
    · rcases List.mem_cons.1 hy with rfl | hy
      · exact hk
      · exact hd.kl y (.inl (h3.1 y hy))
    · exact hd.kl y (.inr (h3.2 y hy))
theorem OkE.touch {al ke mo : Int} {T K : List En} (h : OkE al ke mo T K) (hke : 0 ≤ ke) (hT : posE T) (hK : posE K) (k : ByteArray) (hk : k.size ≤ 100) (z : Int) (hz : hasS k T K = some z) : OkE al ke mo (touchE ke k z T K).1 (touchE ke k z T K).2.1 := by
  have hd := h.drop hT hK k
  obtain ⟨a1, a2⟩ := sum_del_has (k := k) hT
  obtain ⟨b1, b2⟩ := sum_del_has (k := k) hK
  have hsum : sumE (delE k T) + z + sumE (delE k K) ≤ sumE T + sumE K ∧ 1 ≤ z := by
    unfold hasS at hz
    cases h0 : hasE k T with
    | some y =>
      rw [h0] at hz
      have : y = z := by simpa using hz
      subst this
      have := a1 y h0
      exact ⟨by omega, has_pos hT h0⟩
    | none =>
      rw [h0] at hz
      have h1 : hasE k K = some z := by simpa using hz
      have := b1 z h1
      exact ⟨by omega, has_pos hK h1⟩
  have hsk := h.sk
  have hsa := h.sa
  unfold touchE
  split
  · obtain ⟨c1, c2, c3⟩ := shr_ok hke ((delE k K).length + 1) (delE k T) ((k, z) :: delE k K) (by simp) (hT.del k) (fun y hy => (List.mem_cons.1 hy).elim (fun e => by rw [e]; exact hsum.2) (hK.del k y))
    refine ⟨c2, by rw [c1, sumE]; simp only; omega, fun y hy => ?_⟩
    rcases c3 y hy with h0 | h0
    · exact hd.kl y (.inl h0)
    · rcases List.mem_cons.1 h0 with rfl | h0
      · exact hk
      · exact hd.kl y (.inr h0)
  · refine ⟨by simp only; omega, by simp only [sumE]; omega, fun y hy => ?_⟩
    rcases hy with hy | hy
    · rcases List.mem_cons.1 hy with rfl | hy
      · exact hk
      · exact hd.kl y (.inl hy)
    · exact hd.kl y (.inr hy)
theorem kLe_of {al ke mo : Int} {T K : List En} (h : OkE al ke mo T K) : kLe T ∧ kLe K := ⟨fun y hy => by have := h.kl y (.inl hy); omega, fun y hy => by have := h.kl y (.inr hy); omega⟩
/-- behind a Touch the key is there still -/
theorem has_mk {k : ByteArray} {T K : List En} (h : ∃ y, (y ∈ T ∨ y ∈ K) ∧ y.1 = k) : (hasS k T K).isSome = true := by
  obtain ⟨y, hy, rfl⟩ := h
  have key : ∀ l : List En, y ∈ l → ∃ z, hasE y.1 l = some z := fun l hl => by
    unfold hasE
    cases hf : l.find? (fun x => decide (x.1 = y.1)) with
    | none => rw [List.find?_eq_none] at hf; have := hf y hl; simp at this
    | some q => exact ⟨_, rfl⟩
  unfold hasS
  rcases hy with hy | hy
  · obtain ⟨z, hz⟩ := key T hy
    rw [hz]; rfl
  · obtain ⟨z, hz⟩ := key K hy
    rw [hz]
    cases hasE y.1 T <;> rfl
theorem shr_all {ke : Int} : ∀ (n : Nat) (T K : List En) (y : En), y ∈ T ∨ y ∈ K → y ∈ (shrE ke n T K).1 ∨ y ∈ (shrE ke n T K).2.1
  | 0, T, K, y, h => h
  | n + 1, T, K, y, h => by
    unfold shrE
    split
    · split
      · rename_i b hb
        refine shr_all n (b :: T) K.dropLast y ?_
        rcases h with h | h
        · exact .inl (by simp [h])
        · rw [last_app hb] at h
          rcases List.mem_append.1 h with h | h
          · exact .inr h
          · exact .inl (by simp at h; simp [h])
      · exact h
    · exact h
theorem touch_has {ke : Int} {k : ByteArray} {z : Int} {T K : List En} : (hasS k (touchE ke k z T K).1 (touchE ke k z T K).2.1).isSome = true := by
  refine has_mk ⟨(k, z), ?_, rfl⟩
  unfold touchE
  split
  · exact shr_all _ _ _ _ (.inr (by simp))
  · exact .inl (by simp)
theorem room_no {al z : Int} {T K : List En} (h : sumE T + sumE K + z ≤ al) : ∀ n, roomE al z n T K = (T, K, [])
  | 0 => rfl
  | n + 1 => by unfold roomE; rw [if_neg (by omega)]
theorem del_no {k : ByteArray} {l : List En} (h : ∀ y ∈ l, y.1 ≠ k) : delE k l = l := List.filter_eq_self.2 fun y hy => decide_eq_true (h y hy)
end Go.Proofs.Ytfilmbeoggmglaa.SL
