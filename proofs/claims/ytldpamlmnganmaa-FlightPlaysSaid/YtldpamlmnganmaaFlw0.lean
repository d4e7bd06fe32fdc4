/- Who asks, each for a key of a list, as plain data. No program; no condition. -/
import Derived.Test.YtldpamlmnganmaaFlv
namespace Go.Proofs.Ytldpamlmnganmaa.FL
open Go.ChangeShapes Go.WideShapes Go.ChangeAt Go.RowKit Go.Maps Go.ChangeMaps
open Go.Proofs.Ytldpamlmnganmaa.SL
set_option maxRecDepth 100000
set_option linter.unusedVariables false
set_option linter.unusedSimpArgs false

theorem tot_app (S T : List Fl) : tot (S ++ T) = tot S + tot T := by unfold tot; rw [List.map_append, List.sum_append]
theorem tot_close {S : List Fl} {k : Ky} {l : List Int} (hn : (S.map (·.1)).Nodup) (hm : (k, l) ∈ S) : tot (closeS S k) + l.length = tot S := by
  induction S with
  | nil => cases hm
  | cons t S ih =>
    rw [List.map_cons, List.nodup_cons] at hn
    have e1 : ∀ T, tot (t :: T) = t.2.length + tot T := fun T => by unfold tot; rw [List.map_cons, List.sum_cons]
    unfold closeS at *
    by_cases e : t.1 = k
    · have hS : (S.filter fun t => decide (t.1 ≠ k)) = S := List.filter_eq_self.2 fun u hu => decide_eq_true fun e2 => hn.1 (List.mem_map.2 ⟨u, hu, e2.trans e.symm⟩)
      have hl : l = t.2 := by
        rcases List.mem_cons.1 hm with h | h
        · rw [← h]
        · exact absurd (List.mem_map.2 ⟨(k, l), h, e.symm⟩) hn.1
      rw [List.filter_cons_of_neg (by simp [e]), hS, e1, hl]
      omega
    · have hm2 : (k, l) ∈ S := by
        rcases List.mem_cons.1 hm with h | h
        · exact absurd (by rw [← h]) e
        · exact h
      rw [List.filter_cons_of_pos (by simp [e]), e1, e1]
      have := ih hn.2 hm2
      omega
theorem tot_join {S : List Fl} {k : Ky} {l : List Int} {c : Int} (hn : (S.map (·.1)).Nodup) (hm : (k, l) ∈ S) : tot (joinS S k c) = tot S + 1 := by
  induction S with
  | nil => cases hm
  | cons t S ih =>
    rw [List.map_cons, List.nodup_cons] at hn
    have e1 : ∀ u T, tot (u :: T) = u.2.length + tot T := fun u T => by unfold tot; rw [List.map_cons, List.sum_cons]
    unfold joinS at *
    rw [List.map_cons, e1, e1]
    by_cases e : t.1 = k
    · have hS : (S.map fun t : Fl => if t.1 = k then (t.1, t.2 ++ [c]) else t) = S := by
        conv => rhs; rw [← List.map_id S]
        refine List.map_congr_left fun u hu => ?_
        rw [if_neg fun e2 => hn.1 (List.mem_map.2 ⟨u, hu, e2.trans e.symm⟩)]
        rfl
      rw [hS, if_pos e, List.length_append, List.length_singleton]
      omega
    · have hm2 : (k, l) ∈ S := by
        rcases List.mem_cons.1 hm with h | h
        · exact absurd (by rw [← h]) e
        · exact h
      rw [if_neg e, ih hn.2 hm2]
      omega
theorem join_len (S : List Fl) (k : Ky) (c : Int) : (joinS S k c).length = S.length := List.length_map ..
theorem open_length (S : List Fl) (k : Ky) (c : Int) : (openS S k c).length = S.length + 1 := by unfold openS; simp
/-- who has asked so far, each for its own key -/
structure OnI (ks : List Ky) (i : Nat) (S : List Fl) : Prop where
  cl : ∀ t ∈ S, ∀ c ∈ t.2, ∃ j : Nat, c = (j : Int) ∧ j < i ∧ ks[j]? = some t.1
  tt : tot S = i
theorem OnI.nil (ks : List Ky) : OnI ks 0 [] := ⟨fun t ht => (by cases ht), rfl⟩
section
variable {ks : List Ky} {i : Nat} {S : List Fl} {k : Ky}
theorem OnI.free (h : OnI ks i S) : ofF S (i : Int) = none := ofF_no fun t ht hc => by
  obtain ⟨j, e, hj, _⟩ := h.cl t ht _ hc
  omega
theorem OnI.ask_open (h : OnI ks i S) (hf : findF S k = none) : askS S k (i : Int) = (openS S k i, true, 0) := by
  unfold askS
  rw [if_neg (by omega), h.free, hf]
  rfl
theorem OnI.ask_join (h : OnI ks i S) {l : List Int} (hf : findF S k = some l) : askS S k (i : Int) = (joinS S k i, false, 0) := by
  unfold askS
  rw [if_neg (by omega), h.free, hf]
  rfl
theorem OnI.opened (h : OnI ks i S) (hk : ks[i]? = some k) : OnI ks (i + 1) (openS S k i) := by
  refine ⟨fun t ht c hc => ?_, by unfold openS; rw [tot_app, h.tt]; rfl⟩
  rcases List.mem_append.1 ht with ht | ht
  · obtain ⟨j, e, hj, hx⟩ := h.cl t ht c hc
    exact ⟨j, e, by omega, hx⟩
  · obtain rfl : t = (k, [(i : Int)]) := by simpa using ht
    obtain rfl : c = (i : Int) := by simpa using hc
    exact ⟨i, rfl, by omega, hk⟩
theorem OnI.joined (h : OnI ks i S) (hw : WF S) (hk : ks[i]? = some k) {l : List Int} (hf : findF S k = some l) : OnI ks (i + 1) (joinS S k i) := by
  refine ⟨fun t ht c hc => ?_, by rw [tot_join hw.keys (findF_mem hf), h.tt]⟩
  obtain ⟨u, hu, rfl⟩ := List.mem_map.1 ht
  by_cases e : u.1 = k
  · rw [if_pos e] at hc ⊢
    rcases List.mem_append.1 hc with hc | hc
    · obtain ⟨j, e1, hj, hx⟩ := h.cl u hu c hc
      exact ⟨j, e1, by omega, hx⟩
    · obtain rfl : c = (i : Int) := by simpa using hc
      exact ⟨i, rfl, by omega, by rw [e]; exact hk⟩
  · rw [if_neg e] at hc ⊢
    obtain ⟨j, e1, hj, hx⟩ := h.cl u hu c hc
    exact ⟨j, e1, by omega, hx⟩
/-- one who has just asked is in the flight of its key -/
theorem OnI.sits (h : OnI ks (i + 1) S) (hk : ks[i]? = some k) {t : Fl} (ht : t ∈ S) (hc : (i : Int) ∈ t.2) : ∃ u, ofF S (i : Int) = some u ∧ u.1 = k := by
  cases ho : ofF S (i : Int) with
  | none => exact absurd hc (ofF_none ho t ht)
  | some u =>
    obtain ⟨hu, hcu⟩ := ofF_mem ho
    obtain ⟨j, e, _, hx⟩ := h.cl u hu _ hcu
    obtain rfl : j = i := by omega
    rw [hk] at hx
    injection hx with hx
    exact ⟨u, rfl, hx.symm⟩
theorem again_of {S : List Fl} {k : Ky} {c : Int} {u : Fl} (hc : 0 ≤ c) (h : ofF S c = some u) : askS S k c = (S, false, 10) := by
  unfold askS
  rw [if_neg (by omega), h]
  rfl
theorem waits_of {S : List Fl} {k : Ky} {c : Int} {u : Fl} (h : ofF S c = some u) (hu : u.1 = k) : waitS S c = (k, true) := by
  unfold waitS
  rw [h]
  show (u.1, true) = _
  rw [hu]
theorem wait_free (h : ofF S i = none) : waitS S i = (zKy, false) := by
  unfold waitS
  rw [h]
  rfl
theorem open_mem (S : List Fl) (k : Ky) (c : Int) : (k, [c]) ∈ openS S k c := List.mem_append_right _ (List.mem_singleton.2 rfl)
theorem join_mem {S : List Fl} {k : Ky} {c : Int} {l : List Int} (hm : (k, l) ∈ S) : (k, l ++ [c]) ∈ joinS S k c := List.mem_map.2 ⟨(k, l), hm, by rw [if_pos rfl]⟩
/-- what has landed so far -/
structure OffI (ks : List Ky) (j n told : Nat) (S : List Fl) : Prop where
  cl : ∀ t ∈ S, ∀ c ∈ t.2, ∃ i : Nat, c = (i : Int) ∧ i < n ∧ ks[i]? = some t.1
  no : ∀ t ∈ S, ∀ i : Nat, i < j → ks[i]? ≠ some t.1
  tt : told + tot S = n
theorem OnI.off {n : Nat} (h : OnI ks n S) : OffI ks 0 n 0 S := ⟨h.cl, fun t ht i hi => absurd hi (Nat.not_lt_zero _), by rw [h.tt]; omega⟩
theorem OffI.skip {j n told : Nat} (h : OffI ks j n told S) (hk : ks[j]? = some k) (hf : findF S k = none) : OffI ks (j + 1) n told S := by
  refine ⟨h.cl, fun t ht i hi e => ?_, h.tt⟩
  by_cases hij : i = j
  · subst hij
    rw [hk] at e
    injection e with e
    exact findF_none hf t ht e.symm
  · exact h.no t ht i (by omega) e
theorem OffI.land {j n told : Nat} (h : OffI ks j n told S) (hw : WF S) (hk : ks[j]? = some k) {l : List Int} (hf : findF S k = some l) : OffI ks (j + 1) n (told + l.length) (closeS S k) := by
  have hm : ∀ t ∈ closeS S k, t ∈ S ∧ t.1 ≠ k := fun t ht => ⟨(List.mem_filter.1 ht).1, by simpa using (List.mem_filter.1 ht).2⟩
  refine ⟨fun t ht => h.cl t (hm t ht).1, fun t ht i hi e => ?_, ?_⟩
  · by_cases hij : i = j
    · subst hij
      rw [hk] at e
      injection e with e
      exact (hm t ht).2 e.symm
    · exact h.no t (hm t ht).1 i (by omega) e
  · have := tot_close hw.keys (findF_mem hf)
    have := h.tt
    omega
theorem OffI.gone {j n told : Nat} (h : OffI ks (j + 1) n told S) : ofF S (j : Int) = none := ofF_no fun t ht hc => by
  obtain ⟨i, e, _, hx⟩ := h.cl t ht _ hc
  obtain rfl : i = j := by omega
  exact h.no t ht i (by omega) hx
theorem OffI.end_ {n told : Nat} (h : OffI ks n n told S) (hw : WF S) : S = [] ∧ told = n := by
  have hS : S = [] := by
    cases S with
    | nil => rfl
    | cons t S =>
      exfalso
      have hne := hw.some_ t List.mem_cons_self
      cases hl : t.2 with
      | nil => exact hne hl
      | cons c r =>
        obtain ⟨i, e, hi, hx⟩ := h.cl t List.mem_cons_self c (by rw [hl]; exact List.mem_cons_self)
        exact h.no t List.mem_cons_self i hi hx
  refine ⟨hS, ?_⟩
  have := h.tt
  rw [hS] at this
  exact this
theorem land_some {S : List Fl} {k : Ky} {l : List Int} (hf : findF S k = some l) : landS S k = (closeS S k, l.headD 0, l.tail, true) := by unfold landS; rw [hf]
theorem land_none {S : List Fl} {k : Ky} (hf : findF S k = none) : landS S k = (S, 0, [], false) := by unfold landS; rw [hf]
end
theorem KeP.at4 {w : World} {v : Value} {l : List Ky} (h : KeP w v l) {i : Nat} {k : Ky} (hi : l[i]? = some k) : kyB k ∧ ∃ b off cap, v = .slice (some ⟨b, off, none⟩) l.length cap ∧
    ∀ W, Below w.heap.size w W → W.cell? ⟨b, off + i * 4, none⟩ = some (.string k.1) ∧ W.cell? ⟨b, off + i * 4 + 1, none⟩ = some (.string k.2.1) ∧ W.cell? ⟨b, off + i * 4 + 2, none⟩ = some (.int .i64 k.2.2.1) ∧ W.cell? ⟨b, off + i * 4 + 3, none⟩ = some (.string k.2.2.2) := by
  have hl : i < l.length := (List.getElem?_eq_some_iff.1 hi).1
  obtain ⟨b, off, cap, e, _, hx⟩ := h.inv (by omega)
  obtain ⟨hk, hc⟩ := hx i k hi
  refine ⟨hk, b, off, cap, e, fun W hW => ?_⟩
  have key : ∀ j u, (kyCs k)[j]? = some u → W.cell? ⟨b, off + i * 4 + j, none⟩ = some u := fun j u hu => by
    have := hc j u hu
    exact (hW.cell (p := ⟨b, off + i * 4 + j, none⟩) (World.block_lt_of_cell? _ _ this)).trans this
  exact ⟨key 0 _ rfl, key 1 _ rfl, key 2 _ rfl, key 3 _ rfl⟩
end Go.Proofs.Ytldpamlmnganmaa.FL
