/- What package norm's number answers, whole. Condition: a text's length. -/
import Derived.Test.YtgnpkpboilnijaaGreatDoorG18
set_option linter.unusedSimpArgs false
set_option linter.unusedVariables false
namespace Go.Proofs.YtgnpkpboilnijaaGreatDoor
open Go.ChangeShapes Go.WideShapes Go.ChangeAt Go.RowKit
set_option maxRecDepth 100000
set_option linter.unusedVariables false
set_option linter.unusedSimpArgs false

theorem num_eq (s : ByteArray) : bb (numL s.data.toList) = s.extract (frontN s.data.toList) (frontN s.data.toList + (if s.data.toList.count 46 = 1 then pointN (s.data.toList.drop (frontN s.data.toList)) (backN (s.data.toList.drop (frontN s.data.toList)) (s.size - frontN s.data.toList)) else s.size - frontN s.data.toList)) ∧
    (if s.data.toList.count 46 = 1 then pointN (s.data.toList.drop (frontN s.data.toList)) (backN (s.data.toList.drop (frontN s.data.toList)) (s.size - frontN s.data.toList)) else s.size - frontN s.data.toList) ≤ s.size - frontN s.data.toList := by
  have hA := frontN_lt s.data.toList
  have e : s.size = s.data.toList.length := rfl
  have hp : ∀ l n, pointN l n ≤ n := fun l n => by unfold pointN; split <;> omega
  have hle : (if s.data.toList.count 46 = 1 then pointN (s.data.toList.drop (frontN s.data.toList)) (backN (s.data.toList.drop (frontN s.data.toList)) (s.size - frontN s.data.toList)) else s.size - frontN s.data.toList) ≤ s.size - frontN s.data.toList := by
    split
    · exact Nat.le_trans (hp _ _) (backN_le _ _)
    · exact Nat.le_refl _
  refine ⟨?_, hle⟩
  rw [ext_to s _ _ (by omega)]
  unfold numL
  rw [front_drop, Nat.add_sub_cancel_left, List.length_drop, ← e]
  split
  · rfl
  · congr 1
    rw [List.take_of_length_le]
    rw [List.length_drop]; omega
set_option maxHeartbeats 2000000 in
theorem number_any (s : ByteArray) (w : World) (hs : s.size ≤ 1048576) :
    Calls Tryz.prog 22 #[.string s] w fun e w' => e = .returned (.string (bb (numL s.data.toList))) ∧ Below w.heap.size w w' := by
  obtain ⟨he, hle⟩ := num_eq s
  have hcount : ∀ w, Calls Tryz.prog 34 #[.string s, .string ⟨#[46]⟩] w fun e w' => e = .returned (.int .i64 ((s.data.toList.count 46 : Nat) : Int)) ∧ w' = w := fun w => Tryz.strings_Count_one s 46 w
  have hA := frontN_lt s.data.toList
  have hsz : s.size = s.data.toList.length := rfl
  have hfr := fun (F T S : Nat) (d : Apart3 w F T S) (w1 : World) (h : NmI w s F T S 0 s.size w1) => front_any s w F T S d w1 hs h
  have hba := fun (F T S : Nat) (d : Apart3 w F T S) (w1 : World) (h : NmI w s F T S (frontN s.data.toList) s.size w1) => back_any s w F T S _ d w1 hs (by omega) h
  obtain ⟨A, hAA⟩ : ∃ A, frontN s.data.toList = A := ⟨_, rfl⟩
  obtain ⟨N, hN⟩ : ∃ N, s.data.toList.count 46 = N := ⟨_, rfl⟩
  obtain ⟨P, hP⟩ : ∃ P, pointN (s.data.toList.drop A) (backN (s.data.toList.drop A) (s.size - A)) = P := ⟨_, rfl⟩
  rw [hAA] at he hle hfr hba hA
  rw [hN] at he hle hcount
  rw [hP] at he hle hba
  have hAs : A ≤ s.size := by omega
  have HE := Lib.hid he
  have HLE := Lib.hid hle
  have HCO := Lib.hid hcount
  have HFR := Lib.hid hfr
  have HBA := Lib.hid hba
  clear he hle hcount hfr hba hAA hN hP hA hsz
  go_enter Tryz.func22, Tryz.ntmps22
  go_wp2
  go_region
  · have hI : NmI w s (w.heap.size + 1) (w.heap.size + 1 + 1) w.heap.size 0 s.size (((w.alloc (.cells #[.string s] 9)).alloc (.cells #[.int .i64 0] 3)).alloc (.cells #[.int .i64 (s.size : Int)] 3)).drew :=
      ⟨((((Below.refl _ _).alloc (Nat.le_refl _) _).alloc (by simp) _).alloc (by simp; omega) _).drew, by simp [go_sem], by simp [go_sem], by simp [go_sem], by simp [go_sem], by simp [go_sem]⟩
    have HI := Lib.hid hI
    have HD := Lib.hid (⟨by omega, by omega, by omega, by omega, by omega⟩ : Apart3 w (w.heap.size + 1) (w.heap.size + 1 + 1) w.heap.size)
    clear hI
    generalize (((w.alloc (.cells #[.string s] 9)).alloc (.cells #[.int .i64 0] 3)).alloc (.cells #[.int .i64 (s.size : Int)] 3)).drew = w1 at *
    go_wp2_with fail
    refine (HFR.out _ _ _ HD.out _ HI.out).mono ?_
    rintro e w2 ⟨rfl, h2⟩
    have H2 := Lib.hid h2
    have cF := h2.cF
    have cT := h2.cT
    have cS := h2.cS
    have a0 : (0 : Int) ≤ (A : Int) := by omega
    clear h2
    by_cases h1 : N = 1
    · subst h1
      rw [if_pos rfl] at HE HLE
      go_wp2_with (go_at_call 34; (with_reducible refine (HCO.out _).mono ?_); rintro e w3 ⟨rfl, hw3⟩; obtain rfl := hw3.symm)
      refine (HBA.out _ _ _ HD.out _ H2.out).mono ?_
      rintro e w4 ⟨rfl, h4⟩
      have H4 := Lib.hid h4
      have dF := h4.cF
      have dT := h4.cT
      have dS := h4.cS
      have HLE2 := HLE.out
      obtain ⟨q, hq⟩ : ∃ q, A + P = q := ⟨_, rfl⟩
      rw [hq] at dT HE
      have a1 : (A : Int) ≤ (q : Int) := by omega
      have a2 : (q : Int) ≤ (s.size : Int) := by omega
      clear h4 HLE2 hq
      go_wp2
      go_ret
      exact ⟨by rw [HE.out]; rfl, H4.out.bel⟩
    · have hn1 : (((N : Nat) : Int) == 1) = false := by rw [beq_eq_false_iff_ne]; omega
      rw [if_neg h1] at HE HLE
      have hAN : A + (s.size - A) = s.size := by omega
      rw [hAN] at HE
      have a1 : (A : Int) ≤ (s.size : Int) := by omega
      clear h1 hAN
      go_wp2_with (go_at_call 34; (with_reducible refine (HCO.out _).mono ?_); rintro e w3 ⟨rfl, hw3⟩; obtain rfl := hw3.symm)
      go_ret
      exact ⟨by rw [HE.out]; rfl, H2.out.bel⟩
  · have hI : NmI w s (w.heap.size + 1 + 1) (w.heap.size + 1) w.heap.size 0 s.size (((w.alloc (.cells #[.string s] 9)).alloc (.cells #[.int .i64 (s.size : Int)] 3)).alloc (.cells #[.int .i64 0] 3)).drew :=
      ⟨((((Below.refl _ _).alloc (Nat.le_refl _) _).alloc (by simp) _).alloc (by simp; omega) _).drew, by simp [go_sem], by simp [go_sem], by simp [go_sem], by simp [go_sem], by simp [go_sem]⟩
    have HI := Lib.hid hI
    have HD := Lib.hid (⟨by omega, by omega, by omega, by omega, by omega⟩ : Apart3 w (w.heap.size + 1 + 1) (w.heap.size + 1) w.heap.size)
    clear hI
    generalize (((w.alloc (.cells #[.string s] 9)).alloc (.cells #[.int .i64 (s.size : Int)] 3)).alloc (.cells #[.int .i64 0] 3)).drew = w1 at *
    go_wp2_with fail
    refine (HFR.out _ _ _ HD.out _ HI.out).mono ?_
    rintro e w2 ⟨rfl, h2⟩
    have H2 := Lib.hid h2
    have cF := h2.cF
    have cT := h2.cT
    have cS := h2.cS
    have a0 : (0 : Int) ≤ (A : Int) := by omega
    clear h2
    by_cases h1 : N = 1
    · subst h1
      rw [if_pos rfl] at HE HLE
      go_wp2_with (go_at_call 34; (with_reducible refine (HCO.out _).mono ?_); rintro e w3 ⟨rfl, hw3⟩; obtain rfl := hw3.symm)
      refine (HBA.out _ _ _ HD.out _ H2.out).mono ?_
      rintro e w4 ⟨rfl, h4⟩
      have H4 := Lib.hid h4
      have dF := h4.cF
      have dT := h4.cT
      have dS := h4.cS
      have HLE2 := HLE.out
      obtain ⟨q, hq⟩ : ∃ q, A + P = q := ⟨_, rfl⟩
      rw [hq] at dT HE
      have a1 : (A : Int) ≤ (q : Int) := by omega
      have a2 : (q : Int) ≤ (s.size : Int) := by omega
      clear h4 HLE2 hq
      go_wp2
      go_ret
      exact ⟨by rw [HE.out]; rfl, H4.out.bel⟩
    · have hn1 : (((N : Nat) : Int) == 1) = false := by rw [beq_eq_false_iff_ne]; omega
      rw [if_neg h1] at HE HLE
      have hAN : A + (s.size - A) = s.size := by omega
      rw [hAN] at HE
      have a1 : (A : Int) ≤ (s.size : Int) := by omega
      clear h1 hAN
      go_wp2_with (go_at_call 34; (with_reducible refine (HCO.out _).mono ?_); rintro e w3 ⟨rfl, hw3⟩; obtain rfl := hw3.symm)
      go_ret
      exact ⟨by rw [HE.out]; rfl, H2.out.bel⟩
end Go.Proofs.YtgnpkpboilnijaaGreatDoor
