/- What package back's two, four, put (of any number of them) and column answer. Condition: at most 100 numbers. -/
import Derived.Test.YtnjifbgjglniaaaBkd
import Derived.Test.YtnjifbgjglniaaaBkr
namespace Go.Proofs.Ytnjifbgjglniaaa.BK
open Go.Proofs.Ytnjifbgjglniaaa
open Go.ChangeShapes Go.WideShapes Go.ChangeAt Go.RowKit
set_option linter.unusedVariables false
set_option maxRecDepth 100000
attribute [local go_sem ↓] Go.wp_at_zero Go.wp_at_succ

def numW (p : Int × Nat) : Tx := if p.2 = 2 then n16 p.1 else n32 p.1
def numsW (l : List (Int × Nat)) : Tx := (l.map numW).flatten
theorem numsW_step (l : List (Int × Nat)) (k : Nat) (h : k < l.length) : numsW (l.take (k + 1)) = numsW (l.take k) ++ numW l[k] := by
  unfold numsW; rw [List.take_succ_eq_append_getElem h, List.map_append, List.flatten_append]; simp
theorem numW_len (p : Int × Nat) : (numW p).length ≤ 4 := by unfold numW; split <;> simp [n16, n32]
theorem numsW_len (l : List (Int × Nat)) : (numsW l).length ≤ 4 * l.length := by
  induction l with
  | nil => simp [numsW]
  | cons p l ih =>
    have h := numW_len p
    simp only [numsW, List.map_cons, List.flatten_cons, List.length_append, List.length_cons] at ih ⊢
    omega
theorem four_any (n : Int) (w : World) :
    Calls Try.prog 74 #[.int .i64 n] w fun e w' => e = .returned (.agg #[.int .i64 n, .int .i64 4]) ∧ Below w.heap.size w w' := by
  go_enter Try.func74, Try.ntmps74
  go_wp2
  exact bodyPost_ret (v := .agg #[.int .i64 n, .int .i64 4]) (by simp [results, Try.results74, go_sem]) rfl ⟨rfl, (Below.refl _ _).alloc (Nat.le_refl _) _⟩
theorem two_any (n : Int) (w : World) :
    Calls Try.prog 81 #[.int .i64 n] w fun e w' => e = .returned (.agg #[.int .i64 n, .int .i64 2]) ∧ Below w.heap.size w w' := by
  go_enter Try.func81, Try.ntmps81
  go_wp2
  exact bodyPost_ret (v := .agg #[.int .i64 n, .int .i64 2]) (by simp [results, Try.results81, go_sem]) rfl ⟨rfl, (Below.refl _ _).alloc (Nat.le_refl _) _⟩

theorem put_any (l : List (Int × Nat)) (g cap : Nat) (w : World) (hl : l.length ≤ 100) (hcap : l.length ≤ cap) (hcm : cap ≤ 1000) (hg : g < w.heap.size)
    (hc : ∀ (k : Nat) p, l[k]? = some p → w.cell? ⟨g, k * 2, none⟩ = some (.int .i64 p.1) ∧ w.cell? ⟨g, k * 2 + 1, none⟩ = some (.int .i64 (p.2 : Int))) :
    Calls Try.prog 73 #[.slice (some ⟨g, 0, none⟩) l.length cap] w fun e w' => e = .returned (.string (ba (numsW l))) ∧ Below w.heap.size w w' := by
  have HC := Lib.hid hc
  clear hc
  go_enter Try.func73, Try.ntmps73
  go_wp2
  go_loopw [3, 8] (fun s i wr => ∃ k : Nat, k ≤ l.length ∧ i = .int .i64 k ∧ s = .string (ba (numsW (l.take k))) ∧ Below w.heap.size w wr) (fun _ i _ => l.length - (intOf i).toNat)
  case atStart => exact ⟨0, Nat.zero_le _, rfl, rfl, Below.refl _ _⟩
  case round =>
    obtain ⟨k, hk, rfl, rfl, hb⟩ := hrel
    by_cases hlt : k < l.length
    · obtain ⟨⟨n, v⟩, he⟩ : ∃ p, p = l[k] := ⟨_, rfl⟩
      have x := HC.out k l[k] (List.getElem?_eq_getElem hlt)
      have hS := numsW_step l k hlt
      rw [← he] at x hS
      have HS := Lib.hid hS
      obtain ⟨x0, x1⟩ := x
      rw [← (bcell hb).1 g _ hg] at x0 x1
      clear hS he
      have hz : (numsW (l.take k)).length ≤ 400 := by have := numsW_len (l.take k); rw [List.length_take] at this; omega
      have d4 := fun w => put32_any (ba (numsW (l.take k))) n (by rw [ba_size]; omega) w
      have d2 := fun w => put16_any (ba (numsW (l.take k))) n (by rw [ba_size]; omega) w
      rw [put32_ba] at d4
      rw [put16_ba] at d2
      have hsz := hb.size
      by_cases hv : v = 2
      · subst hv
        go_wp2_with (first | (go_at_call 86; refine (d2 _).mono ?_; rintro e w2 ⟨rfl, hb2⟩) | (go_at_call 68; refine (d4 _).mono ?_; rintro e w2 ⟨rfl, hb2⟩))
        go_roundw
        case rel => exact ⟨k + 1, by omega, by go_num, by rw [HS.out]; rfl, hb.trans (((Below.refl _ _).alloc hsz _).trans (hb2.mono (by simp; omega)))⟩
        case measure => simp [intOf]; omega
      · have hv2 : ((v : Int) == 2) = false := by simp; omega
        have HV := Lib.hid hv
        clear hv
        go_wp2_with (first | (go_at_call 86; refine (d2 _).mono ?_; rintro e w2 ⟨rfl, hb2⟩) | (go_at_call 68; refine (d4 _).mono ?_; rintro e w2 ⟨rfl, hb2⟩))
        go_roundw
        case rel => exact ⟨k + 1, by omega, by go_num, by rw [HS.out]; unfold numW; rw [if_neg HV.out], hb.trans (((Below.refl _ _).alloc hsz _).trans (hb2.mono (by simp; omega)))⟩
        case measure => simp [intOf]; omega
    · have e : k = l.length := by omega
      subst e
      rw [List.take_length] at *
      go_wp2
      go_ret
      exact ⟨rfl, hb⟩

/-- put, of numbers that were just laid -/
theorem put_new (l : List (Int × Nat)) (cs : Array Value) (t : TypeId) (w : World) (hl : l.length ≤ 100)
    (hc : ∀ (k : Nat) p, l[k]? = some p → cs[k * 2]? = some (.int .i64 p.1) ∧ cs[k * 2 + 1]? = some (.int .i64 (p.2 : Int))) :
    Calls Try.prog 73 #[.slice (some ⟨w.heap.size, 0, none⟩) l.length l.length] (w.alloc (.cells cs t)) fun e w' => e = .returned (.string (ba (numsW l))) ∧ Below w.heap.size w w' := by
  have hb := Blk.new w t cs
  refine (put_any l w.heap.size l.length (w.alloc (.cells cs t)) hl (Nat.le_refl _) (by omega) (by simp) (fun k p hp => ?_)).mono ?_
  · obtain ⟨h1, h2⟩ := hc k p hp
    exact ⟨(hb.cell _).trans h1, (hb.cell _).trans h2⟩
  · rintro e w' ⟨rfl, h⟩
    exact ⟨rfl, bel h⟩

theorem like_is : numsW [(0, 4), (0, 2), (25, 4), (-1, 2), (-1, 4), (0, 2)] = like := by decide

theorem column_any (w : World) :
    Calls Try.prog 79 #[] w fun e w' => e = .returned (.string (ba like)) ∧ Below w.heap.size w w' := by
  go_enter Try.func79, Try.ntmps79
  go_wp2_with fail
  refine (four_any _ _).mono ?_; rintro e w1 ⟨rfl, hb1⟩
  go_wp2_with fail
  refine (two_any _ _).mono ?_; rintro e w2 ⟨rfl, hb2⟩
  go_wp2_with fail
  refine (four_any _ _).mono ?_; rintro e w3 ⟨rfl, hb3⟩
  go_wp2_with fail
  refine (two_any _ _).mono ?_; rintro e w4 ⟨rfl, hb4⟩
  go_wp2_with fail
  refine (four_any _ _).mono ?_; rintro e w5 ⟨rfl, hb5⟩
  go_wp2_with fail
  refine (two_any _ _).mono ?_; rintro e w6 ⟨rfl, hb6⟩
  go_wp2_with fail
  have d := put_new [(0, 4), (0, 2), (25, 4), (-1, 2), (-1, 4), (0, 2)] #[.int .i64 0, .int .i64 4, .int .i64 0, .int .i64 2, .int .i64 25, .int .i64 4, .int .i64 (-1), .int .i64 2, .int .i64 (-1), .int .i64 4, .int .i64 0, .int .i64 2] 92 w6 (by decide) (by
    intro k p hp
    match k, hp with
    | 0, hp => injection hp with hp; subst hp; exact ⟨rfl, rfl⟩
    | 1, hp => injection hp with hp; subst hp; exact ⟨rfl, rfl⟩
    | 2, hp => injection hp with hp; subst hp; exact ⟨rfl, rfl⟩
    | 3, hp => injection hp with hp; subst hp; exact ⟨rfl, rfl⟩
    | 4, hp => injection hp with hp; subst hp; exact ⟨rfl, rfl⟩
    | 5, hp => injection hp with hp; subst hp; exact ⟨rfl, rfl⟩
    | n + 6, hp => simp at hp)
  rw [like_is] at d
  refine d.mono ?_; rintro e w7 ⟨rfl, hb7⟩
  have h := ((((hb1.trans (hb2.mono hb1.size)).trans (hb3.mono (Nat.le_trans hb1.size hb2.size))).trans (hb4.mono (Nat.le_trans hb1.size (Nat.le_trans hb2.size hb3.size)))).trans (hb5.mono (Nat.le_trans hb1.size (Nat.le_trans hb2.size (Nat.le_trans hb3.size hb4.size))))).trans (hb6.mono (Nat.le_trans hb1.size (Nat.le_trans hb2.size (Nat.le_trans hb3.size (Nat.le_trans hb4.size hb5.size)))))
  have h' := h.trans (hb7.mono h.size)
  clear hb1 hb2 hb3 hb4 hb5 hb6 hb7 h
  go_wp2
  go_ret
  exact ⟨rfl, h'⟩
end Go.Proofs.Ytnjifbgjglniaaa.BK
