/- What the document's own plain, four and kept answer. Condition: at most 1000 texts of at most 10000 bytes. -/
import Derived.Test.YtnjifbgjglniaaaBki
import Derived.Test.YtnjifbgjglniaaaBkm
import Derived.Test.YtnjifbgjglniaaaBks
namespace Go.Proofs.Ytnjifbgjglniaaa.BK
open Go.Proofs.Ytnjifbgjglniaaa
open Go.ChangeShapes Go.WideShapes Go.ChangeAt Go.RowKit
set_option linter.unusedVariables false
set_option linter.unusedSimpArgs false
set_option maxRecDepth 100000
attribute [local go_sem ↓] Go.wp_at_zero Go.wp_at_succ

theorem rfour_any (n : Int) (w : World) :
    Calls Try.prog 30 #[.int .i64 n] w fun e w' => e = .returned (.bool (decide (four n))) ∧ w' = w := by
  by_cases h0 : -2147483648 ≤ n
  · have a0 : decide (-2147483648 ≤ n) = true := decide_eq_true h0
    by_cases h1 : n < 2147483648
    · have a1 : decide (n < 2147483648) = true := decide_eq_true h1
      have HE : Hid (decide (four n) = true) := Lib.hid (decide_eq_true ⟨h0, h1⟩)
      clear h0 h1
      go_enter Try.func30, Try.ntmps30
      go_wp2
      go_ret
      exact ⟨by rw [HE.out]; rfl, rfl⟩
    · have a1 : decide (n < 2147483648) = false := decide_eq_false h1
      have HE : Hid (decide (four n) = false) := Lib.hid (decide_eq_false (fun h => h1 h.2))
      clear h0 h1
      go_enter Try.func30, Try.ntmps30
      go_wp2
      go_ret
      exact ⟨by rw [HE.out]; rfl, rfl⟩
  · have a0 : decide (-2147483648 ≤ n) = false := decide_eq_false h0
    have HE : Hid (decide (four n) = false) := Lib.hid (decide_eq_false (fun h => h0 h.1))
    clear h0
    go_enter Try.func30, Try.ntmps30
    go_wp2
    go_ret
    exact ⟨by rw [HE.out]; rfl, rfl⟩

theorem ne_any (l : Tx) (k : Nat) (h : k < l.length) (h0 : 0 ∉ l.take k) (hk : l[k] ≠ 0) : 0 ∉ l.take (k + 1) := by
  rw [List.take_succ_eq_append_getElem h]
  intro hm
  rcases List.mem_append.1 hm with h1 | h1
  · exact h0 h1
  · simp at h1; exact hk h1.symm
set_option maxHeartbeats 800000 in
theorem rplain_any {P : Nat → Prop} (v : Value) (l : List Tx) (w : World) (h : LR P w v (strs l)) (hl : l.length ≤ 1000) (ht : ∀ t ∈ l, t.length ≤ 10000) :
    Calls Try.prog 29 #[v] w fun e w' => e = .returned (.bool (decide (∀ t ∈ l, 0 ∉ t))) ∧ w' = w := by
  obtain ⟨A, c, e, hc, hm⟩ := h.form
  rw [strs_len] at e hc
  subst e
  have HL := Lib.hid h
  have HT := Lib.hid ht
  clear h ht
  go_enter Try.func29, Try.ntmps29
  go_wp2
  go_loop [3] (fun i => ∃ k : Nat, k ≤ l.length ∧ i = .int .i64 k ∧ ∀ t ∈ l.take k, 0 ∉ t) (fun i => l.length - (intOf i).toNat)
  case atStart => exact ⟨0, Nat.zero_le _, rfl, by simp⟩
  case round =>
    obtain ⟨k, hk, rfl, hs⟩ := hrel
    have HS := Lib.hid hs
    clear hs
    by_cases hlt : k < l.length
    · obtain ⟨p, o, rfl, hp, hg⟩ := HL.out.addr (ne_strs hlt)
      have x := hg k _ (strs_get l k hlt)
      have hsz := HT.out l[k] (List.getElem_mem _)
      have HK := Lib.hid (show l.take (k + 1) = l.take k ++ [l[k]] from List.take_succ_eq_append_getElem hlt)
      have HM := Lib.hid (List.getElem_mem hlt)
      clear hg
      generalize l[k] = t at *
      have hz : (ba t).size ≤ 10000 := by rw [ba_size]; exact hsz
      have HZ := Lib.hid (ba_size t)
      go_wp2
      go_loop [4] (fun i => ∃ j : Nat, j ≤ (ba t).size ∧ i = .int .i64 j ∧ 0 ∉ t.take j) (fun i => (ba t).size - (intOf i).toNat)
      case atStart => exact ⟨0, Nat.zero_le _, rfl, by simp⟩
      case round =>
        obtain ⟨j, hj, rfl, hs⟩ := hrel
        have HJ := Lib.hid hs
        clear hs
        by_cases hlt2 : j < (ba t).size
        · have hjt : j < t.length := by rw [← HZ.out]; exact hlt2
          have hget : (ba t)[j] = t[j] := by simp [ba, ByteArray.getElem_eq_getElem_data]
          by_cases hb : t[j] = 0
          · have hbb : (((ba t)[j].toNat : Int) == 0) = true := by rw [hget, hb]; rfl
            have HN : Hid (decide (∀ t ∈ l, 0 ∉ t) = false) := Lib.hid (decide_eq_false (fun h => h t HM.out (hb ▸ List.getElem_mem hjt)))
            clear hget hb
            go_wp2
            go_ret
            exact ⟨by rw [HN.out]; rfl, rfl⟩
          · have hbb : (((ba t)[j].toNat : Int) == 0) = false := by
              rw [hget]; simp
              intro e; exact hb (UInt8.toNat_inj.1 e)
            have HN := Lib.hid (ne_any t j hjt HJ.out hb)
            clear hget hb
            go_wp2
            go_round
            case rel => exact ⟨j + 1, by omega, by go_num, HN.out⟩
            case measure => simp [intOf]; omega
        · have HN : Hid (∀ u ∈ l.take (k + 1), 0 ∉ u) := Lib.hid (by
            rw [HK.out]
            intro u hu
            rcases List.mem_append.1 hu with h1 | h1
            · exact HS.out u h1
            · have h2 := HJ.out
              rw [List.take_of_length_le (by rw [← HZ.out]; omega)] at h2
              simp at h1; rw [h1]; exact h2)
          go_wp2
          go_round
          case rel => exact ⟨k + 1, by omega, by go_num, HN.out⟩
          case measure => simp [intOf]; omega
    · have HN : Hid (decide (∀ t ∈ l, 0 ∉ t) = true) := Lib.hid (decide_eq_true (by have h := HS.out; rwa [List.take_of_length_le (by omega)] at h))
      go_wp2
      go_ret
      exact ⟨by rw [HN.out]; rfl, rfl⟩

set_option maxHeartbeats 4000000 in
theorem rk_R (w : World) (st : Int) (t : ByteArray) (A1 : Option Addr) (n1 p1 : Nat) (A2 : Option Addr) (n2 p2 : Nat) (A3 : Option Addr) (n3 p3 : Nat) (n m : Int) (b0 b1 b2 b3 b4 b5 b6 : Bool) (s0 : (st == 0) = b0) (s1 : (t.toList == (⟨#[]⟩ : ByteArray).toList) = b1) (s2 : ((n1 : Int) == 0) = b2) (s3 : ((n2 : Int) == 0) = b3) (s4 : ((n3 : Int) == 0) = b4) (s6 : (m == 0) = b6) :
    Calls Try.prog 27 #[.agg #[.int .u8 82, .int .u8 st, .string t, .slice A1 n1 p1, .slice A2 n2 p2, .slice A3 n3 p3, .int .i64 n, .int .i64 m]] w fun e w' => e = .returned (.bool (b0 && b1 && b2 && b3 && b4 && b6)) ∧ Below w.heap.size w w' := by
  have S0 := Lib.hid s0
  have S1 := Lib.hid s1
  have S2 := Lib.hid s2
  have S3 := Lib.hid s3
  have S4 := Lib.hid s4
  have S6 := Lib.hid s6
  clear s0 s1 s2 s3 s4 s6
  go_enter Try.func27, Try.ntmps27
  go_upto_region 30 with fail
  have s0 := S0.out
  have s1 := S1.out
  have s2 := S2.out
  have s3 := S3.out
  have s4 := S4.out
  have s6 := S6.out
  have s1a : (t.toList == []) = b1 := by rw [← s1, Lib.toList_data (⟨#[]⟩ : ByteArray)]
  have s1b : t.toList.isEmpty = b1 := by rw [← s1a]; cases t.toList <;> rfl
  cases b0
  case false =>
    go_wp2
    go_ret
    exact ⟨rfl, (Below.refl _ _).alloc (Nat.le_refl _) _⟩
  cases b1
  case false =>
    go_wp2
    go_ret
    exact ⟨rfl, (Below.refl _ _).alloc (Nat.le_refl _) _⟩
  cases b2
  case false =>
    go_wp2
    go_ret
    exact ⟨rfl, (Below.refl _ _).alloc (Nat.le_refl _) _⟩
  cases b3
  case false =>
    go_wp2
    go_ret
    exact ⟨rfl, (Below.refl _ _).alloc (Nat.le_refl _) _⟩
  cases b4
  case false =>
    go_wp2
    go_ret
    exact ⟨rfl, (Below.refl _ _).alloc (Nat.le_refl _) _⟩
  cases b6
  case false =>
    go_wp2
    go_ret
    exact ⟨rfl, (Below.refl _ _).alloc (Nat.le_refl _) _⟩
  go_wp2
  go_ret
  exact ⟨rfl, (Below.refl _ _).alloc (Nat.le_refl _) _⟩
set_option maxHeartbeats 4000000 in
theorem rk_K (w : World) (st : Int) (t : ByteArray) (A1 : Option Addr) (n1 p1 : Nat) (A2 : Option Addr) (n2 p2 : Nat) (A3 : Option Addr) (n3 p3 : Nat) (n m : Int) (b0 b1 b2 b3 b4 b5 b6 : Bool) (s0 : (st == 0) = b0) (s1 : (t.toList == (⟨#[]⟩ : ByteArray).toList) = b1) (s2 : ((n1 : Int) == 0) = b2) (s3 : ((n2 : Int) == 0) = b3) (s4 : ((n3 : Int) == 0) = b4) :
    Calls Try.prog 27 #[.agg #[.int .u8 75, .int .u8 st, .string t, .slice A1 n1 p1, .slice A2 n2 p2, .slice A3 n3 p3, .int .i64 n, .int .i64 m]] w fun e w' => e = .returned (.bool (b0 && b1 && b2 && b3 && b4)) ∧ Below w.heap.size w w' := by
  have S0 := Lib.hid s0
  have S1 := Lib.hid s1
  have S2 := Lib.hid s2
  have S3 := Lib.hid s3
  have S4 := Lib.hid s4
  clear s0 s1 s2 s3 s4
  go_enter Try.func27, Try.ntmps27
  go_upto_region 30 with fail
  have s0 := S0.out
  have s1 := S1.out
  have s2 := S2.out
  have s3 := S3.out
  have s4 := S4.out
  have s1a : (t.toList == []) = b1 := by rw [← s1, Lib.toList_data (⟨#[]⟩ : ByteArray)]
  have s1b : t.toList.isEmpty = b1 := by rw [← s1a]; cases t.toList <;> rfl
  cases b0
  case false =>
    go_wp2
    go_ret
    exact ⟨rfl, (Below.refl _ _).alloc (Nat.le_refl _) _⟩
  cases b1
  case false =>
    go_wp2
    go_ret
    exact ⟨rfl, (Below.refl _ _).alloc (Nat.le_refl _) _⟩
  cases b2
  case false =>
    go_wp2
    go_ret
    exact ⟨rfl, (Below.refl _ _).alloc (Nat.le_refl _) _⟩
  cases b3
  case false =>
    go_wp2
    go_ret
    exact ⟨rfl, (Below.refl _ _).alloc (Nat.le_refl _) _⟩
  cases b4
  case false =>
    go_wp2
    go_ret
    exact ⟨rfl, (Below.refl _ _).alloc (Nat.le_refl _) _⟩
  go_wp2
  go_ret
  exact ⟨rfl, (Below.refl _ _).alloc (Nat.le_refl _) _⟩
set_option maxHeartbeats 4000000 in
theorem rk_Z (w : World) (st : Int) (t : ByteArray) (A1 : Option Addr) (n1 p1 : Nat) (A2 : Option Addr) (n2 p2 : Nat) (A3 : Option Addr) (n3 p3 : Nat) (n m : Int) (b0 b1 b2 b3 b4 b5 b6 : Bool) (s1 : (t.toList == (⟨#[]⟩ : ByteArray).toList) = b1) (s2 : ((n1 : Int) == 0) = b2) (s3 : ((n2 : Int) == 0) = b3) (s4 : ((n3 : Int) == 0) = b4) (s5 : (n == 0) = b5) (s6 : (m == 0) = b6) :
    Calls Try.prog 27 #[.agg #[.int .u8 90, .int .u8 st, .string t, .slice A1 n1 p1, .slice A2 n2 p2, .slice A3 n3 p3, .int .i64 n, .int .i64 m]] w fun e w' => e = .returned (.bool (b1 && b2 && b3 && b4 && b5 && b6)) ∧ Below w.heap.size w w' := by
  have S1 := Lib.hid s1
  have S2 := Lib.hid s2
  have S3 := Lib.hid s3
  have S4 := Lib.hid s4
  have S5 := Lib.hid s5
  have S6 := Lib.hid s6
  clear s1 s2 s3 s4 s5 s6
  go_enter Try.func27, Try.ntmps27
  go_upto_region 30 with fail
  have s1 := S1.out
  have s2 := S2.out
  have s3 := S3.out
  have s4 := S4.out
  have s5 := S5.out
  have s6 := S6.out
  have s1a : (t.toList == []) = b1 := by rw [← s1, Lib.toList_data (⟨#[]⟩ : ByteArray)]
  have s1b : t.toList.isEmpty = b1 := by rw [← s1a]; cases t.toList <;> rfl
  cases b1
  case false =>
    go_wp2
    go_ret
    exact ⟨rfl, (Below.refl _ _).alloc (Nat.le_refl _) _⟩
  cases b2
  case false =>
    go_wp2
    go_ret
    exact ⟨rfl, (Below.refl _ _).alloc (Nat.le_refl _) _⟩
  cases b3
  case false =>
    go_wp2
    go_ret
    exact ⟨rfl, (Below.refl _ _).alloc (Nat.le_refl _) _⟩
  cases b4
  case false =>
    go_wp2
    go_ret
    exact ⟨rfl, (Below.refl _ _).alloc (Nat.le_refl _) _⟩
  cases b5
  case false =>
    go_wp2
    go_ret
    exact ⟨rfl, (Below.refl _ _).alloc (Nat.le_refl _) _⟩
  cases b6
  case false =>
    go_wp2
    go_ret
    exact ⟨rfl, (Below.refl _ _).alloc (Nat.le_refl _) _⟩
  go_wp2
  go_ret
  exact ⟨rfl, (Below.refl _ _).alloc (Nat.le_refl _) _⟩

set_option maxHeartbeats 4000000 in
theorem rk_C (w : World) (st : Int) (t : ByteArray) (A1 : Option Addr) (n1 p1 : Nat) (A2 : Option Addr) (n2 p2 : Nat) (A3 : Option Addr) (n3 p3 : Nat) (n m : Int) (b0 b1 b2 b3 b4 b5 b6 : Bool) (s0 : (st == 0) = b0) (s2 : ((n1 : Int) == 0) = b2) (s3 : ((n2 : Int) == 0) = b3) (s4 : ((n3 : Int) == 0) = b4) (s5 : (n == 0) = b5) (s6 : (m == 0) = b6) :
    Calls Try.prog 27 #[.agg #[.int .u8 67, .int .u8 st, .string t, .slice A1 n1 p1, .slice A2 n2 p2, .slice A3 n3 p3, .int .i64 n, .int .i64 m]] w fun e w' => e = .returned (.bool (b0 && b2 && b3 && b4 && b5 && b6)) ∧ Below w.heap.size w w' := by
  have S0 := Lib.hid s0
  have S2 := Lib.hid s2
  have S3 := Lib.hid s3
  have S4 := Lib.hid s4
  have S5 := Lib.hid s5
  have S6 := Lib.hid s6
  clear s0 s2 s3 s4 s5 s6
  go_enter Try.func27, Try.ntmps27
  go_upto_region 30 with fail
  have s0 := S0.out
  have s2 := S2.out
  have s3 := S3.out
  have s4 := S4.out
  have s5 := S5.out
  have s6 := S6.out
  cases b0
  case false =>
    go_wp2
    go_ret
    exact ⟨rfl, (Below.refl _ _).alloc (Nat.le_refl _) _⟩
  cases b2
  case false =>
    go_wp2
    go_ret
    exact ⟨rfl, (Below.refl _ _).alloc (Nat.le_refl _) _⟩
  cases b3
  case false =>
    go_wp2
    go_ret
    exact ⟨rfl, (Below.refl _ _).alloc (Nat.le_refl _) _⟩
  cases b4
  case false =>
    go_wp2
    go_ret
    exact ⟨rfl, (Below.refl _ _).alloc (Nat.le_refl _) _⟩
  cases b5
  case false =>
    go_wp2
    go_ret
    exact ⟨rfl, (Below.refl _ _).alloc (Nat.le_refl _) _⟩
  cases b6
  case false =>
    go_wp2
    go_ret
    exact ⟨rfl, (Below.refl _ _).alloc (Nat.le_refl _) _⟩
  go_wp2
  go_ret
  exact ⟨rfl, (Below.refl _ _).alloc (Nat.le_refl _) _⟩
set_option maxHeartbeats 4000000 in
theorem rk_S (w : World) (st : Int) (t : ByteArray) (A1 : Option Addr) (n1 p1 : Nat) (A2 : Option Addr) (n2 p2 : Nat) (A3 : Option Addr) (n3 p3 : Nat) (n m : Int) (b0 b1 b2 b3 b4 b5 b6 : Bool) (s0 : (st == 0) = b0) (s2 : ((n1 : Int) == 0) = b2) (s4 : ((n3 : Int) == 0) = b4) (s5 : (n == 0) = b5) (s6 : (m == 0) = b6) :
    Calls Try.prog 27 #[.agg #[.int .u8 83, .int .u8 st, .string t, .slice A1 n1 p1, .slice A2 n2 p2, .slice A3 n3 p3, .int .i64 n, .int .i64 m]] w fun e w' => e = .returned (.bool (b0 && b2 && b4 && b5 && b6)) ∧ Below w.heap.size w w' := by
  have S0 := Lib.hid s0
  have S2 := Lib.hid s2
  have S4 := Lib.hid s4
  have S5 := Lib.hid s5
  have S6 := Lib.hid s6
  clear s0 s2 s4 s5 s6
  go_enter Try.func27, Try.ntmps27
  go_upto_region 30 with fail
  have s0 := S0.out
  have s2 := S2.out
  have s4 := S4.out
  have s5 := S5.out
  have s6 := S6.out
  cases b0
  case false =>
    go_wp2
    go_ret
    exact ⟨rfl, (Below.refl _ _).alloc (Nat.le_refl _) _⟩
  cases b2
  case false =>
    go_wp2
    go_ret
    exact ⟨rfl, (Below.refl _ _).alloc (Nat.le_refl _) _⟩
  cases b4
  case false =>
    go_wp2
    go_ret
    exact ⟨rfl, (Below.refl _ _).alloc (Nat.le_refl _) _⟩
  cases b5
  case false =>
    go_wp2
    go_ret
    exact ⟨rfl, (Below.refl _ _).alloc (Nat.le_refl _) _⟩
  cases b6
  case false =>
    go_wp2
    go_ret
    exact ⟨rfl, (Below.refl _ _).alloc (Nat.le_refl _) _⟩
  go_wp2
  go_ret
  exact ⟨rfl, (Below.refl _ _).alloc (Nat.le_refl _) _⟩
set_option maxHeartbeats 4000000 in
theorem rk_T (w : World) (st : Int) (t : ByteArray) (A1 : Option Addr) (n1 p1 : Nat) (A2 : Option Addr) (n2 p2 : Nat) (A3 : Option Addr) (n3 p3 : Nat) (n m : Int) (b0 b1 b2 b3 b4 b5 b6 : Bool) (s0 : (st == 0) = b0) (s1 : (t.toList == (⟨#[]⟩ : ByteArray).toList) = b1) (s3 : ((n2 : Int) == 0) = b3) (s4 : ((n3 : Int) == 0) = b4) (s5 : (n == 0) = b5) (s6 : (m == 0) = b6) :
    Calls Try.prog 27 #[.agg #[.int .u8 84, .int .u8 st, .string t, .slice A1 n1 p1, .slice A2 n2 p2, .slice A3 n3 p3, .int .i64 n, .int .i64 m]] w fun e w' => e = .returned (.bool (b0 && b1 && b3 && b4 && b5 && b6)) ∧ Below w.heap.size w w' := by
  have S0 := Lib.hid s0
  have S1 := Lib.hid s1
  have S3 := Lib.hid s3
  have S4 := Lib.hid s4
  have S5 := Lib.hid s5
  have S6 := Lib.hid s6
  clear s0 s1 s3 s4 s5 s6
  go_enter Try.func27, Try.ntmps27
  go_upto_region 30 with fail
  have s0 := S0.out
  have s1 := S1.out
  have s3 := S3.out
  have s4 := S4.out
  have s5 := S5.out
  have s6 := S6.out
  have s1a : (t.toList == []) = b1 := by rw [← s1, Lib.toList_data (⟨#[]⟩ : ByteArray)]
  have s1b : t.toList.isEmpty = b1 := by rw [← s1a]; cases t.toList <;> rfl
  cases b0
  case false =>
    go_wp2
    go_ret
    exact ⟨rfl, (Below.refl _ _).alloc (Nat.le_refl _) _⟩
  cases b1
  case false =>
    go_wp2
    go_ret
    exact ⟨rfl, (Below.refl _ _).alloc (Nat.le_refl _) _⟩
  cases b3
  case false =>
    go_wp2
    go_ret
    exact ⟨rfl, (Below.refl _ _).alloc (Nat.le_refl _) _⟩
  cases b4
  case false =>
    go_wp2
    go_ret
    exact ⟨rfl, (Below.refl _ _).alloc (Nat.le_refl _) _⟩
  cases b5
  case false =>
    go_wp2
    go_ret
    exact ⟨rfl, (Below.refl _ _).alloc (Nat.le_refl _) _⟩
  cases b6
  case false =>
    go_wp2
    go_ret
    exact ⟨rfl, (Below.refl _ _).alloc (Nat.le_refl _) _⟩
  go_wp2
  go_ret
  exact ⟨rfl, (Below.refl _ _).alloc (Nat.le_refl _) _⟩

set_option maxHeartbeats 4000000 in
theorem rk_D (w : World) (st : Int) (t : ByteArray) (A1 : Option Addr) (n1 p1 : Nat) (A2 : Option Addr) (n2 p2 : Nat) (A3 : Option Addr) (n3 p3 : Nat) (n m : Int) (b0 b1 b2 b3 b4 b5 b6 : Bool) (s0 : (st == 0) = b0) (s1 : (t.toList == (⟨#[]⟩ : ByteArray).toList) = b1) (s2 : ((n1 : Int) == 0) = b2) (s5 : (n == 0) = b5) (s6 : (m == 0) = b6) :
    Calls Try.prog 27 #[.agg #[.int .u8 68, .int .u8 st, .string t, .slice A1 n1 p1, .slice A2 n2 p2, .slice A3 n3 p3, .int .i64 n, .int .i64 m]] w fun e w' => e = .returned (.bool (b0 && b1 && b2 && b5 && b6)) ∧ Below w.heap.size w w' := by
  have S0 := Lib.hid s0
  have S1 := Lib.hid s1
  have S2 := Lib.hid s2
  have S5 := Lib.hid s5
  have S6 := Lib.hid s6
  clear s0 s1 s2 s5 s6
  go_enter Try.func27, Try.ntmps27
  go_upto_region 30 with fail
  have s0 := S0.out
  have s1 := S1.out
  have s2 := S2.out
  have s5 := S5.out
  have s6 := S6.out
  have s1a : (t.toList == []) = b1 := by rw [← s1, Lib.toList_data (⟨#[]⟩ : ByteArray)]
  have s1b : t.toList.isEmpty = b1 := by rw [← s1a]; cases t.toList <;> rfl
  cases b0
  case false =>
    go_wp2
    go_ret
    exact ⟨rfl, (Below.refl _ _).alloc (Nat.le_refl _) _⟩
  cases b1
  case false =>
    go_wp2
    go_ret
    exact ⟨rfl, (Below.refl _ _).alloc (Nat.le_refl _) _⟩
  cases b2
  case false =>
    go_wp2
    go_ret
    exact ⟨rfl, (Below.refl _ _).alloc (Nat.le_refl _) _⟩
  cases b5
  case false =>
    go_wp2
    go_ret
    exact ⟨rfl, (Below.refl _ _).alloc (Nat.le_refl _) _⟩
  cases b6
  case false =>
    go_wp2
    go_ret
    exact ⟨rfl, (Below.refl _ _).alloc (Nat.le_refl _) _⟩
  go_wp2
  go_ret
  exact ⟨rfl, (Below.refl _ _).alloc (Nat.le_refl _) _⟩
set_option maxHeartbeats 4000000 in
theorem rk_E (w : World) (st : Int) (t : ByteArray) (A1 : Option Addr) (n1 p1 : Nat) (A2 : Option Addr) (n2 p2 : Nat) (A3 : Option Addr) (n3 p3 : Nat) (n m : Int) (b0 b1 b2 b3 b4 b5 b6 : Bool) (s0 : (st == 0) = b0) (s1 : (t.toList == (⟨#[]⟩ : ByteArray).toList) = b1) (s4 : ((n3 : Int) == 0) = b4) (s5 : (n == 0) = b5) (s6 : (m == 0) = b6) :
    Calls Try.prog 27 #[.agg #[.int .u8 69, .int .u8 st, .string t, .slice A1 n1 p1, .slice A2 n2 p2, .slice A3 n3 p3, .int .i64 n, .int .i64 m]] w fun e w' => e = .returned (.bool (b0 && b1 && b4 && b5 && b6)) ∧ Below w.heap.size w w' := by
  have S0 := Lib.hid s0
  have S1 := Lib.hid s1
  have S4 := Lib.hid s4
  have S5 := Lib.hid s5
  have S6 := Lib.hid s6
  clear s0 s1 s4 s5 s6
  go_enter Try.func27, Try.ntmps27
  go_upto_region 30 with fail
  have s0 := S0.out
  have s1 := S1.out
  have s4 := S4.out
  have s5 := S5.out
  have s6 := S6.out
  have s1a : (t.toList == []) = b1 := by rw [← s1, Lib.toList_data (⟨#[]⟩ : ByteArray)]
  have s1b : t.toList.isEmpty = b1 := by rw [← s1a]; cases t.toList <;> rfl
  cases b0
  case false =>
    go_wp2
    go_ret
    exact ⟨rfl, (Below.refl _ _).alloc (Nat.le_refl _) _⟩
  cases b1
  case false =>
    go_wp2
    go_ret
    exact ⟨rfl, (Below.refl _ _).alloc (Nat.le_refl _) _⟩
  cases b4
  case false =>
    go_wp2
    go_ret
    exact ⟨rfl, (Below.refl _ _).alloc (Nat.le_refl _) _⟩
  cases b5
  case false =>
    go_wp2
    go_ret
    exact ⟨rfl, (Below.refl _ _).alloc (Nat.le_refl _) _⟩
  cases b6
  case false =>
    go_wp2
    go_ret
    exact ⟨rfl, (Below.refl _ _).alloc (Nat.le_refl _) _⟩
  go_wp2
  go_ret
  exact ⟨rfl, (Below.refl _ _).alloc (Nat.le_refl _) _⟩
set_option maxHeartbeats 4000000 in
theorem rk_N (w : World) (st : Int) (t : ByteArray) (A1 : Option Addr) (n1 p1 : Nat) (A2 : Option Addr) (n2 p2 : Nat) (A3 : Option Addr) (n3 p3 : Nat) (n m : Int) (b0 b1 b2 b3 b4 b5 b6 : Bool) (s0 : (st == 0) = b0) (s1 : (t.toList == (⟨#[]⟩ : ByteArray).toList) = b1) (s4 : ((n3 : Int) == 0) = b4) (s5 : (n == 0) = b5) (s6 : (m == 0) = b6) :
    Calls Try.prog 27 #[.agg #[.int .u8 78, .int .u8 st, .string t, .slice A1 n1 p1, .slice A2 n2 p2, .slice A3 n3 p3, .int .i64 n, .int .i64 m]] w fun e w' => e = .returned (.bool (b0 && b1 && b4 && b5 && b6)) ∧ Below w.heap.size w w' := by
  have S0 := Lib.hid s0
  have S1 := Lib.hid s1
  have S4 := Lib.hid s4
  have S5 := Lib.hid s5
  have S6 := Lib.hid s6
  clear s0 s1 s4 s5 s6
  go_enter Try.func27, Try.ntmps27
  go_upto_region 30 with fail
  have s0 := S0.out
  have s1 := S1.out
  have s4 := S4.out
  have s5 := S5.out
  have s6 := S6.out
  have s1a : (t.toList == []) = b1 := by rw [← s1, Lib.toList_data (⟨#[]⟩ : ByteArray)]
  have s1b : t.toList.isEmpty = b1 := by rw [← s1a]; cases t.toList <;> rfl
  cases b0
  case false =>
    go_wp2
    go_ret
    exact ⟨rfl, (Below.refl _ _).alloc (Nat.le_refl _) _⟩
  cases b1
  case false =>
    go_wp2
    go_ret
    exact ⟨rfl, (Below.refl _ _).alloc (Nat.le_refl _) _⟩
  cases b4
  case false =>
    go_wp2
    go_ret
    exact ⟨rfl, (Below.refl _ _).alloc (Nat.le_refl _) _⟩
  cases b5
  case false =>
    go_wp2
    go_ret
    exact ⟨rfl, (Below.refl _ _).alloc (Nat.le_refl _) _⟩
  cases b6
  case false =>
    go_wp2
    go_ret
    exact ⟨rfl, (Below.refl _ _).alloc (Nat.le_refl _) _⟩
  go_wp2
  go_ret
  exact ⟨rfl, (Below.refl _ _).alloc (Nat.le_refl _) _⟩

set_option maxHeartbeats 4000000 in
theorem rk_n1 (w : World) (st : Int) (t : ByteArray) (A1 : Option Addr) (n1 p1 : Nat) (A2 : Option Addr) (n2 p2 : Nat) (A3 : Option Addr) (n3 p3 : Nat) (n m : Int) (b0 b1 b2 b3 b4 b5 b6 : Bool) (s0 : (st == 0) = b0) (s1 : (t.toList == (⟨#[]⟩ : ByteArray).toList) = b1) (s2 : ((n1 : Int) == 0) = b2) (s3 : ((n2 : Int) == 0) = b3) (s4 : ((n3 : Int) == 0) = b4) (s5 : (n == 0) = b5) (s6 : (m == 0) = b6) :
    Calls Try.prog 27 #[.agg #[.int .u8 49, .int .u8 st, .string t, .slice A1 n1 p1, .slice A2 n2 p2, .slice A3 n3 p3, .int .i64 n, .int .i64 m]] w fun e w' => e = .returned (.bool (b0 && b1 && b2 && b3 && b4 && b5 && b6)) ∧ Below w.heap.size w w' := by
  have S0 := Lib.hid s0
  have S1 := Lib.hid s1
  have S2 := Lib.hid s2
  have S3 := Lib.hid s3
  have S4 := Lib.hid s4
  have S5 := Lib.hid s5
  have S6 := Lib.hid s6
  clear s0 s1 s2 s3 s4 s5 s6
  go_enter Try.func27, Try.ntmps27
  go_upto_region 30 with fail
  have s0 := S0.out
  have s1 := S1.out
  have s2 := S2.out
  have s3 := S3.out
  have s4 := S4.out
  have s5 := S5.out
  have s6 := S6.out
  have s1a : (t.toList == []) = b1 := by rw [← s1, Lib.toList_data (⟨#[]⟩ : ByteArray)]
  have s1b : t.toList.isEmpty = b1 := by rw [← s1a]; cases t.toList <;> rfl
  cases b0
  case false =>
    go_wp2
    go_ret
    exact ⟨rfl, (Below.refl _ _).alloc (Nat.le_refl _) _⟩
  cases b1
  case false =>
    go_wp2
    go_ret
    exact ⟨rfl, (Below.refl _ _).alloc (Nat.le_refl _) _⟩
  cases b2
  case false =>
    go_wp2
    go_ret
    exact ⟨rfl, (Below.refl _ _).alloc (Nat.le_refl _) _⟩
  cases b3
  case false =>
    go_wp2
    go_ret
    exact ⟨rfl, (Below.refl _ _).alloc (Nat.le_refl _) _⟩
  cases b4
  case false =>
    go_wp2
    go_ret
    exact ⟨rfl, (Below.refl _ _).alloc (Nat.le_refl _) _⟩
  cases b5
  case false =>
    go_wp2
    go_ret
    exact ⟨rfl, (Below.refl _ _).alloc (Nat.le_refl _) _⟩
  cases b6
  case false =>
    go_wp2
    go_ret
    exact ⟨rfl, (Below.refl _ _).alloc (Nat.le_refl _) _⟩
  go_wp2
  go_ret
  exact ⟨rfl, (Below.refl _ _).alloc (Nat.le_refl _) _⟩
set_option maxHeartbeats 4000000 in
theorem rk_n2 (w : World) (st : Int) (t : ByteArray) (A1 : Option Addr) (n1 p1 : Nat) (A2 : Option Addr) (n2 p2 : Nat) (A3 : Option Addr) (n3 p3 : Nat) (n m : Int) (b0 b1 b2 b3 b4 b5 b6 : Bool) (s0 : (st == 0) = b0) (s1 : (t.toList == (⟨#[]⟩ : ByteArray).toList) = b1) (s2 : ((n1 : Int) == 0) = b2) (s3 : ((n2 : Int) == 0) = b3) (s4 : ((n3 : Int) == 0) = b4) (s5 : (n == 0) = b5) (s6 : (m == 0) = b6) :
    Calls Try.prog 27 #[.agg #[.int .u8 50, .int .u8 st, .string t, .slice A1 n1 p1, .slice A2 n2 p2, .slice A3 n3 p3, .int .i64 n, .int .i64 m]] w fun e w' => e = .returned (.bool (b0 && b1 && b2 && b3 && b4 && b5 && b6)) ∧ Below w.heap.size w w' := by
  have S0 := Lib.hid s0
  have S1 := Lib.hid s1
  have S2 := Lib.hid s2
  have S3 := Lib.hid s3
  have S4 := Lib.hid s4
  have S5 := Lib.hid s5
  have S6 := Lib.hid s6
  clear s0 s1 s2 s3 s4 s5 s6
  go_enter Try.func27, Try.ntmps27
  go_upto_region 30 with fail
  have s0 := S0.out
  have s1 := S1.out
  have s2 := S2.out
  have s3 := S3.out
  have s4 := S4.out
  have s5 := S5.out
  have s6 := S6.out
  have s1a : (t.toList == []) = b1 := by rw [← s1, Lib.toList_data (⟨#[]⟩ : ByteArray)]
  have s1b : t.toList.isEmpty = b1 := by rw [← s1a]; cases t.toList <;> rfl
  cases b0
  case false =>
    go_wp2
    go_ret
    exact ⟨rfl, (Below.refl _ _).alloc (Nat.le_refl _) _⟩
  cases b1
  case false =>
    go_wp2
    go_ret
    exact ⟨rfl, (Below.refl _ _).alloc (Nat.le_refl _) _⟩
  cases b2
  case false =>
    go_wp2
    go_ret
    exact ⟨rfl, (Below.refl _ _).alloc (Nat.le_refl _) _⟩
  cases b3
  case false =>
    go_wp2
    go_ret
    exact ⟨rfl, (Below.refl _ _).alloc (Nat.le_refl _) _⟩
  cases b4
  case false =>
    go_wp2
    go_ret
    exact ⟨rfl, (Below.refl _ _).alloc (Nat.le_refl _) _⟩
  cases b5
  case false =>
    go_wp2
    go_ret
    exact ⟨rfl, (Below.refl _ _).alloc (Nat.le_refl _) _⟩
  cases b6
  case false =>
    go_wp2
    go_ret
    exact ⟨rfl, (Below.refl _ _).alloc (Nat.le_refl _) _⟩
  go_wp2
  go_ret
  exact ⟨rfl, (Below.refl _ _).alloc (Nat.le_refl _) _⟩
set_option maxHeartbeats 4000000 in
theorem rk_n3 (w : World) (st : Int) (t : ByteArray) (A1 : Option Addr) (n1 p1 : Nat) (A2 : Option Addr) (n2 p2 : Nat) (A3 : Option Addr) (n3 p3 : Nat) (n m : Int) (b0 b1 b2 b3 b4 b5 b6 : Bool) (s0 : (st == 0) = b0) (s1 : (t.toList == (⟨#[]⟩ : ByteArray).toList) = b1) (s2 : ((n1 : Int) == 0) = b2) (s3 : ((n2 : Int) == 0) = b3) (s4 : ((n3 : Int) == 0) = b4) (s5 : (n == 0) = b5) (s6 : (m == 0) = b6) :
    Calls Try.prog 27 #[.agg #[.int .u8 51, .int .u8 st, .string t, .slice A1 n1 p1, .slice A2 n2 p2, .slice A3 n3 p3, .int .i64 n, .int .i64 m]] w fun e w' => e = .returned (.bool (b0 && b1 && b2 && b3 && b4 && b5 && b6)) ∧ Below w.heap.size w w' := by
  have S0 := Lib.hid s0
  have S1 := Lib.hid s1
  have S2 := Lib.hid s2
  have S3 := Lib.hid s3
  have S4 := Lib.hid s4
  have S5 := Lib.hid s5
  have S6 := Lib.hid s6
  clear s0 s1 s2 s3 s4 s5 s6
  go_enter Try.func27, Try.ntmps27
  go_upto_region 30 with fail
  have s0 := S0.out
  have s1 := S1.out
  have s2 := S2.out
  have s3 := S3.out
  have s4 := S4.out
  have s5 := S5.out
  have s6 := S6.out
  have s1a : (t.toList == []) = b1 := by rw [← s1, Lib.toList_data (⟨#[]⟩ : ByteArray)]
  have s1b : t.toList.isEmpty = b1 := by rw [← s1a]; cases t.toList <;> rfl
  cases b0
  case false =>
    go_wp2
    go_ret
    exact ⟨rfl, (Below.refl _ _).alloc (Nat.le_refl _) _⟩
  cases b1
  case false =>
    go_wp2
    go_ret
    exact ⟨rfl, (Below.refl _ _).alloc (Nat.le_refl _) _⟩
  cases b2
  case false =>
    go_wp2
    go_ret
    exact ⟨rfl, (Below.refl _ _).alloc (Nat.le_refl _) _⟩
  cases b3
  case false =>
    go_wp2
    go_ret
    exact ⟨rfl, (Below.refl _ _).alloc (Nat.le_refl _) _⟩
  cases b4
  case false =>
    go_wp2
    go_ret
    exact ⟨rfl, (Below.refl _ _).alloc (Nat.le_refl _) _⟩
  cases b5
  case false =>
    go_wp2
    go_ret
    exact ⟨rfl, (Below.refl _ _).alloc (Nat.le_refl _) _⟩
  cases b6
  case false =>
    go_wp2
    go_ret
    exact ⟨rfl, (Below.refl _ _).alloc (Nat.le_refl _) _⟩
  go_wp2
  go_ret
  exact ⟨rfl, (Below.refl _ _).alloc (Nat.le_refl _) _⟩

set_option maxHeartbeats 4000000 in
theorem rk_nn (w : World) (st : Int) (t : ByteArray) (A1 : Option Addr) (n1 p1 : Nat) (A2 : Option Addr) (n2 p2 : Nat) (A3 : Option Addr) (n3 p3 : Nat) (n m : Int) (b0 b1 b2 b3 b4 b5 b6 : Bool) (s0 : (st == 0) = b0) (s1 : (t.toList == (⟨#[]⟩ : ByteArray).toList) = b1) (s2 : ((n1 : Int) == 0) = b2) (s3 : ((n2 : Int) == 0) = b3) (s4 : ((n3 : Int) == 0) = b4) (s5 : (n == 0) = b5) (s6 : (m == 0) = b6) :
    Calls Try.prog 27 #[.agg #[.int .u8 110, .int .u8 st, .string t, .slice A1 n1 p1, .slice A2 n2 p2, .slice A3 n3 p3, .int .i64 n, .int .i64 m]] w fun e w' => e = .returned (.bool (b0 && b1 && b2 && b3 && b4 && b5 && b6)) ∧ Below w.heap.size w w' := by
  have S0 := Lib.hid s0
  have S1 := Lib.hid s1
  have S2 := Lib.hid s2
  have S3 := Lib.hid s3
  have S4 := Lib.hid s4
  have S5 := Lib.hid s5
  have S6 := Lib.hid s6
  clear s0 s1 s2 s3 s4 s5 s6
  go_enter Try.func27, Try.ntmps27
  go_upto_region 30 with fail
  have s0 := S0.out
  have s1 := S1.out
  have s2 := S2.out
  have s3 := S3.out
  have s4 := S4.out
  have s5 := S5.out
  have s6 := S6.out
  have s1a : (t.toList == []) = b1 := by rw [← s1, Lib.toList_data (⟨#[]⟩ : ByteArray)]
  have s1b : t.toList.isEmpty = b1 := by rw [← s1a]; cases t.toList <;> rfl
  cases b0
  case false =>
    go_wp2
    go_ret
    exact ⟨rfl, (Below.refl _ _).alloc (Nat.le_refl _) _⟩
  cases b1
  case false =>
    go_wp2
    go_ret
    exact ⟨rfl, (Below.refl _ _).alloc (Nat.le_refl _) _⟩
  cases b2
  case false =>
    go_wp2
    go_ret
    exact ⟨rfl, (Below.refl _ _).alloc (Nat.le_refl _) _⟩
  cases b3
  case false =>
    go_wp2
    go_ret
    exact ⟨rfl, (Below.refl _ _).alloc (Nat.le_refl _) _⟩
  cases b4
  case false =>
    go_wp2
    go_ret
    exact ⟨rfl, (Below.refl _ _).alloc (Nat.le_refl _) _⟩
  cases b5
  case false =>
    go_wp2
    go_ret
    exact ⟨rfl, (Below.refl _ _).alloc (Nat.le_refl _) _⟩
  cases b6
  case false =>
    go_wp2
    go_ret
    exact ⟨rfl, (Below.refl _ _).alloc (Nat.le_refl _) _⟩
  go_wp2
  go_ret
  exact ⟨rfl, (Below.refl _ _).alloc (Nat.le_refl _) _⟩
set_option maxHeartbeats 4000000 in
theorem rk_nI (w : World) (st : Int) (t : ByteArray) (A1 : Option Addr) (n1 p1 : Nat) (A2 : Option Addr) (n2 p2 : Nat) (A3 : Option Addr) (n3 p3 : Nat) (n m : Int) (b0 b1 b2 b3 b4 b5 b6 : Bool) (s0 : (st == 0) = b0) (s1 : (t.toList == (⟨#[]⟩ : ByteArray).toList) = b1) (s2 : ((n1 : Int) == 0) = b2) (s3 : ((n2 : Int) == 0) = b3) (s4 : ((n3 : Int) == 0) = b4) (s5 : (n == 0) = b5) (s6 : (m == 0) = b6) :
    Calls Try.prog 27 #[.agg #[.int .u8 73, .int .u8 st, .string t, .slice A1 n1 p1, .slice A2 n2 p2, .slice A3 n3 p3, .int .i64 n, .int .i64 m]] w fun e w' => e = .returned (.bool (b0 && b1 && b2 && b3 && b4 && b5 && b6)) ∧ Below w.heap.size w w' := by
  have S0 := Lib.hid s0
  have S1 := Lib.hid s1
  have S2 := Lib.hid s2
  have S3 := Lib.hid s3
  have S4 := Lib.hid s4
  have S5 := Lib.hid s5
  have S6 := Lib.hid s6
  clear s0 s1 s2 s3 s4 s5 s6
  go_enter Try.func27, Try.ntmps27
  go_upto_region 30 with fail
  have s0 := S0.out
  have s1 := S1.out
  have s2 := S2.out
  have s3 := S3.out
  have s4 := S4.out
  have s5 := S5.out
  have s6 := S6.out
  have s1a : (t.toList == []) = b1 := by rw [← s1, Lib.toList_data (⟨#[]⟩ : ByteArray)]
  have s1b : t.toList.isEmpty = b1 := by rw [← s1a]; cases t.toList <;> rfl
  cases b0
  case false =>
    go_wp2
    go_ret
    exact ⟨rfl, (Below.refl _ _).alloc (Nat.le_refl _) _⟩
  cases b1
  case false =>
    go_wp2
    go_ret
    exact ⟨rfl, (Below.refl _ _).alloc (Nat.le_refl _) _⟩
  cases b2
  case false =>
    go_wp2
    go_ret
    exact ⟨rfl, (Below.refl _ _).alloc (Nat.le_refl _) _⟩
  cases b3
  case false =>
    go_wp2
    go_ret
    exact ⟨rfl, (Below.refl _ _).alloc (Nat.le_refl _) _⟩
  cases b4
  case false =>
    go_wp2
    go_ret
    exact ⟨rfl, (Below.refl _ _).alloc (Nat.le_refl _) _⟩
  cases b5
  case false =>
    go_wp2
    go_ret
    exact ⟨rfl, (Below.refl _ _).alloc (Nat.le_refl _) _⟩
  cases b6
  case false =>
    go_wp2
    go_ret
    exact ⟨rfl, (Below.refl _ _).alloc (Nat.le_refl _) _⟩
  go_wp2
  go_ret
  exact ⟨rfl, (Below.refl _ _).alloc (Nat.le_refl _) _⟩
set_option maxHeartbeats 4000000 in
theorem rk_ns (w : World) (st : Int) (t : ByteArray) (A1 : Option Addr) (n1 p1 : Nat) (A2 : Option Addr) (n2 p2 : Nat) (A3 : Option Addr) (n3 p3 : Nat) (n m : Int) (b0 b1 b2 b3 b4 b5 b6 : Bool) (s0 : (st == 0) = b0) (s1 : (t.toList == (⟨#[]⟩ : ByteArray).toList) = b1) (s2 : ((n1 : Int) == 0) = b2) (s3 : ((n2 : Int) == 0) = b3) (s4 : ((n3 : Int) == 0) = b4) (s5 : (n == 0) = b5) (s6 : (m == 0) = b6) :
    Calls Try.prog 27 #[.agg #[.int .u8 115, .int .u8 st, .string t, .slice A1 n1 p1, .slice A2 n2 p2, .slice A3 n3 p3, .int .i64 n, .int .i64 m]] w fun e w' => e = .returned (.bool (b0 && b1 && b2 && b3 && b4 && b5 && b6)) ∧ Below w.heap.size w w' := by
  have S0 := Lib.hid s0
  have S1 := Lib.hid s1
  have S2 := Lib.hid s2
  have S3 := Lib.hid s3
  have S4 := Lib.hid s4
  have S5 := Lib.hid s5
  have S6 := Lib.hid s6
  clear s0 s1 s2 s3 s4 s5 s6
  go_enter Try.func27, Try.ntmps27
  go_upto_region 30 with fail
  have s0 := S0.out
  have s1 := S1.out
  have s2 := S2.out
  have s3 := S3.out
  have s4 := S4.out
  have s5 := S5.out
  have s6 := S6.out
  have s1a : (t.toList == []) = b1 := by rw [← s1, Lib.toList_data (⟨#[]⟩ : ByteArray)]
  have s1b : t.toList.isEmpty = b1 := by rw [← s1a]; cases t.toList <;> rfl
  cases b0
  case false =>
    go_wp2
    go_ret
    exact ⟨rfl, (Below.refl _ _).alloc (Nat.le_refl _) _⟩
  cases b1
  case false =>
    go_wp2
    go_ret
    exact ⟨rfl, (Below.refl _ _).alloc (Nat.le_refl _) _⟩
  cases b2
  case false =>
    go_wp2
    go_ret
    exact ⟨rfl, (Below.refl _ _).alloc (Nat.le_refl _) _⟩
  cases b3
  case false =>
    go_wp2
    go_ret
    exact ⟨rfl, (Below.refl _ _).alloc (Nat.le_refl _) _⟩
  cases b4
  case false =>
    go_wp2
    go_ret
    exact ⟨rfl, (Below.refl _ _).alloc (Nat.le_refl _) _⟩
  cases b5
  case false =>
    go_wp2
    go_ret
    exact ⟨rfl, (Below.refl _ _).alloc (Nat.le_refl _) _⟩
  cases b6
  case false =>
    go_wp2
    go_ret
    exact ⟨rfl, (Below.refl _ _).alloc (Nat.le_refl _) _⟩
  go_wp2
  go_ret
  exact ⟨rfl, (Below.refl _ _).alloc (Nat.le_refl _) _⟩

theorem len_beq {α : Type} (l : List α) (n : Nat) (h : n = l.length) : (((n : Nat) : Int) == 0) = decide (l = []) := by
  subst h
  rw [Bool.eq_iff_iff]; simp
theorem kept_login (a : Tell) : decide (keptD .login a) = (decide (a.status = 0) && decide (a.text = []) && decide (a.keys = []) && decide (a.vals = []) && decide (a.null = []) && decide (a.m = 0)) := by
  cases a
  rw [Bool.eq_iff_iff]
  simp [keptD, and_assoc]
theorem kept_secret (a : Tell) : decide (keptD .secret a) = (decide (a.status = 0) && decide (a.text = []) && decide (a.keys = []) && decide (a.vals = []) && decide (a.null = [])) := by
  cases a
  rw [Bool.eq_iff_iff]
  simp [keptD, and_assoc]
theorem kept_status (a : Tell) : decide (keptD .status a) = (decide (a.text = []) && decide (a.keys = []) && decide (a.vals = []) && decide (a.null = []) && decide (a.n = 0) && decide (a.m = 0)) := by
  cases a
  rw [Bool.eq_iff_iff]
  simp [keptD, and_assoc]
theorem kept_done (a : Tell) : decide (keptD .done a) = (decide (a.status = 0) && decide (a.keys = []) && decide (a.vals = []) && decide (a.null = []) && decide (a.n = 0) && decide (a.m = 0)) := by
  cases a
  rw [Bool.eq_iff_iff]
  simp [keptD, and_assoc]
theorem kept_setting (a : Tell) : decide (keptD .setting a) = (decide (a.status = 0) && decide (a.keys = []) && decide (a.null = []) && decide (a.n = 0) && decide (a.m = 0)) := by
  cases a
  rw [Bool.eq_iff_iff]
  simp [keptD, and_assoc]
theorem kept_columns (a : Tell) : decide (keptD .columns a) = (decide (a.status = 0) && decide (a.text = []) && decide (a.vals = []) && decide (a.null = []) && decide (a.n = 0) && decide (a.m = 0)) := by
  cases a
  rw [Bool.eq_iff_iff]
  simp [keptD, and_assoc]
theorem kept_row (a : Tell) : decide (keptD .row a) = (decide (a.status = 0) && decide (a.text = []) && decide (a.keys = []) && decide (a.n = 0) && decide (a.m = 0)) := by
  cases a
  rw [Bool.eq_iff_iff]
  simp [keptD, and_assoc]
theorem kept_fields (a : Tell) : decide (keptD .fields a) = (decide (a.status = 0) && decide (a.text = []) && decide (a.null = []) && decide (a.n = 0) && decide (a.m = 0)) := by
  cases a
  rw [Bool.eq_iff_iff]
  simp [keptD, and_assoc]
theorem kept_nothing (a : Tell) : decide (keptD .nothing a) = (decide (a.status = 0) && decide (a.text = []) && decide (a.keys = []) && decide (a.vals = []) && decide (a.null = []) && decide (a.n = 0) && decide (a.m = 0)) := by
  cases a
  rw [Bool.eq_iff_iff]
  simp [keptD, and_assoc]
theorem rkept_of (a : Tell) (d : Kd) (h : kd a.kind = some d) : decide (Kept a) = decide (keptD d a) := by
  have e : Kept a ↔ keptD d a := by unfold Kept; rw [h]
  rw [Bool.eq_iff_iff]; simp [e]
theorem rk_none (w : World) (k : UInt8) (h : kd k = none) (v1 v2 v3 v4 v5 v6 v7 : Value) :
    Calls Try.prog 27 #[.agg #[.int .u8 (k.toNat : Int), v1, v2, v3, v4, v5, v6, v7]] w fun e w' => e = .returned (.bool false) ∧ Below w.heap.size w w' := by
  have ne : ∀ b : UInt8, kd b ≠ none → ((k.toNat : Int) == (b.toNat : Int)) = false := by
    intro b hb
    have : k.toNat ≠ b.toNat := fun e => hb (by rw [← UInt8.toNat_inj.1 e]; exact h)
    simp; omega
  have e0 : ((k.toNat : Int) == 82) = false := ne 82 (by decide)
  have e1 : ((k.toNat : Int) == 75) = false := ne 75 (by decide)
  have e2 : ((k.toNat : Int) == 90) = false := ne 90 (by decide)
  have e3 : ((k.toNat : Int) == 67) = false := ne 67 (by decide)
  have e4 : ((k.toNat : Int) == 83) = false := ne 83 (by decide)
  have e5 : ((k.toNat : Int) == 84) = false := ne 84 (by decide)
  have e6 : ((k.toNat : Int) == 68) = false := ne 68 (by decide)
  have e7 : ((k.toNat : Int) == 69) = false := ne 69 (by decide)
  have e8 : ((k.toNat : Int) == 78) = false := ne 78 (by decide)
  have e9 : ((k.toNat : Int) == 49) = false := ne 49 (by decide)
  have e10 : ((k.toNat : Int) == 50) = false := ne 50 (by decide)
  have e11 : ((k.toNat : Int) == 51) = false := ne 51 (by decide)
  have e12 : ((k.toNat : Int) == 110) = false := ne 110 (by decide)
  have e13 : ((k.toNat : Int) == 73) = false := ne 73 (by decide)
  have e14 : ((k.toNat : Int) == 115) = false := ne 115 (by decide)
  clear ne h
  go_enter Try.func27, Try.ntmps27
  go_wp2
  go_ret
  exact ⟨rfl, (Below.refl _ _).alloc (Nat.le_refl _) _⟩
theorem rkept_any {P : Nat → Prop} (w : World) (a : Tell) (v : Value) (har : AR P w v a) :
    Calls Try.prog 27 #[v] w fun e w' => e = .returned (.bool (decide (Kept a))) ∧ Below w.heap.size w w' := by
  obtain ⟨kv, vv, nv, rfl, k1, k2, k3⟩ := har.ex
  obtain ⟨A1, p1, rfl, _, _⟩ := k1.form
  obtain ⟨A2, p2, rfl, _, _⟩ := k2.form
  obtain ⟨A3, p3, rfl, _, _⟩ := k3.form
  rw [box_cut]
  rcases kd_inv a.kind with h | ⟨hd, h⟩ | ⟨hd, h⟩ | ⟨hd, h⟩ | ⟨hd, h⟩ | ⟨hd, h⟩ | ⟨hd, h⟩ | ⟨hd, h⟩ | ⟨hd, h⟩ | ⟨hd, h⟩
  · have e : decide (Kept a) = false := decide_eq_false (by unfold Kept; rw [h]; exact id)
    rw [e]; exact rk_none w a.kind h _ _ _ _ _ _ _
  · rw [rkept_of a _ h, kept_login]
    rw [show (a.kind.toNat : Int) = 82 from by rw [hd]; rfl]; exact rk_R w _ _ _ _ _ _ _ _ _ _ _ _ _ (decide (a.status = 0)) (decide (a.text = [])) (decide (a.keys = [])) (decide (a.vals = [])) (decide (a.null = [])) true (decide (a.m = 0)) (u8_beq a.status 0) (ba_beq a.text []) (len_beq a.keys _ (strs_len _)) (len_beq a.vals _ (strs_len _)) (len_beq a.null _ (bools_len _)) (int_beq _ _)
  · rw [rkept_of a _ h, kept_secret]
    rw [show (a.kind.toNat : Int) = 75 from by rw [hd]; rfl]; exact rk_K w _ _ _ _ _ _ _ _ _ _ _ _ _ (decide (a.status = 0)) (decide (a.text = [])) (decide (a.keys = [])) (decide (a.vals = [])) (decide (a.null = [])) true true (u8_beq a.status 0) (ba_beq a.text []) (len_beq a.keys _ (strs_len _)) (len_beq a.vals _ (strs_len _)) (len_beq a.null _ (bools_len _))
  · rw [rkept_of a _ h, kept_status]
    rw [show (a.kind.toNat : Int) = 90 from by rw [hd]; rfl]; exact rk_Z w _ _ _ _ _ _ _ _ _ _ _ _ _ true (decide (a.text = [])) (decide (a.keys = [])) (decide (a.vals = [])) (decide (a.null = [])) (decide (a.n = 0)) (decide (a.m = 0)) (ba_beq a.text []) (len_beq a.keys _ (strs_len _)) (len_beq a.vals _ (strs_len _)) (len_beq a.null _ (bools_len _)) (int_beq _ _) (int_beq _ _)
  · rw [rkept_of a _ h, kept_done]
    rw [show (a.kind.toNat : Int) = 67 from by rw [hd]; rfl]; exact rk_C w _ _ _ _ _ _ _ _ _ _ _ _ _ (decide (a.status = 0)) true (decide (a.keys = [])) (decide (a.vals = [])) (decide (a.null = [])) (decide (a.n = 0)) (decide (a.m = 0)) (u8_beq a.status 0) (len_beq a.keys _ (strs_len _)) (len_beq a.vals _ (strs_len _)) (len_beq a.null _ (bools_len _)) (int_beq _ _) (int_beq _ _)
  · rw [rkept_of a _ h, kept_setting]
    rw [show (a.kind.toNat : Int) = 83 from by rw [hd]; rfl]; exact rk_S w _ _ _ _ _ _ _ _ _ _ _ _ _ (decide (a.status = 0)) true (decide (a.keys = [])) true (decide (a.null = [])) (decide (a.n = 0)) (decide (a.m = 0)) (u8_beq a.status 0) (len_beq a.keys _ (strs_len _)) (len_beq a.null _ (bools_len _)) (int_beq _ _) (int_beq _ _)
  · rw [rkept_of a _ h, kept_columns]
    rw [show (a.kind.toNat : Int) = 84 from by rw [hd]; rfl]; exact rk_T w _ _ _ _ _ _ _ _ _ _ _ _ _ (decide (a.status = 0)) (decide (a.text = [])) true (decide (a.vals = [])) (decide (a.null = [])) (decide (a.n = 0)) (decide (a.m = 0)) (u8_beq a.status 0) (ba_beq a.text []) (len_beq a.vals _ (strs_len _)) (len_beq a.null _ (bools_len _)) (int_beq _ _) (int_beq _ _)
  · rw [rkept_of a _ h, kept_row]
    rw [show (a.kind.toNat : Int) = 68 from by rw [hd]; rfl]; exact rk_D w _ _ _ _ _ _ _ _ _ _ _ _ _ (decide (a.status = 0)) (decide (a.text = [])) (decide (a.keys = [])) true true (decide (a.n = 0)) (decide (a.m = 0)) (u8_beq a.status 0) (ba_beq a.text []) (len_beq a.keys _ (strs_len _)) (int_beq _ _) (int_beq _ _)
  · rw [rkept_of a _ h, kept_fields]
    rcases hd with hd | hd
    · rw [show (a.kind.toNat : Int) = 69 from by rw [hd]; rfl]; exact rk_E w _ _ _ _ _ _ _ _ _ _ _ _ _ (decide (a.status = 0)) (decide (a.text = [])) true true (decide (a.null = [])) (decide (a.n = 0)) (decide (a.m = 0)) (u8_beq a.status 0) (ba_beq a.text []) (len_beq a.null _ (bools_len _)) (int_beq _ _) (int_beq _ _)
    · rw [show (a.kind.toNat : Int) = 78 from by rw [hd]; rfl]; exact rk_N w _ _ _ _ _ _ _ _ _ _ _ _ _ (decide (a.status = 0)) (decide (a.text = [])) true true (decide (a.null = [])) (decide (a.n = 0)) (decide (a.m = 0)) (u8_beq a.status 0) (ba_beq a.text []) (len_beq a.null _ (bools_len _)) (int_beq _ _) (int_beq _ _)
  · rw [rkept_of a _ h, kept_nothing]
    rcases hd with hd | hd | hd | hd | hd | hd
    · rw [show (a.kind.toNat : Int) = 49 from by rw [hd]; rfl]; exact rk_n1 w _ _ _ _ _ _ _ _ _ _ _ _ _ (decide (a.status = 0)) (decide (a.text = [])) (decide (a.keys = [])) (decide (a.vals = [])) (decide (a.null = [])) (decide (a.n = 0)) (decide (a.m = 0)) (u8_beq a.status 0) (ba_beq a.text []) (len_beq a.keys _ (strs_len _)) (len_beq a.vals _ (strs_len _)) (len_beq a.null _ (bools_len _)) (int_beq _ _) (int_beq _ _)
    · rw [show (a.kind.toNat : Int) = 50 from by rw [hd]; rfl]; exact rk_n2 w _ _ _ _ _ _ _ _ _ _ _ _ _ (decide (a.status = 0)) (decide (a.text = [])) (decide (a.keys = [])) (decide (a.vals = [])) (decide (a.null = [])) (decide (a.n = 0)) (decide (a.m = 0)) (u8_beq a.status 0) (ba_beq a.text []) (len_beq a.keys _ (strs_len _)) (len_beq a.vals _ (strs_len _)) (len_beq a.null _ (bools_len _)) (int_beq _ _) (int_beq _ _)
    · rw [show (a.kind.toNat : Int) = 51 from by rw [hd]; rfl]; exact rk_n3 w _ _ _ _ _ _ _ _ _ _ _ _ _ (decide (a.status = 0)) (decide (a.text = [])) (decide (a.keys = [])) (decide (a.vals = [])) (decide (a.null = [])) (decide (a.n = 0)) (decide (a.m = 0)) (u8_beq a.status 0) (ba_beq a.text []) (len_beq a.keys _ (strs_len _)) (len_beq a.vals _ (strs_len _)) (len_beq a.null _ (bools_len _)) (int_beq _ _) (int_beq _ _)
    · rw [show (a.kind.toNat : Int) = 110 from by rw [hd]; rfl]; exact rk_nn w _ _ _ _ _ _ _ _ _ _ _ _ _ (decide (a.status = 0)) (decide (a.text = [])) (decide (a.keys = [])) (decide (a.vals = [])) (decide (a.null = [])) (decide (a.n = 0)) (decide (a.m = 0)) (u8_beq a.status 0) (ba_beq a.text []) (len_beq a.keys _ (strs_len _)) (len_beq a.vals _ (strs_len _)) (len_beq a.null _ (bools_len _)) (int_beq _ _) (int_beq _ _)
    · rw [show (a.kind.toNat : Int) = 73 from by rw [hd]; rfl]; exact rk_nI w _ _ _ _ _ _ _ _ _ _ _ _ _ (decide (a.status = 0)) (decide (a.text = [])) (decide (a.keys = [])) (decide (a.vals = [])) (decide (a.null = [])) (decide (a.n = 0)) (decide (a.m = 0)) (u8_beq a.status 0) (ba_beq a.text []) (len_beq a.keys _ (strs_len _)) (len_beq a.vals _ (strs_len _)) (len_beq a.null _ (bools_len _)) (int_beq _ _) (int_beq _ _)
    · rw [show (a.kind.toNat : Int) = 115 from by rw [hd]; rfl]; exact rk_ns w _ _ _ _ _ _ _ _ _ _ _ _ _ (decide (a.status = 0)) (decide (a.text = [])) (decide (a.keys = [])) (decide (a.vals = [])) (decide (a.null = [])) (decide (a.n = 0)) (decide (a.m = 0)) (u8_beq a.status 0) (ba_beq a.text []) (len_beq a.keys _ (strs_len _)) (len_beq a.vals _ (strs_len _)) (len_beq a.null _ (bools_len _)) (int_beq _ _) (int_beq _ _)
end Go.Proofs.Ytnjifbgjglniaaa.BK
