/- What the document's own one answers at a digit, a quote, a dollar, a sign, and at what is none of these. Conditions: a text's length. -/
import Derived.Test.YtlmgggipkdmdfaaDoorLzh
namespace Go.Proofs.YtlmgggipkdmdfaaDoor
open Go.ChangeShapes Go.WideShapes Go.ChangeAt Go.RowKit
set_option linter.unusedVariables false
set_option linter.unusedSimpArgs false

theorem rlet_is (z : Int) (b : Bool) (h : letN z = b) : ∀ w, Calls Tryd.prog 38 #[.int .u8 z] w fun e w' => e = .returned (.bool b) ∧ w' = w := by
  subst h; exact rlet_any z
theorem rdig_is (z : Int) (b : Bool) (h : digN z = b) : ∀ w, Calls Tryd.prog 41 #[.int .u8 z] w fun e w' => e = .returned (.bool b) ∧ w' = w := by
  subst h; exact rdig_any z
theorem rrow_is (s : ByteArray) (a : Nat) (k : Int) (hk : k = 1 ∨ k = 4 ∨ k = 0) (hs : s.size ≤ 1048576) (ha : a ≤ s.size) (E : Nat) (hE : a + rowL (rowB k) (s.data.toList.drop a) = E) :
    ∀ w, Calls Tryd.prog 39 #[.string s, .int .i64 (a : Int), .int .i64 k] w fun e w' => e = .returned (.int .i64 (E : Int)) ∧ w' = w := by
  subst hE; exact fun w => rrow_any s a k hk w hs ha
theorem rquo_is (s : ByteArray) (a : Nat) (ha : a < s.size) (hs : s.size ≤ 1048000) (v : Value) (h : quoV (quoAt s a s[a]) = v) :
    ∀ w, Calls Tryd.prog 42 #[.string s, .int .i64 (a : Int)] w fun e w' => e = .returned v ∧ w' = w := by
  subst h; exact fun w => rquoted_any s a ha w hs
theorem rtag_is (s : ByteArray) (a : Nat) (ha : a < s.size) (hs : s.size ≤ 1048000) (t : Int) (h : tagAt s a = t) :
    ∀ w, Calls Tryd.prog 43 #[.string s, .int .i64 (a : Int)] w fun e w' => e = .returned (.int .i64 t) ∧ w' = w := by
  subst h; exact fun w => rtag_any s a ha w hs
theorem rdol_is (s : ByteArray) (a t : Nat) (hat : a < t) (ht : t ≤ s.size) (hs : s.size ≤ 1048000) (v : Value) (h : quoV (dolAt s a t) = v) :
    ∀ w, Calls Tryd.prog 44 #[.string s, .int .i64 (a : Int), .int .i64 (t : Int)] w fun e w' => e = .returned v ∧ w' = w := by
  subst h; exact fun w => rdollar_any s a t hat ht w hs
theorem rsign_is (c : UInt8) (z : Int) (hz : (c.toNat : Int) = z) (b : Bool) (h : decide (0 ≤ signI c) = b) : ∀ w, Calls Tryd.prog 45 #[.int .u8 z] w fun e w' => e = .returned (.bool b) ∧ w' = w := by
  subst hz h; exact rsign_any c
set_option maxHeartbeats 2000000 in
set_option maxRecDepth 100000 in
theorem one_num (s : ByteArray) (a : Nat) (ha : a < s.size) (w : World) (hs : s.size ≤ 1048000) (hl : letB s[a] = false) (hd : digB s[a] = true) (E : Nat) (hE : a + rowL numB (s.data.toList.drop a) = E) :
    Calls Tryd.prog 18 #[.string s, .int .i64 (a : Int)] w (OneP w ((4, s.extract a E, (a : Int)), E, 0)) := by
  have l0 : (0 : Int) ≤ (a : Int) := by omega
  have l1 : (a : Int) < (s.size : Int) := by omega
  obtain ⟨z, hz⟩ : ∃ z : Int, ((s[a]'ha).toNat : Int) = z := ⟨_, rfl⟩
  have HLET := Lib.hid (rlet_is z false (by first | rfl | (rw [← hz]; exact hl)))
  have HDIG := Lib.hid (rdig_is z true (by rw [← hz]; exact hd))
  have HROW := Lib.hid (rrow_is s a 4 (.inr (.inl rfl)) (by omega) (by omega) E hE)
  have e1 : (a : Int) ≤ (E : Int) := by omega
  have e2 : (E : Int) ≤ (s.size : Int) := by have := row_end s numB a (by omega); omega
  clear hl hd hE
  go_enter Tryd.func18, Tryd.ntmps18
  go_wp2_with (first
    | (go_at_call 38; (with_reducible refine (HLET.out _).mono ?_); rintro e w1 ⟨rfl, hw1⟩; obtain rfl := hw1.symm)
    | (go_at_call 41; (with_reducible refine (HDIG.out _).mono ?_); rintro e w1 ⟨rfl, hw1⟩; obtain rfl := hw1.symm)
    | (go_at_call 39; (with_reducible refine (HROW.out _).mono ?_); rintro e w1 ⟨rfl, hw1⟩; obtain rfl := hw1.symm))
  refine bodyPost_ret (v := .tuple #[.agg #[.int .i64 4, .string (s.extract a E), .int .i64 (a : Int)], .int .i64 ((E : Nat) : Int), .int .i64 0]) (by simp [results, Tryd.results18, go_sem]) rfl ?_
  exact ⟨rfl, (Below.refl _ _).alloc (Nat.le_refl _) _⟩
set_option maxHeartbeats 2000000 in
set_option maxRecDepth 100000 in
theorem one_quo34_no (s : ByteArray) (a : Nat) (ha : a < s.size) (w : World) (hs : s.size ≤ 1048000) (hc : s[a] = 34) (hq : quoAt s a 34 = none) :
    Calls Tryd.prog 18 #[.string s, .int .i64 (a : Int)] w (OneP w ((0, ⟨#[]⟩, 0), 0, 6)) := by
  have l0 : (0 : Int) ≤ (a : Int) := by omega
  have l1 : (a : Int) < (s.size : Int) := by omega
  have hci : ((s[a]'ha).toNat : Int) = 34 := by rw [hc]; rfl
  have HLET := Lib.hid (rlet_is 34 false (by decide))
  have HDIG := Lib.hid (rdig_is 34 false (by decide))
  have HQUO := Lib.hid (rquo_is s a ha hs (.tuple #[.string ⟨#[]⟩, .int .i64 (-1)]) (by rw [hc, hq]; rfl))
  clear hc hq
  go_enter Tryd.func18, Tryd.ntmps18
  go_wp2_with (first
    | (go_at_call 38; (with_reducible refine (HLET.out _).mono ?_); rintro e w1 ⟨rfl, hw1⟩; obtain rfl := hw1.symm)
    | (go_at_call 41; (with_reducible refine (HDIG.out _).mono ?_); rintro e w1 ⟨rfl, hw1⟩; obtain rfl := hw1.symm)
    | (go_at_call 42; (with_reducible refine (HQUO.out _).mono ?_); rintro e w1 ⟨rfl, hw1⟩; obtain rfl := hw1.symm))
  refine bodyPost_ret (v := .tuple #[.agg #[.int .i64 0, .string ⟨#[]⟩, .int .i64 0], .int .i64 ((0 : Nat) : Int), .int .i64 6]) (by simp [results, Tryd.results18, go_sem]) rfl ?_
  exact ⟨rfl, (Below.refl _ _).alloc (Nat.le_refl _) _⟩
set_option maxHeartbeats 2000000 in
set_option maxRecDepth 100000 in
theorem one_quo34_yes (s : ByteArray) (a : Nat) (ha : a < s.size) (w : World) (hs : s.size ≤ 1048000) (hc : s[a] = 34) (t : Tx) (n : Nat) (hq : quoAt s a 34 = some (t, n)) :
    Calls Tryd.prog 18 #[.string s, .int .i64 (a : Int)] w (OneP w ((2, bb t, (a : Int)), n, 0)) := by
  have l0 : (0 : Int) ≤ (a : Int) := by omega
  have l1 : (a : Int) < (s.size : Int) := by omega
  have hci : ((s[a]'ha).toNat : Int) = 34 := by rw [hc]; rfl
  have HLET := Lib.hid (rlet_is 34 false (by decide))
  have HDIG := Lib.hid (rdig_is 34 false (by decide))
  have HQUO := Lib.hid (rquo_is s a ha hs (.tuple #[.string (bb t), .int .i64 (n : Int)]) (by rw [hc, hq]; rfl))
  have hn : ¬ ((n : Int) < 0) := by omega
  clear hc hq
  go_enter Tryd.func18, Tryd.ntmps18
  go_wp2_with (first
    | (go_at_call 38; (with_reducible refine (HLET.out _).mono ?_); rintro e w1 ⟨rfl, hw1⟩; obtain rfl := hw1.symm)
    | (go_at_call 41; (with_reducible refine (HDIG.out _).mono ?_); rintro e w1 ⟨rfl, hw1⟩; obtain rfl := hw1.symm)
    | (go_at_call 42; (with_reducible refine (HQUO.out _).mono ?_); rintro e w1 ⟨rfl, hw1⟩; obtain rfl := hw1.symm))
  refine bodyPost_ret (v := .tuple #[.agg #[.int .i64 2, .string (bb t), .int .i64 (a : Int)], .int .i64 ((n : Nat) : Int), .int .i64 0]) (by simp [results, Tryd.results18, go_sem]) rfl ?_
  exact ⟨rfl, (Below.refl _ _).alloc (Nat.le_refl _) _⟩
set_option maxHeartbeats 2000000 in
set_option maxRecDepth 100000 in
theorem one_quo39_no (s : ByteArray) (a : Nat) (ha : a < s.size) (w : World) (hs : s.size ≤ 1048000) (hc : s[a] = 39) (hq : quoAt s a 39 = none) :
    Calls Tryd.prog 18 #[.string s, .int .i64 (a : Int)] w (OneP w ((0, ⟨#[]⟩, 0), 0, 6)) := by
  have l0 : (0 : Int) ≤ (a : Int) := by omega
  have l1 : (a : Int) < (s.size : Int) := by omega
  have hci : ((s[a]'ha).toNat : Int) = 39 := by rw [hc]; rfl
  have HLET := Lib.hid (rlet_is 39 false (by decide))
  have HDIG := Lib.hid (rdig_is 39 false (by decide))
  have HQUO := Lib.hid (rquo_is s a ha hs (.tuple #[.string ⟨#[]⟩, .int .i64 (-1)]) (by rw [hc, hq]; rfl))
  clear hc hq
  go_enter Tryd.func18, Tryd.ntmps18
  go_wp2_with (first
    | (go_at_call 38; (with_reducible refine (HLET.out _).mono ?_); rintro e w1 ⟨rfl, hw1⟩; obtain rfl := hw1.symm)
    | (go_at_call 41; (with_reducible refine (HDIG.out _).mono ?_); rintro e w1 ⟨rfl, hw1⟩; obtain rfl := hw1.symm)
    | (go_at_call 42; (with_reducible refine (HQUO.out _).mono ?_); rintro e w1 ⟨rfl, hw1⟩; obtain rfl := hw1.symm))
  refine bodyPost_ret (v := .tuple #[.agg #[.int .i64 0, .string ⟨#[]⟩, .int .i64 0], .int .i64 ((0 : Nat) : Int), .int .i64 6]) (by simp [results, Tryd.results18, go_sem]) rfl ?_
  exact ⟨rfl, (Below.refl _ _).alloc (Nat.le_refl _) _⟩
set_option maxHeartbeats 2000000 in
set_option maxRecDepth 100000 in
theorem one_quo39_yes (s : ByteArray) (a : Nat) (ha : a < s.size) (w : World) (hs : s.size ≤ 1048000) (hc : s[a] = 39) (t : Tx) (n : Nat) (hq : quoAt s a 39 = some (t, n)) :
    Calls Tryd.prog 18 #[.string s, .int .i64 (a : Int)] w (OneP w ((3, bb t, (a : Int)), n, 0)) := by
  have l0 : (0 : Int) ≤ (a : Int) := by omega
  have l1 : (a : Int) < (s.size : Int) := by omega
  have hci : ((s[a]'ha).toNat : Int) = 39 := by rw [hc]; rfl
  have HLET := Lib.hid (rlet_is 39 false (by decide))
  have HDIG := Lib.hid (rdig_is 39 false (by decide))
  have HQUO := Lib.hid (rquo_is s a ha hs (.tuple #[.string (bb t), .int .i64 (n : Int)]) (by rw [hc, hq]; rfl))
  have hn : ¬ ((n : Int) < 0) := by omega
  clear hc hq
  go_enter Tryd.func18, Tryd.ntmps18
  go_wp2_with (first
    | (go_at_call 38; (with_reducible refine (HLET.out _).mono ?_); rintro e w1 ⟨rfl, hw1⟩; obtain rfl := hw1.symm)
    | (go_at_call 41; (with_reducible refine (HDIG.out _).mono ?_); rintro e w1 ⟨rfl, hw1⟩; obtain rfl := hw1.symm)
    | (go_at_call 42; (with_reducible refine (HQUO.out _).mono ?_); rintro e w1 ⟨rfl, hw1⟩; obtain rfl := hw1.symm))
  refine bodyPost_ret (v := .tuple #[.agg #[.int .i64 3, .string (bb t), .int .i64 (a : Int)], .int .i64 ((n : Nat) : Int), .int .i64 0]) (by simp [results, Tryd.results18, go_sem]) rfl ?_
  exact ⟨rfl, (Below.refl _ _).alloc (Nat.le_refl _) _⟩
set_option maxHeartbeats 2000000 in
set_option maxRecDepth 100000 in
theorem one_dol_no (s : ByteArray) (a : Nat) (ha : a < s.size) (w : World) (hs : s.size ≤ 1048000) (hc : s[a] = 36) (t : Nat) (hat : a < t) (hts : t ≤ s.size) (ht : tagAt s a = (t : Int)) (hq : dolAt s a t = none) :
    Calls Tryd.prog 18 #[.string s, .int .i64 (a : Int)] w (OneP w ((0, ⟨#[]⟩, 0), 0, 6)) := by
  have l0 : (0 : Int) ≤ (a : Int) := by omega
  have l1 : (a : Int) < (s.size : Int) := by omega
  have hci : ((s[a]'ha).toNat : Int) = 36 := by rw [hc]; rfl
  have HLET := Lib.hid (rlet_is 36 false (by decide))
  have HDIG := Lib.hid (rdig_is 36 false (by decide))
  have HTAG := Lib.hid (rtag_is s a ha hs (t : Int) ht)
  have HDOL := Lib.hid (rdol_is s a t hat hts hs (.tuple #[.string ⟨#[]⟩, .int .i64 (-1)]) (by rw [hq]; rfl))
  have htp : (0 : Int) < (t : Int) := by omega
  clear hc hq ht hat hts
  go_enter Tryd.func18, Tryd.ntmps18
  go_wp2_with (first
    | (go_at_call 38; (with_reducible refine (HLET.out _).mono ?_); rintro e w1 ⟨rfl, hw1⟩; obtain rfl := hw1.symm)
    | (go_at_call 41; (with_reducible refine (HDIG.out _).mono ?_); rintro e w1 ⟨rfl, hw1⟩; obtain rfl := hw1.symm)
    | (go_at_call 43; (with_reducible refine (HTAG.out _).mono ?_); rintro e w1 ⟨rfl, hw1⟩; obtain rfl := hw1.symm)
    | (go_at_call 44; (with_reducible refine (HDOL.out _).mono ?_); rintro e w1 ⟨rfl, hw1⟩; obtain rfl := hw1.symm))
  refine bodyPost_ret (v := .tuple #[.agg #[.int .i64 0, .string ⟨#[]⟩, .int .i64 0], .int .i64 ((0 : Nat) : Int), .int .i64 6]) (by simp [results, Tryd.results18, go_sem]) rfl ?_
  exact ⟨rfl, (Below.refl _ _).alloc (Nat.le_refl _) _⟩
set_option maxHeartbeats 2000000 in
set_option maxRecDepth 100000 in
theorem one_dol_yes (s : ByteArray) (a : Nat) (ha : a < s.size) (w : World) (hs : s.size ≤ 1048000) (hc : s[a] = 36) (t : Nat) (hat : a < t) (hts : t ≤ s.size) (ht : tagAt s a = (t : Int)) (x : Tx) (n : Nat) (hq : dolAt s a t = some (x, n)) :
    Calls Tryd.prog 18 #[.string s, .int .i64 (a : Int)] w (OneP w ((3, bb x, (a : Int)), n, 0)) := by
  have l0 : (0 : Int) ≤ (a : Int) := by omega
  have l1 : (a : Int) < (s.size : Int) := by omega
  have hci : ((s[a]'ha).toNat : Int) = 36 := by rw [hc]; rfl
  have HLET := Lib.hid (rlet_is 36 false (by decide))
  have HDIG := Lib.hid (rdig_is 36 false (by decide))
  have HTAG := Lib.hid (rtag_is s a ha hs (t : Int) ht)
  have HDOL := Lib.hid (rdol_is s a t hat hts hs (.tuple #[.string (bb x), .int .i64 (n : Int)]) (by rw [hq]; rfl))
  have htp : (0 : Int) < (t : Int) := by omega
  have hn : ¬ ((n : Int) < 0) := by omega
  clear hc hq ht hat hts
  go_enter Tryd.func18, Tryd.ntmps18
  go_wp2_with (first
    | (go_at_call 38; (with_reducible refine (HLET.out _).mono ?_); rintro e w1 ⟨rfl, hw1⟩; obtain rfl := hw1.symm)
    | (go_at_call 41; (with_reducible refine (HDIG.out _).mono ?_); rintro e w1 ⟨rfl, hw1⟩; obtain rfl := hw1.symm)
    | (go_at_call 43; (with_reducible refine (HTAG.out _).mono ?_); rintro e w1 ⟨rfl, hw1⟩; obtain rfl := hw1.symm)
    | (go_at_call 44; (with_reducible refine (HDOL.out _).mono ?_); rintro e w1 ⟨rfl, hw1⟩; obtain rfl := hw1.symm))
  refine bodyPost_ret (v := .tuple #[.agg #[.int .i64 3, .string (bb x), .int .i64 (a : Int)], .int .i64 ((n : Nat) : Int), .int .i64 0]) (by simp [results, Tryd.results18, go_sem]) rfl ?_
  exact ⟨rfl, (Below.refl _ _).alloc (Nat.le_refl _) _⟩
set_option maxHeartbeats 2000000 in
set_option maxRecDepth 100000 in
theorem one_par (s : ByteArray) (a : Nat) (ha : a < s.size) (w : World) (hs : s.size ≤ 1048000) (hc : s[a] = 36) (ht : tagAt s a = -1) (E : Nat) (hE : a + 1 + rowL digB (s.data.toList.drop (a + 1)) = E) (hp : a + 1 < E) :
    Calls Tryd.prog 18 #[.string s, .int .i64 (a : Int)] w (OneP w ((5, s.extract a E, (a : Int)), E, 0)) := by
  have l0 : (0 : Int) ≤ (a : Int) := by omega
  have l1 : (a : Int) < (s.size : Int) := by omega
  have hci : ((s[a]'ha).toNat : Int) = 36 := by rw [hc]; rfl
  have HLET := Lib.hid (rlet_is 36 false (by decide))
  have HDIG := Lib.hid (rdig_is 36 false (by decide))
  obtain ⟨a1, ha1⟩ : ∃ a1, a + 1 = a1 := ⟨_, rfl⟩
  have cw : IntKind.i64.wrap ((a : Int) + 1) = (a1 : Int) := by rw [show (a : Int) + 1 = (a1 : Int) by omega]; exact IntWalk.i64_in _ (by omega)
  rw [ha1] at hE hp
  have HTAG := Lib.hid (rtag_is s a ha hs (-1) ht)
  have HROW := Lib.hid (rrow_is s a1 0 (.inr (.inr rfl)) (by omega) (by omega) E hE)
  have hp2 : (a1 : Int) < (E : Int) := by omega
  have e1 : (a : Int) ≤ (E : Int) := by omega
  have e2 : (E : Int) ≤ (s.size : Int) := by have := row_end s digB a1 (by omega); omega
  have HA1 := Lib.hid ha1
  clear hc ht hE hp ha1
  go_enter Tryd.func18, Tryd.ntmps18
  go_wp2_with (first
    | (go_at_call 38; (with_reducible refine (HLET.out _).mono ?_); rintro e w1 ⟨rfl, hw1⟩; obtain rfl := hw1.symm)
    | (go_at_call 41; (with_reducible refine (HDIG.out _).mono ?_); rintro e w1 ⟨rfl, hw1⟩; obtain rfl := hw1.symm)
    | (go_at_call 43; (with_reducible refine (HTAG.out _).mono ?_); rintro e w1 ⟨rfl, hw1⟩; obtain rfl := hw1.symm)
    | (go_at_call 39; (with_reducible refine (HROW.out _).mono ?_); rintro e w1 ⟨rfl, hw1⟩; obtain rfl := hw1.symm))
  refine bodyPost_ret (v := .tuple #[.agg #[.int .i64 5, .string (s.extract a E), .int .i64 (a : Int)], .int .i64 ((E : Nat) : Int), .int .i64 0]) (by simp [results, Tryd.results18, go_sem]) rfl ?_
  exact ⟨rfl, (Below.refl _ _).alloc (Nat.le_refl _) _⟩
set_option maxHeartbeats 2000000 in
set_option maxRecDepth 100000 in
theorem one_dol_none (s : ByteArray) (a : Nat) (ha : a < s.size) (w : World) (hs : s.size ≤ 1048000) (hc : s[a] = 36) (ht : tagAt s a = -1) (hp : rowL digB (s.data.toList.drop (a + 1)) = 0) :
    Calls Tryd.prog 18 #[.string s, .int .i64 (a : Int)] w (OneP w ((0, ⟨#[]⟩, 0), 0, 7)) := by
  have l0 : (0 : Int) ≤ (a : Int) := by omega
  have l1 : (a : Int) < (s.size : Int) := by omega
  have hci : ((s[a]'ha).toNat : Int) = 36 := by rw [hc]; rfl
  have HLET := Lib.hid (rlet_is 36 false (by decide))
  have HDIG := Lib.hid (rdig_is 36 false (by decide))
  obtain ⟨a1, ha1⟩ : ∃ a1, a + 1 = a1 := ⟨_, rfl⟩
  have cw : IntKind.i64.wrap ((a : Int) + 1) = (a1 : Int) := by rw [show (a : Int) + 1 = (a1 : Int) by omega]; exact IntWalk.i64_in _ (by omega)
  rw [ha1] at hp
  have HTAG := Lib.hid (rtag_is s a ha hs (-1) ht)
  have HROW := Lib.hid (rrow_is s a1 0 (.inr (.inr rfl)) (by omega) (by omega) a1 (by rw [show rowB 0 = digB from rfl, hp]; rfl))
  have HSIG := Lib.hid (rsign_is s[a] 36 hci false (by rw [hc]; decide))
  have hp2 : ¬ ((a1 : Int) < (a1 : Int)) := by omega
  have HA1 := Lib.hid ha1
  clear hc ht hp ha1
  go_enter Tryd.func18, Tryd.ntmps18
  go_wp2_with (first
    | (go_at_call 38; (with_reducible refine (HLET.out _).mono ?_); rintro e w1 ⟨rfl, hw1⟩; obtain rfl := hw1.symm)
    | (go_at_call 41; (with_reducible refine (HDIG.out _).mono ?_); rintro e w1 ⟨rfl, hw1⟩; obtain rfl := hw1.symm)
    | (go_at_call 43; (with_reducible refine (HTAG.out _).mono ?_); rintro e w1 ⟨rfl, hw1⟩; obtain rfl := hw1.symm)
    | (go_at_call 39; (with_reducible refine (HROW.out _).mono ?_); rintro e w1 ⟨rfl, hw1⟩; obtain rfl := hw1.symm)
    | (go_at_call 45; (with_reducible refine (HSIG.out _).mono ?_); rintro e w1 ⟨rfl, hw1⟩; obtain rfl := hw1.symm))
  refine bodyPost_ret (v := .tuple #[.agg #[.int .i64 0, .string ⟨#[]⟩, .int .i64 0], .int .i64 ((0 : Nat) : Int), .int .i64 7]) (by simp [results, Tryd.results18, go_sem]) rfl ?_
  exact ⟨rfl, (Below.refl _ _).alloc (Nat.le_refl _) _⟩
set_option maxHeartbeats 2000000 in
set_option maxRecDepth 100000 in
theorem one_sig_yes (s : ByteArray) (a : Nat) (ha : a < s.size) (w : World) (hs : s.size ≤ 1048000) (hl : letB s[a] = false) (hd : digB s[a] = false) (h34 : s[a] ≠ 34) (h39 : s[a] ≠ 39) (h36 : s[a] ≠ 36) (hg : 0 ≤ signI s[a]) (a1 : Nat) (ha1 : a + 1 = a1) :
    Calls Tryd.prog 18 #[.string s, .int .i64 (a : Int)] w (OneP w ((5, s.extract a a1, (a : Int)), a1, 0)) := by
  have l0 : (0 : Int) ≤ (a : Int) := by omega
  have l1 : (a : Int) < (s.size : Int) := by omega
  obtain ⟨z, hz⟩ : ∃ z : Int, ((s[a]'ha).toNat : Int) = z := ⟨_, rfl⟩
  have HLET := Lib.hid (rlet_is z false (by first | rfl | (rw [← hz]; exact hl)))
  have HDIG := Lib.hid (rdig_is z false (by first | rfl | (rw [← hz]; exact hd)))
  have e34 : (z == (34 : Int)) = false := by rw [beq_eq_false_iff_ne]; intro h; exact h34 (UInt8.toNat_inj.1 (by show _ = 34; omega))
  have e39 : (z == (39 : Int)) = false := by rw [beq_eq_false_iff_ne]; intro h; exact h39 (UInt8.toNat_inj.1 (by show _ = 39; omega))
  have e36 : (z == (36 : Int)) = false := by rw [beq_eq_false_iff_ne]; intro h; exact h36 (UInt8.toNat_inj.1 (by show _ = 36; omega))
  have cw : IntKind.i64.wrap ((a : Int) + 1) = (a1 : Int) := by rw [show (a : Int) + 1 = (a1 : Int) by omega]; exact IntWalk.i64_in _ (by omega)
  have HSIG := Lib.hid (rsign_is s[a] z hz true (decide_eq_true hg))
  have e1 : (a : Int) ≤ (a1 : Int) := by omega
  have e2 : (a1 : Int) ≤ (s.size : Int) := by omega
  have HA1 := Lib.hid ha1
  clear hl hd h34 h39 h36 hg ha1
  go_enter Tryd.func18, Tryd.ntmps18
  go_wp2_with (first
    | (go_at_call 38; (with_reducible refine (HLET.out _).mono ?_); rintro e w1 ⟨rfl, hw1⟩; obtain rfl := hw1.symm)
    | (go_at_call 41; (with_reducible refine (HDIG.out _).mono ?_); rintro e w1 ⟨rfl, hw1⟩; obtain rfl := hw1.symm)
    | (go_at_call 45; (with_reducible refine (HSIG.out _).mono ?_); rintro e w1 ⟨rfl, hw1⟩; obtain rfl := hw1.symm))
  refine bodyPost_ret (v := .tuple #[.agg #[.int .i64 5, .string (s.extract a a1), .int .i64 (a : Int)], .int .i64 ((a1 : Nat) : Int), .int .i64 0]) (by simp [results, Tryd.results18, go_sem]) rfl ?_
  exact ⟨rfl, (Below.refl _ _).alloc (Nat.le_refl _) _⟩
set_option maxHeartbeats 2000000 in
set_option maxRecDepth 100000 in
theorem one_sig_no (s : ByteArray) (a : Nat) (ha : a < s.size) (w : World) (hs : s.size ≤ 1048000) (hl : letB s[a] = false) (hd : digB s[a] = false) (h34 : s[a] ≠ 34) (h39 : s[a] ≠ 39) (h36 : s[a] ≠ 36) (hg : signI s[a] < 0) :
    Calls Tryd.prog 18 #[.string s, .int .i64 (a : Int)] w (OneP w ((0, ⟨#[]⟩, 0), 0, 7)) := by
  have l0 : (0 : Int) ≤ (a : Int) := by omega
  have l1 : (a : Int) < (s.size : Int) := by omega
  obtain ⟨z, hz⟩ : ∃ z : Int, ((s[a]'ha).toNat : Int) = z := ⟨_, rfl⟩
  have HLET := Lib.hid (rlet_is z false (by first | rfl | (rw [← hz]; exact hl)))
  have HDIG := Lib.hid (rdig_is z false (by first | rfl | (rw [← hz]; exact hd)))
  have e34 : (z == (34 : Int)) = false := by rw [beq_eq_false_iff_ne]; intro h; exact h34 (UInt8.toNat_inj.1 (by show _ = 34; omega))
  have e39 : (z == (39 : Int)) = false := by rw [beq_eq_false_iff_ne]; intro h; exact h39 (UInt8.toNat_inj.1 (by show _ = 39; omega))
  have e36 : (z == (36 : Int)) = false := by rw [beq_eq_false_iff_ne]; intro h; exact h36 (UInt8.toNat_inj.1 (by show _ = 36; omega))
  have HSIG := Lib.hid (rsign_is s[a] z hz false (decide_eq_false (by omega)))
  clear hl hd h34 h39 h36 hg
  go_enter Tryd.func18, Tryd.ntmps18
  go_wp2_with (first
    | (go_at_call 38; (with_reducible refine (HLET.out _).mono ?_); rintro e w1 ⟨rfl, hw1⟩; obtain rfl := hw1.symm)
    | (go_at_call 41; (with_reducible refine (HDIG.out _).mono ?_); rintro e w1 ⟨rfl, hw1⟩; obtain rfl := hw1.symm)
    | (go_at_call 45; (with_reducible refine (HSIG.out _).mono ?_); rintro e w1 ⟨rfl, hw1⟩; obtain rfl := hw1.symm))
  refine bodyPost_ret (v := .tuple #[.agg #[.int .i64 0, .string ⟨#[]⟩, .int .i64 0], .int .i64 ((0 : Nat) : Int), .int .i64 7]) (by simp [results, Tryd.results18, go_sem]) rfl ?_
  exact ⟨rfl, (Below.refl _ _).alloc (Nat.le_refl _) _⟩
end Go.Proofs.YtlmgggipkdmdfaaDoor
