/- What the document's own one answers at a digit, a quote, a dollar, a sign, and at what is none of these. Conditions: a text's length.
   What the document's own Split at layer 4 answers. Conditions: how many tokens.
   Scan of every text; what the law's known calls tell. Condition: the word of bytealg. -/
import Derived.Test.YtgnpkpboilnijaaGreatDoorG14
import Derived.Test.YtgnpkpboilnijaaGreatDoorG11
import Derived.Test.YtgnpkpboilnijaaGreatDoorG10
import Derived.KernelRfl
set_option linter.unusedSimpArgs false
set_option linter.unusedVariables false
namespace Go.Proofs.YtgnpkpboilnijaaGreatDoor
open Go.ChangeShapes Go.WideShapes Go.ChangeAt Go.RowKit
set_option maxRecDepth 100000
set_option linter.unusedVariables false
set_option linter.unusedSimpArgs false

theorem rlet_is (z : Int) (b : Bool) (h : letN z = b) : ∀ w, Calls Tryz.prog 47 #[.int .u8 z] w fun e w' => e = .returned (.bool b) ∧ w' = w := by
  subst h; exact rlet_any z
theorem rdig_is (z : Int) (b : Bool) (h : digN z = b) : ∀ w, Calls Tryz.prog 50 #[.int .u8 z] w fun e w' => e = .returned (.bool b) ∧ w' = w := by
  subst h; exact rdig_any z
theorem rrow_is (s : ByteArray) (a : Nat) (k : Int) (hk : k = 1 ∨ k = 4 ∨ k = 0) (hs : s.size ≤ 1048576) (ha : a ≤ s.size) (E : Nat) (hE : a + rowL (rowB k) (s.data.toList.drop a) = E) :
    ∀ w, Calls Tryz.prog 48 #[.string s, .int .i64 (a : Int), .int .i64 k] w fun e w' => e = .returned (.int .i64 (E : Int)) ∧ w' = w := by
  subst hE; exact fun w => rrow_any s a k hk w hs ha
theorem rquo_is (s : ByteArray) (a : Nat) (ha : a < s.size) (hs : s.size ≤ 1048000) (v : Value) (h : quoV (quoAt s a s[a]) = v) :
    ∀ w, Calls Tryz.prog 51 #[.string s, .int .i64 (a : Int)] w fun e w' => e = .returned v ∧ w' = w := by
  subst h; exact fun w => rquoted_any s a ha w hs
theorem rtag_is (s : ByteArray) (a : Nat) (ha : a < s.size) (hs : s.size ≤ 1048000) (t : Int) (h : tagAt s a = t) :
    ∀ w, Calls Tryz.prog 52 #[.string s, .int .i64 (a : Int)] w fun e w' => e = .returned (.int .i64 t) ∧ w' = w := by
  subst h; exact fun w => rtag_any s a ha w hs
theorem rdol_is (s : ByteArray) (a t : Nat) (hat : a < t) (ht : t ≤ s.size) (hs : s.size ≤ 1048000) (v : Value) (h : quoV (dolAt s a t) = v) :
    ∀ w, Calls Tryz.prog 53 #[.string s, .int .i64 (a : Int), .int .i64 (t : Int)] w fun e w' => e = .returned v ∧ w' = w := by
  subst h; exact fun w => rdollar_any s a t hat ht w hs
theorem rsign_is (c : UInt8) (z : Int) (hz : (c.toNat : Int) = z) (b : Bool) (h : decide (0 ≤ signI c) = b) : ∀ w, Calls Tryz.prog 54 #[.int .u8 z] w fun e w' => e = .returned (.bool b) ∧ w' = w := by
  subst hz h; exact rsign_any c
set_option maxHeartbeats 2000000 in
set_option maxRecDepth 100000 in
theorem one_num (s : ByteArray) (a : Nat) (ha : a < s.size) (w : World) (hs : s.size ≤ 1048000) (hl : letB s[a] = false) (hd : digB s[a] = true) (E : Nat) (hE : a + rowL numB (s.data.toList.drop a) = E) :
    Calls Tryz.prog 30 #[.string s, .int .i64 (a : Int)] w (OneP w ((4, s.extract a E, (a : Int)), E, 0)) := by
  have l0 : (0 : Int) ≤ (a : Int) := by omega
  have l1 : (a : Int) < (s.size : Int) := by omega
  obtain ⟨z, hz⟩ : ∃ z : Int, ((s[a]'ha).toNat : Int) = z := ⟨_, rfl⟩
  have HLET := Lib.hid (rlet_is z false (by first | rfl | (rw [← hz]; exact hl)))
  have HDIG := Lib.hid (rdig_is z true (by rw [← hz]; exact hd))
  have HROW := Lib.hid (rrow_is s a 4 (.inr (.inl rfl)) (by omega) (by omega) E hE)
  have e1 : (a : Int) ≤ (E : Int) := by omega
  have e2 : (E : Int) ≤ (s.size : Int) := by have := row_end s numB a (by omega); omega
  clear hl hd hE
  go_enter Tryz.func30, Tryz.ntmps30
  go_wp2_with (first
    | (go_at_call 47; (with_reducible refine (HLET.out _).mono ?_); rintro e w1 ⟨rfl, hw1⟩; obtain rfl := hw1.symm)
    | (go_at_call 50; (with_reducible refine (HDIG.out _).mono ?_); rintro e w1 ⟨rfl, hw1⟩; obtain rfl := hw1.symm)
    | (go_at_call 48; (with_reducible refine (HROW.out _).mono ?_); rintro e w1 ⟨rfl, hw1⟩; obtain rfl := hw1.symm))
  refine bodyPost_ret (v := .tuple #[.agg #[.int .i64 4, .string (s.extract a E), .int .i64 (a : Int)], .int .i64 ((E : Nat) : Int), .int .i64 0]) (by simp [results, Tryz.results30, go_sem]) rfl ?_
  exact ⟨rfl, (Below.refl _ _).alloc (Nat.le_refl _) _⟩
set_option maxHeartbeats 2000000 in
set_option maxRecDepth 100000 in
theorem one_quo34_no (s : ByteArray) (a : Nat) (ha : a < s.size) (w : World) (hs : s.size ≤ 1048000) (hc : s[a] = 34) (hq : quoAt s a 34 = none) :
    Calls Tryz.prog 30 #[.string s, .int .i64 (a : Int)] w (OneP w ((0, ⟨#[]⟩, 0), 0, 6)) := by
  have l0 : (0 : Int) ≤ (a : Int) := by omega
  have l1 : (a : Int) < (s.size : Int) := by omega
  have hci : ((s[a]'ha).toNat : Int) = 34 := by rw [hc]; rfl
  have HLET := Lib.hid (rlet_is 34 false (by decide))
  have HDIG := Lib.hid (rdig_is 34 false (by decide))
  have HQUO := Lib.hid (rquo_is s a ha hs (.tuple #[.string ⟨#[]⟩, .int .i64 (-1)]) (by rw [hc, hq]; rfl))
  clear hc hq
  go_enter Tryz.func30, Tryz.ntmps30
  go_wp2_with (first
    | (go_at_call 47; (with_reducible refine (HLET.out _).mono ?_); rintro e w1 ⟨rfl, hw1⟩; obtain rfl := hw1.symm)
    | (go_at_call 50; (with_reducible refine (HDIG.out _).mono ?_); rintro e w1 ⟨rfl, hw1⟩; obtain rfl := hw1.symm)
    | (go_at_call 51; (with_reducible refine (HQUO.out _).mono ?_); rintro e w1 ⟨rfl, hw1⟩; obtain rfl := hw1.symm))
  refine bodyPost_ret (v := .tuple #[.agg #[.int .i64 0, .string ⟨#[]⟩, .int .i64 0], .int .i64 ((0 : Nat) : Int), .int .i64 6]) (by simp [results, Tryz.results30, go_sem]) rfl ?_
  exact ⟨rfl, (Below.refl _ _).alloc (Nat.le_refl _) _⟩
set_option maxHeartbeats 2000000 in
set_option maxRecDepth 100000 in
theorem one_quo34_yes (s : ByteArray) (a : Nat) (ha : a < s.size) (w : World) (hs : s.size ≤ 1048000) (hc : s[a] = 34) (t : Tx) (n : Nat) (hq : quoAt s a 34 = some (t, n)) :
    Calls Tryz.prog 30 #[.string s, .int .i64 (a : Int)] w (OneP w ((2, bb t, (a : Int)), n, 0)) := by
  have l0 : (0 : Int) ≤ (a : Int) := by omega
  have l1 : (a : Int) < (s.size : Int) := by omega
  have hci : ((s[a]'ha).toNat : Int) = 34 := by rw [hc]; rfl
  have HLET := Lib.hid (rlet_is 34 false (by decide))
  have HDIG := Lib.hid (rdig_is 34 false (by decide))
  have HQUO := Lib.hid (rquo_is s a ha hs (.tuple #[.string (bb t), .int .i64 (n : Int)]) (by rw [hc, hq]; rfl))
  have hn : ¬ ((n : Int) < 0) := by omega
  clear hc hq
  go_enter Tryz.func30, Tryz.ntmps30
  go_wp2_with (first
    | (go_at_call 47; (with_reducible refine (HLET.out _).mono ?_); rintro e w1 ⟨rfl, hw1⟩; obtain rfl := hw1.symm)
    | (go_at_call 50; (with_reducible refine (HDIG.out _).mono ?_); rintro e w1 ⟨rfl, hw1⟩; obtain rfl := hw1.symm)
    | (go_at_call 51; (with_reducible refine (HQUO.out _).mono ?_); rintro e w1 ⟨rfl, hw1⟩; obtain rfl := hw1.symm))
  refine bodyPost_ret (v := .tuple #[.agg #[.int .i64 2, .string (bb t), .int .i64 (a : Int)], .int .i64 ((n : Nat) : Int), .int .i64 0]) (by simp [results, Tryz.results30, go_sem]) rfl ?_
  exact ⟨rfl, (Below.refl _ _).alloc (Nat.le_refl _) _⟩
set_option maxHeartbeats 2000000 in
set_option maxRecDepth 100000 in
theorem one_quo39_no (s : ByteArray) (a : Nat) (ha : a < s.size) (w : World) (hs : s.size ≤ 1048000) (hc : s[a] = 39) (hq : quoAt s a 39 = none) :
    Calls Tryz.prog 30 #[.string s, .int .i64 (a : Int)] w (OneP w ((0, ⟨#[]⟩, 0), 0, 6)) := by
  have l0 : (0 : Int) ≤ (a : Int) := by omega
  have l1 : (a : Int) < (s.size : Int) := by omega
  have hci : ((s[a]'ha).toNat : Int) = 39 := by rw [hc]; rfl
  have HLET := Lib.hid (rlet_is 39 false (by decide))
  have HDIG := Lib.hid (rdig_is 39 false (by decide))
  have HQUO := Lib.hid (rquo_is s a ha hs (.tuple #[.string ⟨#[]⟩, .int .i64 (-1)]) (by rw [hc, hq]; rfl))
  clear hc hq
  go_enter Tryz.func30, Tryz.ntmps30
  go_wp2_with (first
    | (go_at_call 47; (with_reducible refine (HLET.out _).mono ?_); rintro e w1 ⟨rfl, hw1⟩; obtain rfl := hw1.symm)
    | (go_at_call 50; (with_reducible refine (HDIG.out _).mono ?_); rintro e w1 ⟨rfl, hw1⟩; obtain rfl := hw1.symm)
    | (go_at_call 51; (with_reducible refine (HQUO.out _).mono ?_); rintro e w1 ⟨rfl, hw1⟩; obtain rfl := hw1.symm))
  refine bodyPost_ret (v := .tuple #[.agg #[.int .i64 0, .string ⟨#[]⟩, .int .i64 0], .int .i64 ((0 : Nat) : Int), .int .i64 6]) (by simp [results, Tryz.results30, go_sem]) rfl ?_
  exact ⟨rfl, (Below.refl _ _).alloc (Nat.le_refl _) _⟩
set_option maxHeartbeats 2000000 in
set_option maxRecDepth 100000 in
theorem one_quo39_yes (s : ByteArray) (a : Nat) (ha : a < s.size) (w : World) (hs : s.size ≤ 1048000) (hc : s[a] = 39) (t : Tx) (n : Nat) (hq : quoAt s a 39 = some (t, n)) :
    Calls Tryz.prog 30 #[.string s, .int .i64 (a : Int)] w (OneP w ((3, bb t, (a : Int)), n, 0)) := by
  have l0 : (0 : Int) ≤ (a : Int) := by omega
  have l1 : (a : Int) < (s.size : Int) := by omega
  have hci : ((s[a]'ha).toNat : Int) = 39 := by rw [hc]; rfl
  have HLET := Lib.hid (rlet_is 39 false (by decide))
  have HDIG := Lib.hid (rdig_is 39 false (by decide))
  have HQUO := Lib.hid (rquo_is s a ha hs (.tuple #[.string (bb t), .int .i64 (n : Int)]) (by rw [hc, hq]; rfl))
  have hn : ¬ ((n : Int) < 0) := by omega
  clear hc hq
  go_enter Tryz.func30, Tryz.ntmps30
  go_wp2_with (first
    | (go_at_call 47; (with_reducible refine (HLET.out _).mono ?_); rintro e w1 ⟨rfl, hw1⟩; obtain rfl := hw1.symm)
    | (go_at_call 50; (with_reducible refine (HDIG.out _).mono ?_); rintro e w1 ⟨rfl, hw1⟩; obtain rfl := hw1.symm)
    | (go_at_call 51; (with_reducible refine (HQUO.out _).mono ?_); rintro e w1 ⟨rfl, hw1⟩; obtain rfl := hw1.symm))
  refine bodyPost_ret (v := .tuple #[.agg #[.int .i64 3, .string (bb t), .int .i64 (a : Int)], .int .i64 ((n : Nat) : Int), .int .i64 0]) (by simp [results, Tryz.results30, go_sem]) rfl ?_
  exact ⟨rfl, (Below.refl _ _).alloc (Nat.le_refl _) _⟩
set_option maxHeartbeats 2000000 in
set_option maxRecDepth 100000 in
theorem one_dol_no (s : ByteArray) (a : Nat) (ha : a < s.size) (w : World) (hs : s.size ≤ 1048000) (hc : s[a] = 36) (t : Nat) (hat : a < t) (hts : t ≤ s.size) (ht : tagAt s a = (t : Int)) (hq : dolAt s a t = none) :
    Calls Tryz.prog 30 #[.string s, .int .i64 (a : Int)] w (OneP w ((0, ⟨#[]⟩, 0), 0, 6)) := by
  have l0 : (0 : Int) ≤ (a : Int) := by omega
  have l1 : (a : Int) < (s.size : Int) := by omega
  have hci : ((s[a]'ha).toNat : Int) = 36 := by rw [hc]; rfl
  have HLET := Lib.hid (rlet_is 36 false (by decide))
  have HDIG := Lib.hid (rdig_is 36 false (by decide))
  have HTAG := Lib.hid (rtag_is s a ha hs (t : Int) ht)
  have HDOL := Lib.hid (rdol_is s a t hat hts hs (.tuple #[.string ⟨#[]⟩, .int .i64 (-1)]) (by rw [hq]; rfl))
  have htp : (0 : Int) < (t : Int) := by omega
  clear hc hq ht hat hts
  go_enter Tryz.func30, Tryz.ntmps30
  go_wp2_with (first
    | (go_at_call 47; (with_reducible refine (HLET.out _).mono ?_); rintro e w1 ⟨rfl, hw1⟩; obtain rfl := hw1.symm)
    | (go_at_call 50; (with_reducible refine (HDIG.out _).mono ?_); rintro e w1 ⟨rfl, hw1⟩; obtain rfl := hw1.symm)
    | (go_at_call 52; (with_reducible refine (HTAG.out _).mono ?_); rintro e w1 ⟨rfl, hw1⟩; obtain rfl := hw1.symm)
    | (go_at_call 53; (with_reducible refine (HDOL.out _).mono ?_); rintro e w1 ⟨rfl, hw1⟩; obtain rfl := hw1.symm))
  refine bodyPost_ret (v := .tuple #[.agg #[.int .i64 0, .string ⟨#[]⟩, .int .i64 0], .int .i64 ((0 : Nat) : Int), .int .i64 6]) (by simp [results, Tryz.results30, go_sem]) rfl ?_
  exact ⟨rfl, (Below.refl _ _).alloc (Nat.le_refl _) _⟩
set_option maxHeartbeats 2000000 in
set_option maxRecDepth 100000 in
theorem one_dol_yes (s : ByteArray) (a : Nat) (ha : a < s.size) (w : World) (hs : s.size ≤ 1048000) (hc : s[a] = 36) (t : Nat) (hat : a < t) (hts : t ≤ s.size) (ht : tagAt s a = (t : Int)) (x : Tx) (n : Nat) (hq : dolAt s a t = some (x, n)) :
    Calls Tryz.prog 30 #[.string s, .int .i64 (a : Int)] w (OneP w ((3, bb x, (a : Int)), n, 0)) := by
  have l0 : (0 : Int) ≤ (a : Int) := by omega
  have l1 : (a : Int) < (s.size : Int) := by omega
  have hci : ((s[a]'ha).toNat : Int) = 36 := by rw [hc]; rfl
  have HLET := Lib.hid (rlet_is 36 false (by decide))
  have HDIG := Lib.hid (rdig_is 36 false (by decide))
  have HTAG := Lib.hid (rtag_is s a ha hs (t : Int) ht)
  have HDOL := Lib.hid (rdol_is s a t hat hts hs (.tuple #[.string (bb x), .int .i64 (n : Int)]) (by rw [hq]; rfl))
  have htp : (0 : Int) < (t : Int) := by omega
  have hn : ¬ ((n : Int) < 0) := by omega
  clear hc hq ht hat hts
  go_enter Tryz.func30, Tryz.ntmps30
  go_wp2_with (first
    | (go_at_call 47; (with_reducible refine (HLET.out _).mono ?_); rintro e w1 ⟨rfl, hw1⟩; obtain rfl := hw1.symm)
    | (go_at_call 50; (with_reducible refine (HDIG.out _).mono ?_); rintro e w1 ⟨rfl, hw1⟩; obtain rfl := hw1.symm)
    | (go_at_call 52; (with_reducible refine (HTAG.out _).mono ?_); rintro e w1 ⟨rfl, hw1⟩; obtain rfl := hw1.symm)
    | (go_at_call 53; (with_reducible refine (HDOL.out _).mono ?_); rintro e w1 ⟨rfl, hw1⟩; obtain rfl := hw1.symm))
  refine bodyPost_ret (v := .tuple #[.agg #[.int .i64 3, .string (bb x), .int .i64 (a : Int)], .int .i64 ((n : Nat) : Int), .int .i64 0]) (by simp [results, Tryz.results30, go_sem]) rfl ?_
  exact ⟨rfl, (Below.refl _ _).alloc (Nat.le_refl _) _⟩
set_option maxHeartbeats 2000000 in
set_option maxRecDepth 100000 in
theorem one_par (s : ByteArray) (a : Nat) (ha : a < s.size) (w : World) (hs : s.size ≤ 1048000) (hc : s[a] = 36) (ht : tagAt s a = -1) (E : Nat) (hE : a + 1 + rowL digB (s.data.toList.drop (a + 1)) = E) (hp : a + 1 < E) :
    Calls Tryz.prog 30 #[.string s, .int .i64 (a : Int)] w (OneP w ((5, s.extract a E, (a : Int)), E, 0)) := by
  have l0 : (0 : Int) ≤ (a : Int) := by omega
  have l1 : (a : Int) < (s.size : Int) := by omega
  have hci : ((s[a]'ha).toNat : Int) = 36 := by rw [hc]; rfl
  have HLET := Lib.hid (rlet_is 36 false (by decide))
  have HDIG := Lib.hid (rdig_is 36 false (by decide))
  obtain ⟨a1, ha1⟩ : ∃ a1, a + 1 = a1 := ⟨_, rfl⟩
  have cw : IntKind.i64.wrap ((a : Int) + 1) = (a1 : Int) := by rw [show (a : Int) + 1 = (a1 : Int) by omega]; exact IntWalk.i64_in _ (by omega)
  rw [ha1] at hE hp
  have HTAG := Lib.hid (rtag_is s a ha hs (-1) ht)
  have HROW := Lib.hid (rrow_is s a1 0 (.inr (.inr rfl)) (by omega) (by omega) E hE)
  have hp2 : (a1 : Int) < (E : Int) := by omega
  have e1 : (a : Int) ≤ (E : Int) := by omega
  have e2 : (E : Int) ≤ (s.size : Int) := by have := row_end s digB a1 (by omega); omega
  have HA1 := Lib.hid ha1
  clear hc ht hE hp ha1
  go_enter Tryz.func30, Tryz.ntmps30
  go_wp2_with (first
    | (go_at_call 47; (with_reducible refine (HLET.out _).mono ?_); rintro e w1 ⟨rfl, hw1⟩; obtain rfl := hw1.symm)
    | (go_at_call 50; (with_reducible refine (HDIG.out _).mono ?_); rintro e w1 ⟨rfl, hw1⟩; obtain rfl := hw1.symm)
    | (go_at_call 52; (with_reducible refine (HTAG.out _).mono ?_); rintro e w1 ⟨rfl, hw1⟩; obtain rfl := hw1.symm)
    | (go_at_call 48; (with_reducible refine (HROW.out _).mono ?_); rintro e w1 ⟨rfl, hw1⟩; obtain rfl := hw1.symm))
  refine bodyPost_ret (v := .tuple #[.agg #[.int .i64 5, .string (s.extract a E), .int .i64 (a : Int)], .int .i64 ((E : Nat) : Int), .int .i64 0]) (by simp [results, Tryz.results30, go_sem]) rfl ?_
  exact ⟨rfl, (Below.refl _ _).alloc (Nat.le_refl _) _⟩
set_option maxHeartbeats 2000000 in
set_option maxRecDepth 100000 in
theorem one_dol_none (s : ByteArray) (a : Nat) (ha : a < s.size) (w : World) (hs : s.size ≤ 1048000) (hc : s[a] = 36) (ht : tagAt s a = -1) (hp : rowL digB (s.data.toList.drop (a + 1)) = 0) :
    Calls Tryz.prog 30 #[.string s, .int .i64 (a : Int)] w (OneP w ((0, ⟨#[]⟩, 0), 0, 7)) := by
  have l0 : (0 : Int) ≤ (a : Int) := by omega
  have l1 : (a : Int) < (s.size : Int) := by omega
  have hci : ((s[a]'ha).toNat : Int) = 36 := by rw [hc]; rfl
  have HLET := Lib.hid (rlet_is 36 false (by decide))
  have HDIG := Lib.hid (rdig_is 36 false (by decide))
  obtain ⟨a1, ha1⟩ : ∃ a1, a + 1 = a1 := ⟨_, rfl⟩
  have cw : IntKind.i64.wrap ((a : Int) + 1) = (a1 : Int) := by rw [show (a : Int) + 1 = (a1 : Int) by omega]; exact IntWalk.i64_in _ (by omega)
  rw [ha1] at hp
  have HTAG := Lib.hid (rtag_is s a ha hs (-1) ht)
  have HROW := Lib.hid (rrow_is s a1 0 (.inr (.inr rfl)) (by omega) (by omega) a1 (by rw [show rowB 0 = digB from rfl, hp]; rfl))
  have HSIG := Lib.hid (rsign_is s[a] 36 hci false (by rw [hc]; decide))
  have hp2 : ¬ ((a1 : Int) < (a1 : Int)) := by omega
  have HA1 := Lib.hid ha1
  clear hc ht hp ha1
  go_enter Tryz.func30, Tryz.ntmps30
  go_wp2_with (first
    | (go_at_call 47; (with_reducible refine (HLET.out _).mono ?_); rintro e w1 ⟨rfl, hw1⟩; obtain rfl := hw1.symm)
    | (go_at_call 50; (with_reducible refine (HDIG.out _).mono ?_); rintro e w1 ⟨rfl, hw1⟩; obtain rfl := hw1.symm)
    | (go_at_call 52; (with_reducible refine (HTAG.out _).mono ?_); rintro e w1 ⟨rfl, hw1⟩; obtain rfl := hw1.symm)
    | (go_at_call 48; (with_reducible refine (HROW.out _).mono ?_); rintro e w1 ⟨rfl, hw1⟩; obtain rfl := hw1.symm)
    | (go_at_call 54; (with_reducible refine (HSIG.out _).mono ?_); rintro e w1 ⟨rfl, hw1⟩; obtain rfl := hw1.symm))
  refine bodyPost_ret (v := .tuple #[.agg #[.int .i64 0, .string ⟨#[]⟩, .int .i64 0], .int .i64 ((0 : Nat) : Int), .int .i64 7]) (by simp [results, Tryz.results30, go_sem]) rfl ?_
  exact ⟨rfl, (Below.refl _ _).alloc (Nat.le_refl _) _⟩
set_option maxHeartbeats 2000000 in
set_option maxRecDepth 100000 in
theorem one_sig_yes (s : ByteArray) (a : Nat) (ha : a < s.size) (w : World) (hs : s.size ≤ 1048000) (hl : letB s[a] = false) (hd : digB s[a] = false) (h34 : s[a] ≠ 34) (h39 : s[a] ≠ 39) (h36 : s[a] ≠ 36) (hg : 0 ≤ signI s[a]) (a1 : Nat) (ha1 : a + 1 = a1) :
    Calls Tryz.prog 30 #[.string s, .int .i64 (a : Int)] w (OneP w ((5, s.extract a a1, (a : Int)), a1, 0)) := by
  have l0 : (0 : Int) ≤ (a : Int) := by omega
  have l1 : (a : Int) < (s.size : Int) := by omega
  obtain ⟨z, hz⟩ : ∃ z : Int, ((s[a]'ha).toNat : Int) = z := ⟨_, rfl⟩
  have HLET := Lib.hid (rlet_is z false (by first | rfl | (rw [← hz]; exact hl)))
  have HDIG := Lib.hid (rdig_is z false (by first | rfl | (rw [← hz]; exact hd)))
  have e34 : (z == (34 : Int)) = false := by rw [beq_eq_false_iff_ne]; intro h; exact h34 (UInt8.toNat_inj.1 (by show _ = 34; omega))
  have e39 : (z == (39 : Int)) = false := by rw [beq_eq_false_iff_ne]; intro h; exact h39 (UInt8.toNat_inj.1 (by show _ = 39; omega))
  have e36 : (z == (36 : Int)) = false := by rw [beq_eq_false_iff_ne]; intro h; exact h36 (UInt8.toNat_inj.1 (by show _ = 36; omega))
  have cw : IntKind.i64.wrap ((a : Int) + 1) = (a1 : Int) := by rw [show (a : Int) + 1 = (a1 : Int) by omega]; exact IntWalk.i64_in _ (by omega)
  have HSIG := Lib.hid (rsign_is s[a] z hz true (decide_eq_true hg))
  have e1 : (a : Int) ≤ (a1 : Int) := by omega
  have e2 : (a1 : Int) ≤ (s.size : Int) := by omega
  have HA1 := Lib.hid ha1
  clear hl hd h34 h39 h36 hg ha1
  go_enter Tryz.func30, Tryz.ntmps30
  go_wp2_with (first
    | (go_at_call 47; (with_reducible refine (HLET.out _).mono ?_); rintro e w1 ⟨rfl, hw1⟩; obtain rfl := hw1.symm)
    | (go_at_call 50; (with_reducible refine (HDIG.out _).mono ?_); rintro e w1 ⟨rfl, hw1⟩; obtain rfl := hw1.symm)
    | (go_at_call 54; (with_reducible refine (HSIG.out _).mono ?_); rintro e w1 ⟨rfl, hw1⟩; obtain rfl := hw1.symm))
  refine bodyPost_ret (v := .tuple #[.agg #[.int .i64 5, .string (s.extract a a1), .int .i64 (a : Int)], .int .i64 ((a1 : Nat) : Int), .int .i64 0]) (by simp [results, Tryz.results30, go_sem]) rfl ?_
  exact ⟨rfl, (Below.refl _ _).alloc (Nat.le_refl _) _⟩
set_option maxHeartbeats 2000000 in
set_option maxRecDepth 100000 in
theorem one_sig_no (s : ByteArray) (a : Nat) (ha : a < s.size) (w : World) (hs : s.size ≤ 1048000) (hl : letB s[a] = false) (hd : digB s[a] = false) (h34 : s[a] ≠ 34) (h39 : s[a] ≠ 39) (h36 : s[a] ≠ 36) (hg : signI s[a] < 0) :
    Calls Tryz.prog 30 #[.string s, .int .i64 (a : Int)] w (OneP w ((0, ⟨#[]⟩, 0), 0, 7)) := by
  have l0 : (0 : Int) ≤ (a : Int) := by omega
  have l1 : (a : Int) < (s.size : Int) := by omega
  obtain ⟨z, hz⟩ : ∃ z : Int, ((s[a]'ha).toNat : Int) = z := ⟨_, rfl⟩
  have HLET := Lib.hid (rlet_is z false (by first | rfl | (rw [← hz]; exact hl)))
  have HDIG := Lib.hid (rdig_is z false (by first | rfl | (rw [← hz]; exact hd)))
  have e34 : (z == (34 : Int)) = false := by rw [beq_eq_false_iff_ne]; intro h; exact h34 (UInt8.toNat_inj.1 (by show _ = 34; omega))
  have e39 : (z == (39 : Int)) = false := by rw [beq_eq_false_iff_ne]; intro h; exact h39 (UInt8.toNat_inj.1 (by show _ = 39; omega))
  have e36 : (z == (36 : Int)) = false := by rw [beq_eq_false_iff_ne]; intro h; exact h36 (UInt8.toNat_inj.1 (by show _ = 36; omega))
  have HSIG := Lib.hid (rsign_is s[a] z hz false (decide_eq_false (by omega)))
  clear hl hd h34 h39 h36 hg
  go_enter Tryz.func30, Tryz.ntmps30
  go_wp2_with (first
    | (go_at_call 47; (with_reducible refine (HLET.out _).mono ?_); rintro e w1 ⟨rfl, hw1⟩; obtain rfl := hw1.symm)
    | (go_at_call 50; (with_reducible refine (HDIG.out _).mono ?_); rintro e w1 ⟨rfl, hw1⟩; obtain rfl := hw1.symm)
    | (go_at_call 54; (with_reducible refine (HSIG.out _).mono ?_); rintro e w1 ⟨rfl, hw1⟩; obtain rfl := hw1.symm))
  refine bodyPost_ret (v := .tuple #[.agg #[.int .i64 0, .string ⟨#[]⟩, .int .i64 0], .int .i64 ((0 : Nat) : Int), .int .i64 7]) (by simp [results, Tryz.results30, go_sem]) rfl ?_
  exact ⟨rfl, (Below.refl _ _).alloc (Nat.le_refl _) _⟩
end Go.Proofs.YtgnpkpboilnijaaGreatDoor
namespace Go.Proofs.YtgnpkpboilnijaaGreatDoor
open Go.ChangeShapes Go.WideShapes Go.ChangeAt Go.RowKit
set_option maxRecDepth 100000
set_option linter.unusedVariables false
set_option linter.unusedSimpArgs false

theorem SpI.reset {w0 w : World} {als : List (List Tok)} {va vo : Value} (h : SpI w0 als [] va vo w) : SpI w0 als [] va (.slice none 0 0) w := by
  obtain ⟨vs, h1, h2, h3⟩ := h.all
  refine ⟨h.bel, ⟨vs, h1, h2, fun i u l hu hl => ⟨(h3 i u l hu hl).1, ?_⟩⟩, World.ownsRow_nil _ _ _ _⟩
  cases e : u.ownBlock with
  | none => exact .inl rfl
  | some g => right; simp [Value.ownBlock]
theorem two_alloc (w : World) (n : Nat) (vo : Value) (hn : w.heap.size = n) : ∀ (j : Nat) (u : Value), [vo][j]? = some u → (w.alloc (.cells #[vo] 22)).cell? ((⟨n, 0, none⟩ : Addr).add j) = some u := by
  subst hn
  intro j u hj
  match j, hj with
  | 0, hj => simp at hj; subst hj; simp [Addr.add]
end Go.Proofs.YtgnpkpboilnijaaGreatDoor
namespace Go.Proofs.YtgnpkpboilnijaaGreatDoor
open Go.ChangeShapes Go.WideShapes Go.ChangeAt Go.RowKit
set_option maxRecDepth 100000
set_option linter.unusedVariables false
set_option linter.unusedSimpArgs false

/-- what Scan answers -/
def scanA (s : ByteArray) : List Tok × Int × Int := if 2000 < s.size then ([], 2, 2000) else scanN (s.size + 1) s 0 []
theorem scan_any (s : ByteArray) (m : Int) (w : World) (hm : Wd m w) :
    Calls Tryz.prog 19 #[.string s] w (ScanP w (scanA s)) := by
  by_cases h : 2000 < s.size
  · have e : scanA s = ([], 2, 2000) := if_pos h
    rw [e]
    have hl : (2000 : Int) < (s.size : Int) := by omega
    clear e
    go_enter Tryz.func19, Tryz.ntmps19
    go_wp2
    go_step3
    go_wp2
    try rw [Exit.noGoto_ret]
    go_ret3
    exact ⟨_, rfl, World.ownsRow_nil _ _ _ _, Below.refl _ _⟩
  · exact scan_small s m w (by omega) hm _ (if_neg h)
abbrev kn1 : ByteArray := ⟨#[83, 69, 76, 69, 67, 84, 32, 97, 36, 49, 32, 70, 82, 79, 77, 32, 34, 84, 34, 34, 120, 34, 32, 45, 45, 32, 120, 10, 44, 32, 36, 120, 36, 105, 116, 39, 115, 36, 120, 36, 32, 47, 42, 32, 97, 32, 47, 42, 32, 98, 32, 42, 47, 32, 99, 32, 42, 47, 32, 36, 49]⟩
abbrev kn2 : ByteArray := ⟨#[97, 32, 39, 98, 39, 39]⟩
abbrev kn3 : ByteArray := ⟨#[97, 32, 92]⟩
def knL : List Tok := [(1, ⟨#[115, 101, 108, 101, 99, 116]⟩, 0), (1, ⟨#[97, 36, 49]⟩, 7), (1, ⟨#[102, 114, 111, 109]⟩, 11), (2, ⟨#[84, 34, 120]⟩, 16), (5, ⟨#[44]⟩, 28), (3, ⟨#[105, 116, 39, 115]⟩, 30), (5, ⟨#[36, 49]⟩, 59)]
def knW : List Tok := [(1, ⟨#[115, 101, 108, 101, 99, 116]⟩, 0), (1, ⟨#[97, 36, 49]⟩, 0), (1, ⟨#[102, 114, 111, 109]⟩, 0), (2, ⟨#[84, 34, 120]⟩, 0), (5, ⟨#[44]⟩, 0), (3, ⟨#[105, 116, 39, 115]⟩, 0), (5, ⟨#[36, 49]⟩, 0)]
theorem kn1_eq : scanA kn1 = (knL, 0, 0) := by kernel_rfl
theorem kn2_eq : scanA kn2 = ([], 6, 2) := by kernel_rfl
theorem kn3_eq : scanA kn3 = ([], 7, 2) := by kernel_rfl
theorem kns_eq : bb (showL knL) = ⟨#[115, 101, 108, 101, 99, 116, 32, 97, 36, 49, 32, 102, 114, 111, 109, 32, 34, 84, 34, 34, 120, 34, 32, 44, 32, 39, 105, 116, 39, 39, 115, 39, 32, 36, 49]⟩ := by kernel_rfl
theorem kn_split : splitL [(5, ⟨#[59]⟩, 0), (1, ⟨#[97]⟩, 0)] = [[(1, ⟨#[97]⟩, 0)]] := by kernel_rfl
theorem kn_alike : Alike false knL knW := by
  refine ⟨rfl, ?_⟩
  have h : ((List.range 7).all fun i => decide ((knL[i]?).map (fun x => (x.1, x.2.1.data.toList)) = (knW[i]?).map (fun x => (x.1, x.2.1.data.toList)))) = true := by kernel_rfl
  intro i x y hx hy
  have hlt : i < 7 := (List.getElem?_eq_some_iff.1 hx).1
  have := of_decide_eq_true (List.all_eq_true.1 h i (List.mem_range.2 hlt))
  rw [hx, hy] at this
  simp only [Option.map_some, Option.some.injEq, Prod.mk.injEq] at this
  refine ⟨this.1, ?_, fun h => by cases h⟩
  apply ByteArray.ext
  exact Array.ext' this.2
theorem kn_at : ∃ t, knL[3]? = some t ∧ t.2.2 = 16 := ⟨_, rfl, rfl⟩
theorem kn_small : ∀ t ∈ knL, t.2.1.size ≤ 65536 := by
  have h : (knL.all fun t => decide (t.2.1.size ≤ 65536)) = true := by kernel_rfl
  exact fun t ht => of_decide_eq_true (List.all_eq_true.1 h t ht)
end Go.Proofs.YtgnpkpboilnijaaGreatDoor
