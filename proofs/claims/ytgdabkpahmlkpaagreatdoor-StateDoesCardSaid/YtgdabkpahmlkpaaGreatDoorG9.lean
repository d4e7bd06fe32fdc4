/- Lzh Lzi Lxz Lyb Lzj Lzk Lzl Lzm Lzn Lzp Lyc Lzq Lzr Lzs Lzt Nma Nmp Nmb Nmc Nmd Nme Nmf Nmg Nmh Nmi Sea Seb -/
import Derived.Test.YtgdabkpahmlkpaaGreatDoorG8
import Derived.KernelRfl
import Derived.WalkMore
import Derived.BigQuiet
import Derived.RegionTactic
import Derived.Lib.SliceRun
import Derived.Test.YtgdabkpahmlkpaaGreatDoorG7
set_option linter.unusedSimpArgs false
set_option linter.unusedVariables false
namespace Go.Proofs.YtgdabkpahmlkpaaGreatDoor
open Go.ChangeShapes Go.WideShapes Go.ChangeAt Go.RowKit
set_option maxRecDepth 100000
set_option linter.unusedVariables false
set_option linter.unusedSimpArgs false

def OneP (w : World) (r : Tok × Nat × Int) (e : Ending) (w' : World) : Prop :=
 e = .returned (.tuple #[.agg #[.int .i64 r.1.1,.string r.1.2.1,.int .i64 r.1.2.2],.int .i64 (r.2.1 : Int),.int .i64 r.2.2]) ∧ Below w.heap.size w w'
theorem Own3.tok (w : World) : Own3 w (w.alloc (.cells #[.int .i64 0,.string ⟨#[]⟩,.int .i64 0] 118)) :=
 ⟨(Below.refl _ _).alloc (Nat.le_refl _) _,by simp,by simp [go_sem],by simp [go_sem],by simp [go_sem],by simp [go_sem],by simp [go_sem],by simp [go_sem]⟩
theorem row_end (s : ByteArray) (p : UInt8 → Bool) (a : Nat) (ha : a ≤ s.size) : a + rowL p (s.data.toList.drop a) ≤ s.size := by
 have := rowL_le p (s.data.toList.drop a)
 rw [List.length_drop] at this
 have e : s.size = s.data.toList.length := rfl
 omega
set_option maxHeartbeats 1000000 in
set_option maxRecDepth 100000 in
theorem one_word (s : ByteArray) (a : Nat) (ha : a < s.size) (w : World) (hs : s.size ≤ 1048000) (hl : letB s[a] = true) (E : Nat) (hE : a + rowL wordB (s.data.toList.drop a) = E) :
  Calls Tryz.prog 78 #[.string s,.int .i64 (a : Int)] w (OneP w ((1,smallA (s.extract a E),(a : Int)),E,0)) := by
 have l0 : (0 : Int) ≤ (a : Int) := by omega
 have l1 : (a : Int) < (s.size : Int) := by omega
 obtain ⟨z,hz⟩ : ∃ z : Int,((s[a]'ha).toNat : Int) = z := ⟨_,rfl⟩
 have hlet : ∀ w,Calls Tryz.prog 107 #[.int .u8 z] w fun e w' => e = .returned (.bool true) ∧ w' = w := by
  intro w
  have := rlet_any z w
  rw [show letN z = true by rw [← hz]; exact hl] at this
  exact this
 have hrow : ∀ w,Calls Tryz.prog 108 #[.string s,.int .i64 (a : Int),.int .i64 1] w fun e w' => e = .returned (.int .i64 (E : Int)) ∧ w' = w := by
  intro w
  have := rrow_any s a 1 (.inl rfl) w (by omega) (by omega)
  rw [show rowB 1 = wordB from rfl,hE] at this
  exact this
 have e1 : (a : Int) ≤ (E : Int) := by omega
 have e2 : (E : Int) ≤ (s.size : Int) := by have := row_end s wordB a (by omega); omega
 have hsm := fun w => rsmall_any (s.extract a E) (by rw [ByteArray.size_extract]; omega) w
 have HLET := Lib.hid hlet
 have HROW := Lib.hid hrow
 have HSM := Lib.hid hsm
 have HO := Lib.hid (Own3.tok w)
 clear hlet hrow hsm hE hl
 go_enter Tryz.func78,Tryz.ntmps78
 go_wp2_with (first
  | (go_at_call 107; (with_reducible refine (HLET.out _).mono ?_); rintro e w1 ⟨rfl,hw1⟩; obtain rfl := hw1.symm)
  | (go_at_call 108; (with_reducible refine (HROW.out _).mono ?_); rintro e w1 ⟨rfl,hw1⟩; obtain rfl := hw1.symm)
  | (go_at_call 109; (with_reducible refine (HSM.out _).mono ?_); rintro e w2 ⟨rfl,hb2⟩; have F1 := HO.out.step hb2; obtain ⟨hB,hL,k0,k1,k2,f0,f1,f2⟩ := id F1))
 refine bodyPost_ret (v := .tuple #[.agg #[.int .i64 1,.string (smallA (s.extract a E)),.int .i64 (a : Int)],.int .i64 (E : Int),.int .i64 0]) (by simp [results,Tryz.results78,go_sem,k0,k1,k2]) rfl ?_
 refine ⟨rfl,((hB.setCell ?_ _).setCell ?_ _).setCell ?_ _⟩ <;> exact Nat.le_refl _

theorem rlet_is (z : Int) (b : Bool) (h : letN z = b) : ∀ w,Calls Tryz.prog 107 #[.int .u8 z] w fun e w' => e = .returned (.bool b) ∧ w' = w := by
 subst h; exact rlet_any z
theorem rdig_is (z : Int) (b : Bool) (h : digN z = b) : ∀ w,Calls Tryz.prog 110 #[.int .u8 z] w fun e w' => e = .returned (.bool b) ∧ w' = w := by
 subst h; exact rdig_any z
theorem rrow_is (s : ByteArray) (a : Nat) (k : Int) (hk : k = 1 ∨ k = 4 ∨ k = 0) (hs : s.size ≤ 1048576) (ha : a ≤ s.size) (E : Nat) (hE : a + rowL (rowB k) (s.data.toList.drop a) = E) :
  ∀ w,Calls Tryz.prog 108 #[.string s,.int .i64 (a : Int),.int .i64 k] w fun e w' => e = .returned (.int .i64 (E : Int)) ∧ w' = w := by
 subst hE; exact fun w => rrow_any s a k hk w hs ha
theorem rquo_is (s : ByteArray) (a : Nat) (ha : a < s.size) (hs : s.size ≤ 1048000) (v : Value) (h : quoV (quoAt s a s[a]) = v) :
  ∀ w,Calls Tryz.prog 111 #[.string s,.int .i64 (a : Int)] w fun e w' => e = .returned v ∧ w' = w := by
 subst h; exact fun w => rquoted_any s a ha w hs
theorem rtag_is (s : ByteArray) (a : Nat) (ha : a < s.size) (hs : s.size ≤ 1048000) (t : Int) (h : tagAt s a = t) :
  ∀ w,Calls Tryz.prog 112 #[.string s,.int .i64 (a : Int)] w fun e w' => e = .returned (.int .i64 t) ∧ w' = w := by
 subst h; exact fun w => rtag_any s a ha w hs
theorem rdol_is (s : ByteArray) (a t : Nat) (hat : a < t) (ht : t ≤ s.size) (hs : s.size ≤ 1048000) (v : Value) (h : quoV (dolAt s a t) = v) :
  ∀ w,Calls Tryz.prog 113 #[.string s,.int .i64 (a : Int),.int .i64 (t : Int)] w fun e w' => e = .returned v ∧ w' = w := by
 subst h; exact fun w => rdollar_any s a t hat ht w hs
theorem rsign_is (c : UInt8) (z : Int) (hz : (c.toNat : Int) = z) (b : Bool) (h : decide (0 ≤ signI c) = b) : ∀ w,Calls Tryz.prog 114 #[.int .u8 z] w fun e w' => e = .returned (.bool b) ∧ w' = w := by
 subst hz h; exact rsign_any c
set_option maxHeartbeats 2000000 in
set_option maxRecDepth 100000 in
theorem one_num (s : ByteArray) (a : Nat) (ha : a < s.size) (w : World) (hs : s.size ≤ 1048000) (hl : letB s[a] = false) (hd : digB s[a] = true) (E : Nat) (hE : a + rowL numB (s.data.toList.drop a) = E) :
  Calls Tryz.prog 78 #[.string s,.int .i64 (a : Int)] w (OneP w ((4,s.extract a E,(a : Int)),E,0)) := by
 have l0 : (0 : Int) ≤ (a : Int) := by omega
 have l1 : (a : Int) < (s.size : Int) := by omega
 obtain ⟨z,hz⟩ : ∃ z : Int,((s[a]'ha).toNat : Int) = z := ⟨_,rfl⟩
 have HLET := Lib.hid (rlet_is z false (by first | rfl | (rw [← hz]; exact hl)))
 have HDIG := Lib.hid (rdig_is z true (by rw [← hz]; exact hd))
 have HROW := Lib.hid (rrow_is s a 4 (.inr (.inl rfl)) (by omega) (by omega) E hE)
 have e1 : (a : Int) ≤ (E : Int) := by omega
 have e2 : (E : Int) ≤ (s.size : Int) := by have := row_end s numB a (by omega); omega
 clear hl hd hE
 go_enter Tryz.func78,Tryz.ntmps78
 go_wp2_with (first
  | (go_at_call 107; (with_reducible refine (HLET.out _).mono ?_); rintro e w1 ⟨rfl,hw1⟩; obtain rfl := hw1.symm)
  | (go_at_call 110; (with_reducible refine (HDIG.out _).mono ?_); rintro e w1 ⟨rfl,hw1⟩; obtain rfl := hw1.symm)
  | (go_at_call 108; (with_reducible refine (HROW.out _).mono ?_); rintro e w1 ⟨rfl,hw1⟩; obtain rfl := hw1.symm))
 refine bodyPost_ret (v := .tuple #[.agg #[.int .i64 4,.string (s.extract a E),.int .i64 (a : Int)],.int .i64 ((E : Nat) : Int),.int .i64 0]) (by simp [results,Tryz.results78,go_sem]) rfl ?_
 exact ⟨rfl,(Below.refl _ _).alloc (Nat.le_refl _) _⟩
set_option maxHeartbeats 2000000 in
set_option maxRecDepth 100000 in
theorem one_quo34_no (s : ByteArray) (a : Nat) (ha : a < s.size) (w : World) (hs : s.size ≤ 1048000) (hc : s[a] = 34) (hq : quoAt s a 34 = none) :
  Calls Tryz.prog 78 #[.string s,.int .i64 (a : Int)] w (OneP w ((0,⟨#[]⟩,0),0,6)) := by
 have l0 : (0 : Int) ≤ (a : Int) := by omega
 have l1 : (a : Int) < (s.size : Int) := by omega
 have hci : ((s[a]'ha).toNat : Int) = 34 := by rw [hc]; rfl
 have HLET := Lib.hid (rlet_is 34 false (by decide))
 have HDIG := Lib.hid (rdig_is 34 false (by decide))
 have HQUO := Lib.hid (rquo_is s a ha hs (.tuple #[.string ⟨#[]⟩,.int .i64 (-1)]) (by rw [hc,hq]; rfl))
 clear hc hq
 go_enter Tryz.func78,Tryz.ntmps78
 go_wp2_with (first
  | (go_at_call 107; (with_reducible refine (HLET.out _).mono ?_); rintro e w1 ⟨rfl,hw1⟩; obtain rfl := hw1.symm)
  | (go_at_call 110; (with_reducible refine (HDIG.out _).mono ?_); rintro e w1 ⟨rfl,hw1⟩; obtain rfl := hw1.symm)
  | (go_at_call 111; (with_reducible refine (HQUO.out _).mono ?_); rintro e w1 ⟨rfl,hw1⟩; obtain rfl := hw1.symm))
 refine bodyPost_ret (v := .tuple #[.agg #[.int .i64 0,.string ⟨#[]⟩,.int .i64 0],.int .i64 ((0 : Nat) : Int),.int .i64 6]) (by simp [results,Tryz.results78,go_sem]) rfl ?_
 exact ⟨rfl,(Below.refl _ _).alloc (Nat.le_refl _) _⟩
set_option maxHeartbeats 2000000 in
set_option maxRecDepth 100000 in
theorem one_quo34_yes (s : ByteArray) (a : Nat) (ha : a < s.size) (w : World) (hs : s.size ≤ 1048000) (hc : s[a] = 34) (t : Tx) (n : Nat) (hq : quoAt s a 34 = some (t,n)) :
  Calls Tryz.prog 78 #[.string s,.int .i64 (a : Int)] w (OneP w ((2,bb t,(a : Int)),n,0)) := by
 have l0 : (0 : Int) ≤ (a : Int) := by omega
 have l1 : (a : Int) < (s.size : Int) := by omega
 have hci : ((s[a]'ha).toNat : Int) = 34 := by rw [hc]; rfl
 have HLET := Lib.hid (rlet_is 34 false (by decide))
 have HDIG := Lib.hid (rdig_is 34 false (by decide))
 have HQUO := Lib.hid (rquo_is s a ha hs (.tuple #[.string (bb t),.int .i64 (n : Int)]) (by rw [hc,hq]; rfl))
 have hn : ¬ ((n : Int) < 0) := by omega
 clear hc hq
 go_enter Tryz.func78,Tryz.ntmps78
 go_wp2_with (first
  | (go_at_call 107; (with_reducible refine (HLET.out _).mono ?_); rintro e w1 ⟨rfl,hw1⟩; obtain rfl := hw1.symm)
  | (go_at_call 110; (with_reducible refine (HDIG.out _).mono ?_); rintro e w1 ⟨rfl,hw1⟩; obtain rfl := hw1.symm)
  | (go_at_call 111; (with_reducible refine (HQUO.out _).mono ?_); rintro e w1 ⟨rfl,hw1⟩; obtain rfl := hw1.symm))
 refine bodyPost_ret (v := .tuple #[.agg #[.int .i64 2,.string (bb t),.int .i64 (a : Int)],.int .i64 ((n : Nat) : Int),.int .i64 0]) (by simp [results,Tryz.results78,go_sem]) rfl ?_
 exact ⟨rfl,(Below.refl _ _).alloc (Nat.le_refl _) _⟩
set_option maxHeartbeats 2000000 in
set_option maxRecDepth 100000 in
theorem one_quo39_no (s : ByteArray) (a : Nat) (ha : a < s.size) (w : World) (hs : s.size ≤ 1048000) (hc : s[a] = 39) (hq : quoAt s a 39 = none) :
  Calls Tryz.prog 78 #[.string s,.int .i64 (a : Int)] w (OneP w ((0,⟨#[]⟩,0),0,6)) := by
 have l0 : (0 : Int) ≤ (a : Int) := by omega
 have l1 : (a : Int) < (s.size : Int) := by omega
 have hci : ((s[a]'ha).toNat : Int) = 39 := by rw [hc]; rfl
 have HLET := Lib.hid (rlet_is 39 false (by decide))
 have HDIG := Lib.hid (rdig_is 39 false (by decide))
 have HQUO := Lib.hid (rquo_is s a ha hs (.tuple #[.string ⟨#[]⟩,.int .i64 (-1)]) (by rw [hc,hq]; rfl))
 clear hc hq
 go_enter Tryz.func78,Tryz.ntmps78
 go_wp2_with (first
  | (go_at_call 107; (with_reducible refine (HLET.out _).mono ?_); rintro e w1 ⟨rfl,hw1⟩; obtain rfl := hw1.symm)
  | (go_at_call 110; (with_reducible refine (HDIG.out _).mono ?_); rintro e w1 ⟨rfl,hw1⟩; obtain rfl := hw1.symm)
  | (go_at_call 111; (with_reducible refine (HQUO.out _).mono ?_); rintro e w1 ⟨rfl,hw1⟩; obtain rfl := hw1.symm))
 refine bodyPost_ret (v := .tuple #[.agg #[.int .i64 0,.string ⟨#[]⟩,.int .i64 0],.int .i64 ((0 : Nat) : Int),.int .i64 6]) (by simp [results,Tryz.results78,go_sem]) rfl ?_
 exact ⟨rfl,(Below.refl _ _).alloc (Nat.le_refl _) _⟩
set_option maxHeartbeats 2000000 in
set_option maxRecDepth 100000 in
theorem one_quo39_yes (s : ByteArray) (a : Nat) (ha : a < s.size) (w : World) (hs : s.size ≤ 1048000) (hc : s[a] = 39) (t : Tx) (n : Nat) (hq : quoAt s a 39 = some (t,n)) :
  Calls Tryz.prog 78 #[.string s,.int .i64 (a : Int)] w (OneP w ((3,bb t,(a : Int)),n,0)) := by
 have l0 : (0 : Int) ≤ (a : Int) := by omega
 have l1 : (a : Int) < (s.size : Int) := by omega
 have hci : ((s[a]'ha).toNat : Int) = 39 := by rw [hc]; rfl
 have HLET := Lib.hid (rlet_is 39 false (by decide))
 have HDIG := Lib.hid (rdig_is 39 false (by decide))
 have HQUO := Lib.hid (rquo_is s a ha hs (.tuple #[.string (bb t),.int .i64 (n : Int)]) (by rw [hc,hq]; rfl))
 have hn : ¬ ((n : Int) < 0) := by omega
 clear hc hq
 go_enter Tryz.func78,Tryz.ntmps78
 go_wp2_with (first
  | (go_at_call 107; (with_reducible refine (HLET.out _).mono ?_); rintro e w1 ⟨rfl,hw1⟩; obtain rfl := hw1.symm)
  | (go_at_call 110; (with_reducible refine (HDIG.out _).mono ?_); rintro e w1 ⟨rfl,hw1⟩; obtain rfl := hw1.symm)
  | (go_at_call 111; (with_reducible refine (HQUO.out _).mono ?_); rintro e w1 ⟨rfl,hw1⟩; obtain rfl := hw1.symm))
 refine bodyPost_ret (v := .tuple #[.agg #[.int .i64 3,.string (bb t),.int .i64 (a : Int)],.int .i64 ((n : Nat) : Int),.int .i64 0]) (by simp [results,Tryz.results78,go_sem]) rfl ?_
 exact ⟨rfl,(Below.refl _ _).alloc (Nat.le_refl _) _⟩
set_option maxHeartbeats 2000000 in
set_option maxRecDepth 100000 in
theorem one_dol_no (s : ByteArray) (a : Nat) (ha : a < s.size) (w : World) (hs : s.size ≤ 1048000) (hc : s[a] = 36) (t : Nat) (hat : a < t) (hts : t ≤ s.size) (ht : tagAt s a = (t : Int)) (hq : dolAt s a t = none) :
  Calls Tryz.prog 78 #[.string s,.int .i64 (a : Int)] w (OneP w ((0,⟨#[]⟩,0),0,6)) := by
 have l0 : (0 : Int) ≤ (a : Int) := by omega
 have l1 : (a : Int) < (s.size : Int) := by omega
 have hci : ((s[a]'ha).toNat : Int) = 36 := by rw [hc]; rfl
 have HLET := Lib.hid (rlet_is 36 false (by decide))
 have HDIG := Lib.hid (rdig_is 36 false (by decide))
 have HTAG := Lib.hid (rtag_is s a ha hs (t : Int) ht)
 have HDOL := Lib.hid (rdol_is s a t hat hts hs (.tuple #[.string ⟨#[]⟩,.int .i64 (-1)]) (by rw [hq]; rfl))
 have htp : (0 : Int) < (t : Int) := by omega
 clear hc hq ht hat hts
 go_enter Tryz.func78,Tryz.ntmps78
 go_wp2_with (first
  | (go_at_call 107; (with_reducible refine (HLET.out _).mono ?_); rintro e w1 ⟨rfl,hw1⟩; obtain rfl := hw1.symm)
  | (go_at_call 110; (with_reducible refine (HDIG.out _).mono ?_); rintro e w1 ⟨rfl,hw1⟩; obtain rfl := hw1.symm)
  | (go_at_call 112; (with_reducible refine (HTAG.out _).mono ?_); rintro e w1 ⟨rfl,hw1⟩; obtain rfl := hw1.symm)
  | (go_at_call 113; (with_reducible refine (HDOL.out _).mono ?_); rintro e w1 ⟨rfl,hw1⟩; obtain rfl := hw1.symm))
 refine bodyPost_ret (v := .tuple #[.agg #[.int .i64 0,.string ⟨#[]⟩,.int .i64 0],.int .i64 ((0 : Nat) : Int),.int .i64 6]) (by simp [results,Tryz.results78,go_sem]) rfl ?_
 exact ⟨rfl,(Below.refl _ _).alloc (Nat.le_refl _) _⟩
set_option maxHeartbeats 2000000 in
set_option maxRecDepth 100000 in
theorem one_dol_yes (s : ByteArray) (a : Nat) (ha : a < s.size) (w : World) (hs : s.size ≤ 1048000) (hc : s[a] = 36) (t : Nat) (hat : a < t) (hts : t ≤ s.size) (ht : tagAt s a = (t : Int)) (x : Tx) (n : Nat) (hq : dolAt s a t = some (x,n)) :
  Calls Tryz.prog 78 #[.string s,.int .i64 (a : Int)] w (OneP w ((3,bb x,(a : Int)),n,0)) := by
 have l0 : (0 : Int) ≤ (a : Int) := by omega
 have l1 : (a : Int) < (s.size : Int) := by omega
 have hci : ((s[a]'ha).toNat : Int) = 36 := by rw [hc]; rfl
 have HLET := Lib.hid (rlet_is 36 false (by decide))
 have HDIG := Lib.hid (rdig_is 36 false (by decide))
 have HTAG := Lib.hid (rtag_is s a ha hs (t : Int) ht)
 have HDOL := Lib.hid (rdol_is s a t hat hts hs (.tuple #[.string (bb x),.int .i64 (n : Int)]) (by rw [hq]; rfl))
 have htp : (0 : Int) < (t : Int) := by omega
 have hn : ¬ ((n : Int) < 0) := by omega
 clear hc hq ht hat hts
 go_enter Tryz.func78,Tryz.ntmps78
 go_wp2_with (first
  | (go_at_call 107; (with_reducible refine (HLET.out _).mono ?_); rintro e w1 ⟨rfl,hw1⟩; obtain rfl := hw1.symm)
  | (go_at_call 110; (with_reducible refine (HDIG.out _).mono ?_); rintro e w1 ⟨rfl,hw1⟩; obtain rfl := hw1.symm)
  | (go_at_call 112; (with_reducible refine (HTAG.out _).mono ?_); rintro e w1 ⟨rfl,hw1⟩; obtain rfl := hw1.symm)
  | (go_at_call 113; (with_reducible refine (HDOL.out _).mono ?_); rintro e w1 ⟨rfl,hw1⟩; obtain rfl := hw1.symm))
 refine bodyPost_ret (v := .tuple #[.agg #[.int .i64 3,.string (bb x),.int .i64 (a : Int)],.int .i64 ((n : Nat) : Int),.int .i64 0]) (by simp [results,Tryz.results78,go_sem]) rfl ?_
 exact ⟨rfl,(Below.refl _ _).alloc (Nat.le_refl _) _⟩
set_option maxHeartbeats 2000000 in
set_option maxRecDepth 100000 in
theorem one_par (s : ByteArray) (a : Nat) (ha : a < s.size) (w : World) (hs : s.size ≤ 1048000) (hc : s[a] = 36) (ht : tagAt s a = -1) (E : Nat) (hE : a + 1 + rowL digB (s.data.toList.drop (a + 1)) = E) (hp : a + 1 < E) :
  Calls Tryz.prog 78 #[.string s,.int .i64 (a : Int)] w (OneP w ((5,s.extract a E,(a : Int)),E,0)) := by
 have l0 : (0 : Int) ≤ (a : Int) := by omega
 have l1 : (a : Int) < (s.size : Int) := by omega
 have hci : ((s[a]'ha).toNat : Int) = 36 := by rw [hc]; rfl
 have HLET := Lib.hid (rlet_is 36 false (by decide))
 have HDIG := Lib.hid (rdig_is 36 false (by decide))
 obtain ⟨a1,ha1⟩ : ∃ a1,a + 1 = a1 := ⟨_,rfl⟩
 have cw : IntKind.i64.wrap ((a : Int) + 1) = (a1 : Int) := by rw [show (a : Int) + 1 = (a1 : Int) by omega]; exact IntWalk.i64_in _ (by omega)
 rw [ha1] at hE hp
 have HTAG := Lib.hid (rtag_is s a ha hs (-1) ht)
 have HROW := Lib.hid (rrow_is s a1 0 (.inr (.inr rfl)) (by omega) (by omega) E hE)
 have hp2 : (a1 : Int) < (E : Int) := by omega
 have e1 : (a : Int) ≤ (E : Int) := by omega
 have e2 : (E : Int) ≤ (s.size : Int) := by have := row_end s digB a1 (by omega); omega
 have HA1 := Lib.hid ha1
 clear hc ht hE hp ha1
 go_enter Tryz.func78,Tryz.ntmps78
 go_wp2_with (first
  | (go_at_call 107; (with_reducible refine (HLET.out _).mono ?_); rintro e w1 ⟨rfl,hw1⟩; obtain rfl := hw1.symm)
  | (go_at_call 110; (with_reducible refine (HDIG.out _).mono ?_); rintro e w1 ⟨rfl,hw1⟩; obtain rfl := hw1.symm)
  | (go_at_call 112; (with_reducible refine (HTAG.out _).mono ?_); rintro e w1 ⟨rfl,hw1⟩; obtain rfl := hw1.symm)
  | (go_at_call 108; (with_reducible refine (HROW.out _).mono ?_); rintro e w1 ⟨rfl,hw1⟩; obtain rfl := hw1.symm))
 refine bodyPost_ret (v := .tuple #[.agg #[.int .i64 5,.string (s.extract a E),.int .i64 (a : Int)],.int .i64 ((E : Nat) : Int),.int .i64 0]) (by simp [results,Tryz.results78,go_sem]) rfl ?_
 exact ⟨rfl,(Below.refl _ _).alloc (Nat.le_refl _) _⟩
set_option maxHeartbeats 2000000 in
set_option maxRecDepth 100000 in
theorem one_dol_none (s : ByteArray) (a : Nat) (ha : a < s.size) (w : World) (hs : s.size ≤ 1048000) (hc : s[a] = 36) (ht : tagAt s a = -1) (hp : rowL digB (s.data.toList.drop (a + 1)) = 0) :
  Calls Tryz.prog 78 #[.string s,.int .i64 (a : Int)] w (OneP w ((0,⟨#[]⟩,0),0,7)) := by
 have l0 : (0 : Int) ≤ (a : Int) := by omega
 have l1 : (a : Int) < (s.size : Int) := by omega
 have hci : ((s[a]'ha).toNat : Int) = 36 := by rw [hc]; rfl
 have HLET := Lib.hid (rlet_is 36 false (by decide))
 have HDIG := Lib.hid (rdig_is 36 false (by decide))
 obtain ⟨a1,ha1⟩ : ∃ a1,a + 1 = a1 := ⟨_,rfl⟩
 have cw : IntKind.i64.wrap ((a : Int) + 1) = (a1 : Int) := by rw [show (a : Int) + 1 = (a1 : Int) by omega]; exact IntWalk.i64_in _ (by omega)
 rw [ha1] at hp
 have HTAG := Lib.hid (rtag_is s a ha hs (-1) ht)
 have HROW := Lib.hid (rrow_is s a1 0 (.inr (.inr rfl)) (by omega) (by omega) a1 (by rw [show rowB 0 = digB from rfl,hp]; rfl))
 have HSIG := Lib.hid (rsign_is s[a] 36 hci false (by rw [hc]; decide))
 have hp2 : ¬ ((a1 : Int) < (a1 : Int)) := by omega
 have HA1 := Lib.hid ha1
 clear hc ht hp ha1
 go_enter Tryz.func78,Tryz.ntmps78
 go_wp2_with (first
  | (go_at_call 107; (with_reducible refine (HLET.out _).mono ?_); rintro e w1 ⟨rfl,hw1⟩; obtain rfl := hw1.symm)
  | (go_at_call 110; (with_reducible refine (HDIG.out _).mono ?_); rintro e w1 ⟨rfl,hw1⟩; obtain rfl := hw1.symm)
  | (go_at_call 112; (with_reducible refine (HTAG.out _).mono ?_); rintro e w1 ⟨rfl,hw1⟩; obtain rfl := hw1.symm)
  | (go_at_call 108; (with_reducible refine (HROW.out _).mono ?_); rintro e w1 ⟨rfl,hw1⟩; obtain rfl := hw1.symm)
  | (go_at_call 114; (with_reducible refine (HSIG.out _).mono ?_); rintro e w1 ⟨rfl,hw1⟩; obtain rfl := hw1.symm))
 refine bodyPost_ret (v := .tuple #[.agg #[.int .i64 0,.string ⟨#[]⟩,.int .i64 0],.int .i64 ((0 : Nat) : Int),.int .i64 7]) (by simp [results,Tryz.results78,go_sem]) rfl ?_
 exact ⟨rfl,(Below.refl _ _).alloc (Nat.le_refl _) _⟩
set_option maxHeartbeats 2000000 in
set_option maxRecDepth 100000 in
theorem one_sig_yes (s : ByteArray) (a : Nat) (ha : a < s.size) (w : World) (hs : s.size ≤ 1048000) (hl : letB s[a] = false) (hd : digB s[a] = false) (h34 : s[a] ≠ 34) (h39 : s[a] ≠ 39) (h36 : s[a] ≠ 36) (hg : 0 ≤ signI s[a]) (a1 : Nat) (ha1 : a + 1 = a1) :
  Calls Tryz.prog 78 #[.string s,.int .i64 (a : Int)] w (OneP w ((5,s.extract a a1,(a : Int)),a1,0)) := by
 have l0 : (0 : Int) ≤ (a : Int) := by omega
 have l1 : (a : Int) < (s.size : Int) := by omega
 obtain ⟨z,hz⟩ : ∃ z : Int,((s[a]'ha).toNat : Int) = z := ⟨_,rfl⟩
 have HLET := Lib.hid (rlet_is z false (by first | rfl | (rw [← hz]; exact hl)))
 have HDIG := Lib.hid (rdig_is z false (by first | rfl | (rw [← hz]; exact hd)))
 have e34 : (z == (34 : Int)) = false := by rw [beq_eq_false_iff_ne]; intro h; exact h34 (UInt8.toNat_inj.1 (by show _ = 34; omega))
 have e39 : (z == (39 : Int)) = false := by rw [beq_eq_false_iff_ne]; intro h; exact h39 (UInt8.toNat_inj.1 (by show _ = 39; omega))
 have e36 : (z == (36 : Int)) = false := by rw [beq_eq_false_iff_ne]; intro h; exact h36 (UInt8.toNat_inj.1 (by show _ = 36; omega))
 have cw : IntKind.i64.wrap ((a : Int) + 1) = (a1 : Int) := by rw [show (a : Int) + 1 = (a1 : Int) by omega]; exact IntWalk.i64_in _ (by omega)
 have HSIG := Lib.hid (rsign_is s[a] z hz true (decide_eq_true hg))
 have e1 : (a : Int) ≤ (a1 : Int) := by omega
 have e2 : (a1 : Int) ≤ (s.size : Int) := by omega
 have HA1 := Lib.hid ha1
 clear hl hd h34 h39 h36 hg ha1
 go_enter Tryz.func78,Tryz.ntmps78
 go_wp2_with (first
  | (go_at_call 107; (with_reducible refine (HLET.out _).mono ?_); rintro e w1 ⟨rfl,hw1⟩; obtain rfl := hw1.symm)
  | (go_at_call 110; (with_reducible refine (HDIG.out _).mono ?_); rintro e w1 ⟨rfl,hw1⟩; obtain rfl := hw1.symm)
  | (go_at_call 114; (with_reducible refine (HSIG.out _).mono ?_); rintro e w1 ⟨rfl,hw1⟩; obtain rfl := hw1.symm))
 refine bodyPost_ret (v := .tuple #[.agg #[.int .i64 5,.string (s.extract a a1),.int .i64 (a : Int)],.int .i64 ((a1 : Nat) : Int),.int .i64 0]) (by simp [results,Tryz.results78,go_sem]) rfl ?_
 exact ⟨rfl,(Below.refl _ _).alloc (Nat.le_refl _) _⟩
set_option maxHeartbeats 2000000 in
set_option maxRecDepth 100000 in
theorem one_sig_no (s : ByteArray) (a : Nat) (ha : a < s.size) (w : World) (hs : s.size ≤ 1048000) (hl : letB s[a] = false) (hd : digB s[a] = false) (h34 : s[a] ≠ 34) (h39 : s[a] ≠ 39) (h36 : s[a] ≠ 36) (hg : signI s[a] < 0) :
  Calls Tryz.prog 78 #[.string s,.int .i64 (a : Int)] w (OneP w ((0,⟨#[]⟩,0),0,7)) := by
 have l0 : (0 : Int) ≤ (a : Int) := by omega
 have l1 : (a : Int) < (s.size : Int) := by omega
 obtain ⟨z,hz⟩ : ∃ z : Int,((s[a]'ha).toNat : Int) = z := ⟨_,rfl⟩
 have HLET := Lib.hid (rlet_is z false (by first | rfl | (rw [← hz]; exact hl)))
 have HDIG := Lib.hid (rdig_is z false (by first | rfl | (rw [← hz]; exact hd)))
 have e34 : (z == (34 : Int)) = false := by rw [beq_eq_false_iff_ne]; intro h; exact h34 (UInt8.toNat_inj.1 (by show _ = 34; omega))
 have e39 : (z == (39 : Int)) = false := by rw [beq_eq_false_iff_ne]; intro h; exact h39 (UInt8.toNat_inj.1 (by show _ = 39; omega))
 have e36 : (z == (36 : Int)) = false := by rw [beq_eq_false_iff_ne]; intro h; exact h36 (UInt8.toNat_inj.1 (by show _ = 36; omega))
 have HSIG := Lib.hid (rsign_is s[a] z hz false (decide_eq_false (by omega)))
 clear hl hd h34 h39 h36 hg
 go_enter Tryz.func78,Tryz.ntmps78
 go_wp2_with (first
  | (go_at_call 107; (with_reducible refine (HLET.out _).mono ?_); rintro e w1 ⟨rfl,hw1⟩; obtain rfl := hw1.symm)
  | (go_at_call 110; (with_reducible refine (HDIG.out _).mono ?_); rintro e w1 ⟨rfl,hw1⟩; obtain rfl := hw1.symm)
  | (go_at_call 114; (with_reducible refine (HSIG.out _).mono ?_); rintro e w1 ⟨rfl,hw1⟩; obtain rfl := hw1.symm))
 refine bodyPost_ret (v := .tuple #[.agg #[.int .i64 0,.string ⟨#[]⟩,.int .i64 0],.int .i64 ((0 : Nat) : Int),.int .i64 7]) (by simp [results,Tryz.results78,go_sem]) rfl ?_
 exact ⟨rfl,(Below.refl _ _).alloc (Nat.le_refl _) _⟩


def scanA (s : ByteArray) : List Tok × Int × Int := if 2000 < s.size then ([],2,2000) else scanN (s.size + 1) s 0 []
theorem scan_any (s : ByteArray) (m : Int) (w : World) (hm : Wd m w) :
  Calls Tryz.prog 81 #[.string s] w (ScanP w (scanA s)) := by
 by_cases h : 2000 < s.size
 ·have e : scanA s = ([],2,2000) := if_pos h
  rw [e]
  have hl : (2000 : Int) < (s.size : Int) := by omega
  clear e
  go_enter Tryz.func81,Tryz.ntmps81
  go_wp2
  go_step3
  go_wp2
  try rw [Exit.noGoto_ret]
  go_ret3
  exact ⟨_,rfl,World.ownsRow_nil _ _ _ _,Below.refl _ _⟩
 ·exact scan_small s m w (by omega) hm _ (if_neg h)

theorem hp_eq (x p : ByteArray) : hpB x p = p.data.toList.isPrefixOf x.data.toList := by
 unfold hpB
 by_cases h : p.size ≤ x.size
 ·rw [decide_eq_true h,Bool.true_and]
  have := starts_eq x p 0 (by omega)
  rw [Nat.zero_add,List.drop_zero] at this
  exact this
 ·rw [decide_eq_false h,Bool.false_and]
  have := starts_short x p 0 (by omega) (by omega)
  rw [List.drop_zero] at this
  exact this.symm
theorem find_sized (k : Nat) (hk : k ≤ 10) (r : ByteArray) (hr : 0 < r.size) (p : Pc) (h : findR k r = some p) : p.2.2 = -1 ∨ (1 ≤ p.2.2 ∧ p.2.2 ≤ (r.size : Int)) := by
 induction k with
 | zero => cases h
 | succ k ih =>
  rw [findR] at h
  by_cases h0 : (rdP (9 - k) r).2.2 = 0
  ·rw [if_pos h0] at h
   exact ih (by omega) h
  ·rw [if_neg h0] at h
   cases h
   rcases rd_sized (9 - k) r hr with h1 | h1 | h1
   ·exact absurd h1 h0
   ·exact .inl h1
   ·exact .inr h1
theorem scan_fuel (s : ByteArray) : ∀ (n f g a : Nat) (acc : List Tok),s.size - a ≤ n → n < f → n < g → scanN f s a acc = scanN g s a acc := by
 intro n
 induction n with
 | zero =>
  intro f g a acc hn hf hg
  obtain ⟨f,rfl⟩ : ∃ x,f = x + 1 := ⟨f - 1,by omega⟩
  obtain ⟨g,rfl⟩ : ∃ x,g = x + 1 := ⟨g - 1,by omega⟩
  rw [scanN,scanN,if_pos (by omega),if_pos (by omega)]
 | succ n ih =>
  intro f g a acc hn hf hg
  obtain ⟨f,rfl⟩ : ∃ x,f = x + 1 := ⟨f - 1,by omega⟩
  obtain ⟨g,rfl⟩ : ∃ x,g = x + 1 := ⟨g - 1,by omega⟩
  rw [scanN,scanN]
  by_cases h : s.size ≤ a
  ·rw [if_pos h,if_pos h]
  ·rw [if_neg h,if_neg h]
   cases hf2 : findR 10 (s.extract a s.size) with
   | none => rfl
   | some p =>
    have hsz := find_sized 10 (Nat.le_refl _) _ (by rw [ByteArray.size_extract]; omega) p hf2
    by_cases hp : p.2.2 = -1
    ·simp only [hp,if_true]
    ·simp only [hp,if_false]
     exact ih f g _ _ (by omega) (by omega) (by omega)
def scanF (s : ByteArray) (a : Nat) (acc : List Tok) : List Tok × Int × Int := scanN (s.size + 1) s a acc
theorem scanF_end (s : ByteArray) (a : Nat) (acc : List Tok) (h : s.size ≤ a) : scanF s a acc = (acc,0,0) := by
 unfold scanF; rw [scanN,if_pos h]
theorem scanF_none (s : ByteArray) (a : Nat) (acc : List Tok) (h : a < s.size) (hf : findR 10 (s.extract a s.size) = none) : scanF s a acc = ([],7,(a : Int)) := by
 unfold scanF; rw [scanN,if_neg (by omega),hf]
theorem scanF_bad (s : ByteArray) (a : Nat) (acc : List Tok) (h : a < s.size) (p : Pc) (hf : findR 10 (s.extract a s.size) = some p) (hp : p.2.2 = -1) : scanF s a acc = ([],6,(a : Int)) := by
 unfold scanF; rw [scanN,if_neg (by omega),hf]; simp only [hp,if_true]
theorem scanF_step (s : ByteArray) (a : Nat) (acc : List Tok) (h : a < s.size) (k : Int) (t : ByteArray) (n : Nat) (hn : 0 < n) (hf : findR 10 (s.extract a s.size) = some (k,t,(n : Int))) :
  scanF s a acc = scanF s (a + n) (if k = 0 then acc else acc ++ [(k,t,(a : Int))]) := by
 unfold scanF
 rw [scanN,if_neg (by omega),hf]
 have : ¬ ((n : Int) = -1) := by omega
 simp only [this,if_false,Int.toNat_natCast]
 exact scan_fuel s (s.size - (a + n)) _ _ _ _ (Nat.le_refl _) (by omega) (by omega)
theorem find_first (i : Nat) (hi : i < 10) (r : ByteArray) (h0 : ∀ j,j < i → (rdP j r).2.2 = 0) (h1 : (rdP i r).2.2 ≠ 0) : findR 10 r = some (rdP i r) := by
 have key : ∀ d j,j + d = i → findR (10 - j) r = some (rdP i r) := by
  intro d
  induction d with
  | zero => intro j hj; have : j = i := by omega
            subst this; rw [findR_at j hi,if_neg h1]
  | succ d ih =>
   intro j hj
   rw [findR_at j (by omega),if_pos (h0 j (by omega))]
   exact ih (j + 1) (by omega)
 exact key i 0 (by omega)
theorem find_none (r : ByteArray) (h0 : ∀ j,j < 10 → (rdP j r).2.2 = 0) : findR 10 r = none := by
 have key : ∀ d j,j + d = 10 → findR (10 - j) r = none := by
  intro d
  induction d with
  | zero => intro j hj; have : j = 10 := by omega
            subst this; rfl
  | succ d ih =>
   intro j hj
   rw [findR_at j (by omega),if_pos (h0 j (by omega))]
   exact ih (j + 1) (by omega)
 exact key 10 0 (by omega)

theorem cut_line (l : Tx) : (Lib.cut l [10]).1 = l.takeWhile notNl := by
 unfold Lib.cut
 induction l with
 | nil => rw [idx_nil _ (by simp)]; rfl
 | cons c r ih =>
  rw [List.takeWhile_cons]
  by_cases h : c = 10
  ·subst h
   have e : Lib.index (10 :: r) [10] = 0 := by rw [idx_cons,if_pos]; simp
   rw [e]
   rfl
  ·have h1 : ¬ ([10] : Tx).isPrefixOf (c :: r) = true := by
    simp [List.isPrefixOf]; exact fun h2 => h h2.symm
   have h2 : notNl c = true := by unfold notNl; rw [bne_iff_ne]; exact h
   rw [idx_cons,if_neg h1,if_pos h2,← ih]
   have hge := Lib.index_ge r [10]
   by_cases h3 : Lib.index r [10] = -1
   ·rw [if_pos h3,if_neg (by omega),if_neg (by omega)]
   ·rw [if_neg h3,if_pos (by omega),if_pos (by omega)]
    obtain ⟨n,hn⟩ : ∃ n : Nat,Lib.index r [10] = (n : Int) := ⟨(Lib.index r [10]).toNat,by omega⟩
    rw [hn]
    show (c :: r).take (n + 1) = c :: r.take n
    rfl
theorem line_size (r : ByteArray) : (lineA r).size = rowL notNl r.data.toList := by
 unfold lineA
 show (Lib.cut r.data.toList [10]).1.toArray.size = _
 rw [cut_line,List.size_toArray]; rfl
theorem z0 (s : ByteArray) (a : Nat) : (rdP 0 (s.extract a s.size)).2.2 = ((rowL fiveQ (s.data.toList.drop a) : Nat) : Int) := by
 show ((rowL fiveQ (s.extract a s.size).data.toList : Nat) : Int) = _
 rw [ext_list]
theorem z1_no (s : ByteArray) (a : Nat) (h : (s.data.toList.drop a).take 2 ≠ [45,45]) : (rdP 1 (s.extract a s.size)).2.2 = 0 := by
 show (if hpB (s.extract a s.size) dashT = true then ((lineA (s.extract a s.size)).size : Int) else 0) = 0
 rw [hp_eq,ext_list,if_neg]
 exact fun h2 => h ((pfx2 _ _ _).1 h2)
theorem z1_yes (s : ByteArray) (a : Nat) (h : (s.data.toList.drop a).take 2 = [45,45]) : rdP 1 (s.extract a s.size) = (0,⟨#[]⟩,((rowL notNl (s.data.toList.drop a) : Nat) : Int)) := by
 show ((0 : Int),(⟨#[]⟩ : ByteArray),(if hpB (s.extract a s.size) dashT = true then ((lineA (s.extract a s.size)).size : Int) else 0)) = _
 rw [hp_eq,ext_list,if_pos ((pfx2 _ _ _).2 h),line_size,ext_list]
theorem z2_no (s : ByteArray) (a : Nat) (h : (s.data.toList.drop a).take 2 ≠ [47,42]) : (rdP 2 (s.extract a s.size)).2.2 = 0 := by
 show (if hpB (s.extract a s.size) opnT = true then _ else pc0).2.2 = 0
 rw [hp_eq,ext_list,if_neg]
 ·rfl
 ·exact fun h2 => h ((pfx2 _ _ _).1 h2)
theorem z2_yes (s : ByteArray) (a : Nat) (h : (s.data.toList.drop a).take 2 = [47,42]) : rdP 2 (s.extract a s.size) = (0,⟨#[]⟩,remI ((remL 1 (s.data.toList.drop (a + 2))).map (· + 2))) := by
 show (if hpB (s.extract a s.size) opnT = true then ((0 : Int),(⟨#[]⟩ : ByteArray),remI ((remL 1 ((s.extract a s.size).data.toList.drop 2)).map (· + 2))) else pc0) = _
 rw [hp_eq,ext_list,if_pos ((pfx2 _ _ _).2 h),List.drop_drop]
structure Solid (s : ByteArray) (a : Nat) : Prop where
 lt : a < s.size
 blank : fiveQ ((s.data.toList.drop a).headD 0) = false
 line : (s.data.toList.drop a).take 2 ≠ [45,45]
 rem : (s.data.toList.drop a).take 2 ≠ [47,42]
theorem five_row (s : ByteArray) (a : Nat) (h : a < s.size) : rowL fiveQ (s.data.toList.drop a) = if fiveQ ((s.data.toList.drop a).headD 0) = true then rowL fiveQ (s.data.toList.drop (a + 1)) + 1 else 0 := by
 rw [byte_at s a h,rowL_cons]; rfl
theorem scan_blank (s : ByteArray) (a : Nat) (acc : List Tok) (h : a < s.size) (hb : fiveQ ((s.data.toList.drop a).headD 0) = true) : scanF s a acc = scanF s (a + 1) acc := by
 have h0 := five_row s a h
 rw [if_pos hb] at h0
 have one : ∀ b,b < s.size → 0 < rowL fiveQ (s.data.toList.drop b) → scanF s b acc = scanF s (b + rowL fiveQ (s.data.toList.drop b)) acc := by
  intro b hb2 hp
  have hf := find_first 0 (by omega) (s.extract b s.size) (fun j hj => by omega) (by rw [z0]; omega)
  have e : rdP 0 (s.extract b s.size) = (0,⟨#[]⟩,((rowL fiveQ (s.data.toList.drop b) : Nat) : Int)) := by
   show ((0 : Int),(⟨#[]⟩ : ByteArray),((rowL fiveQ (s.extract b s.size).data.toList : Nat) : Int)) = _
   rw [ext_list]
  rw [e] at hf
  have := scanF_step s b acc hb2 0 ⟨#[]⟩ _ hp hf
  rwa [if_pos rfl] at this
 rw [one a h (by omega),h0]
 by_cases hn : rowL fiveQ (s.data.toList.drop (a + 1)) = 0
 ·rw [hn]
 ·have h1 : a + 1 < s.size := by
   rcases Nat.lt_or_ge (a + 1) s.size with h2 | h2
   ·exact h2
   ·rw [drop_nil s (a + 1) (by omega)] at hn; exact absurd rfl hn
  rw [one (a + 1) h1 (by omega),show a + 1 + rowL fiveQ (s.data.toList.drop (a + 1)) = a + (rowL fiveQ (s.data.toList.drop (a + 1)) + 1) by omega]
theorem scan_line (s : ByteArray) (a : Nat) (acc : List Tok) (h : a < s.size) (hb : fiveQ ((s.data.toList.drop a).headD 0) = false) (hl : (s.data.toList.drop a).take 2 = [45,45]) : scanF s a acc = scanF s (lineEnd s a) acc := by
 have hg := lineEnd_gt s a hl
 unfold lineEnd at hg ⊢
 have h0 := five_row s a h
 rw [hb,if_neg (by decide)] at h0
 have hj : ∀ j,j < 1 → (rdP j (s.extract a s.size)).2.2 = 0 := by
  intro j hj
  obtain rfl : j = 0 := by omega
  rw [z0,h0]; rfl
 have hf := find_first 1 (by omega) (s.extract a s.size) hj (by rw [z1_yes s a hl]; show ((rowL notNl (s.data.toList.drop a) : Nat) : Int) ≠ 0; omega)
 rw [z1_yes s a hl] at hf
 have := scanF_step s a acc h 0 ⟨#[]⟩ _ (by omega) hf
 rwa [if_pos rfl] at this
theorem scan_rem (s : ByteArray) (a : Nat) (acc : List Tok) (h : a < s.size) (hb : fiveQ ((s.data.toList.drop a).headD 0) = false) (hl : (s.data.toList.drop a).take 2 = [47,42]) :
  scanF s a acc = (match remAt s a with | none => ([],6,(a : Int)) | some n => scanF s n acc) := by
 have h0 := five_row s a h
 rw [hb,if_neg (by decide)] at h0
 have hz := z2_yes s a hl
 have h1 : (s.data.toList.drop a).take 2 ≠ [45,45] := by rw [hl]; decide
 have hj : ∀ j,j < 2 → (rdP j (s.extract a s.size)).2.2 = 0 := by
  intro j hj
  have : j = 0 ∨ j = 1 := by omega
  rcases this with rfl | rfl
  ·rw [z0,h0]; rfl
  ·exact z1_no s a h1
 unfold remAt
 cases hr : remL 1 (s.data.toList.drop (a + 2)) with
 | none =>
  rw [hr] at hz
  have hf := find_first 2 (by omega) (s.extract a s.size) hj (by rw [hz]; show (-1 : Int) ≠ 0; decide)
  rw [hz] at hf
  exact scanF_bad s a acc h _ hf rfl
 | some n =>
  rw [hr] at hz
  have hz2 : rdP 2 (s.extract a s.size) = (0,⟨#[]⟩,((n + 2 : Nat) : Int)) := hz
  have hf := find_first 2 (by omega) (s.extract a s.size) hj (by rw [hz2]; show ((n + 2 : Nat) : Int) ≠ 0; omega)
  rw [hz2] at hf
  have := scanF_step s a acc h 0 ⟨#[]⟩ (n + 2) (by omega) hf
  rw [if_pos rfl] at this
  rw [this]
  show scanF s (a + (n + 2)) acc = scanF s (n + (a + 2)) acc
  rw [show a + (n + 2) = n + (a + 2) by omega]
theorem gapN_end (f : Nat) (s : ByteArray) (a : Nat) (h : s.size ≤ a) : gapN (f + 1) s a = (a,false) := by rw [gapN,if_pos h]
theorem gapN_blank (f : Nat) (s : ByteArray) (a : Nat) (h : ¬ s.size ≤ a) (hb : fiveQ ((s.data.toList.drop a).headD 0) = true) : gapN (f + 1) s a = gapN f s (a + 1) := by rw [gapN,if_neg h,if_pos hb]
theorem gapN_line (f : Nat) (s : ByteArray) (a : Nat) (h : ¬ s.size ≤ a) (hb : fiveQ ((s.data.toList.drop a).headD 0) = false) (hl : (s.data.toList.drop a).take 2 = [45,45]) : gapN (f + 1) s a = gapN f s (lineEnd s a) := by
 rw [gapN,if_neg h,hb,if_neg (by simp),if_pos hl]
theorem gapN_rem (f : Nat) (s : ByteArray) (a : Nat) (h : ¬ s.size ≤ a) (hb : fiveQ ((s.data.toList.drop a).headD 0) = false) (hl : (s.data.toList.drop a).take 2 ≠ [45,45]) (hr : (s.data.toList.drop a).take 2 = [47,42]) :
  gapN (f + 1) s a = (match remAt s a with | none => (a,true) | some n => gapN f s n) := by
 rw [gapN,if_neg h,hb,if_neg (by simp),if_neg hl,if_pos hr]
 all_goals (cases remAt s a <;> rfl)
theorem gapN_stop (f : Nat) (s : ByteArray) (a : Nat) (h : ¬ s.size ≤ a) (hb : fiveQ ((s.data.toList.drop a).headD 0) = false) (hl : (s.data.toList.drop a).take 2 ≠ [45,45]) (hr : (s.data.toList.drop a).take 2 ≠ [47,42]) :
  gapN (f + 1) s a = (a,false) := by
 rw [gapN,if_neg h,hb,if_neg (by simp),if_neg hl,if_neg hr]
theorem scan_gap (s : ByteArray) (acc : List Tok) : ∀ (n f a : Nat),s.size - a ≤ n → n < f → a ≤ s.size →
  scanF s a acc = (if (gapN f s a).2 = true then ([],6,((gapN f s a).1 : Int)) else scanF s (gapN f s a).1 acc) ∧ a ≤ (gapN f s a).1 ∧ (gapN f s a).1 ≤ s.size ∧
   ((gapN f s a).2 = false → (gapN f s a).1 < s.size → Solid s (gapN f s a).1) := by
 intro n
 induction n with
 | zero =>
  intro f a hn hf ha
  obtain ⟨f,rfl⟩ : ∃ x,f = x + 1 := ⟨f - 1,by omega⟩
  rw [gapN_end f s a (by omega)]
  exact ⟨by simp,Nat.le_refl _,ha,fun _ h => by simp only at h; omega⟩
 | succ n ih =>
  intro f a hn hf ha
  obtain ⟨f,rfl⟩ : ∃ x,f = x + 1 := ⟨f - 1,by omega⟩
  by_cases h : s.size ≤ a
  ·rw [gapN_end f s a h]
   exact ⟨by simp,Nat.le_refl _,ha,fun _ h2 => by simp only at h2; omega⟩
  ·cases hb : fiveQ ((s.data.toList.drop a).headD 0) with
   | true =>
    rw [gapN_blank f s a h hb]
    obtain ⟨i1,i2,i3,i4⟩ := ih f (a + 1) (by omega) (by omega) (by omega)
    exact ⟨by rw [scan_blank s a acc (by omega) hb]; exact i1,by omega,i3,i4⟩
   | false =>
    by_cases hl : (s.data.toList.drop a).take 2 = [45,45]
    ·rw [gapN_line f s a h hb hl]
     have hg := lineEnd_gt s a hl
     obtain ⟨i1,i2,i3,i4⟩ := ih f (lineEnd s a) (by omega) (by omega) (lineEnd_le s a ha)
     exact ⟨by rw [scan_line s a acc (by omega) hb hl]; exact i1,by omega,i3,i4⟩
    ·by_cases hr : (s.data.toList.drop a).take 2 = [47,42]
     ·rw [gapN_rem f s a h hb hl hr]
      have hsr := scan_rem s a acc (by omega) hb hr
      cases hra : remAt s a with
      | none =>
       rw [hra] at hsr
       simp only at hsr ⊢
       exact ⟨by simpa using hsr,Nat.le_refl _,ha,fun h => by cases h⟩
      | some m =>
       rw [hra] at hsr
       simp only at hsr ⊢
       obtain ⟨m1,m2⟩ := remAt_le s a m hra hr
       obtain ⟨i1,i2,i3,i4⟩ := ih f m (by omega) (by omega) m2
       exact ⟨by rw [hsr]; exact i1,by omega,i3,i4⟩
     ·rw [gapN_stop f s a h hb hl hr]
      exact ⟨by simp,Nat.le_refl _,ha,fun _ _ => ⟨by omega,hb,hl,hr⟩⟩

def tok0 : Tok := (0,⟨#[]⟩,0)
def oneP (s : ByteArray) (a : Nat) : Tok × Nat × Int :=
 let c := (s.data.toList.drop a).headD 0
 if letB c = true then ((1,smallA (s.extract a (a + rowL wordB (s.data.toList.drop a))),(a : Int)),a + rowL wordB (s.data.toList.drop a),0)
 else if digB c = true then ((4,s.extract a (a + rowL numB (s.data.toList.drop a)),(a : Int)),a + rowL numB (s.data.toList.drop a),0)
 else if c = 34 then (match quoAt s a 34 with | none => (tok0,0,6) | some p => ((2,bb p.1,(a : Int)),p.2,0))
 else if c = 39 then (match quoAt s a 39 with | none => (tok0,0,6) | some p => ((3,bb p.1,(a : Int)),p.2,0))
 else if c = 36 then (if 0 < tagAt s a then (match dolAt s a (tagAt s a).toNat with | none => (tok0,0,6) | some p => ((3,bb p.1,(a : Int)),p.2,0))
  else if rowL digB (s.data.toList.drop (a + 1)) = 0 then (tok0,0,7) else ((5,s.extract a (a + 1 + rowL digB (s.data.toList.drop (a + 1))),(a : Int)),a + 1 + rowL digB (s.data.toList.drop (a + 1)),0))
 else if signI c < 0 then (tok0,0,7) else ((5,s.extract a (a + 1),(a : Int)),a + 1,0)
theorem head_at (s : ByteArray) (a : Nat) (h : a < s.size) : (s.data.toList.drop a).headD 0 = s[a] := by rw [byte_at s a h]; rfl
theorem tagAt_cases (s : ByteArray) (a : Nat) (h : a < s.size) : tagAt s a = -1 ∨ (a + 1 < (tagAt s a).toNat ∧ (tagAt s a).toNat ≤ s.size ∧ tagAt s a = ((tagAt s a).toNat : Int)) := by
 unfold tagAt
 split
 ·rename_i h1
  right
  have h2 := congrArg List.length h1
  rw [List.length_take,List.length_drop] at h2
  simp only [List.length_singleton] at h2
  have e : s.size = s.data.toList.length := rfl
  omega
 ·exact .inl rfl
theorem rone_any (s : ByteArray) (a : Nat) (ha : a < s.size) (w : World) (hs : s.size ≤ 1048000) :
  Calls Tryz.prog 78 #[.string s,.int .i64 (a : Int)] w (OneP w (oneP s a)) := by
 have hh := head_at s a ha
 unfold oneP
 simp only [hh]
 by_cases hl : letB s[a] = true
 ·rw [if_pos hl]; exact one_word s a ha w hs hl _ rfl
 ·have hl2 : letB s[a] = false := by simpa using hl
  rw [if_neg hl]
  by_cases hd : digB s[a] = true
  ·rw [if_pos hd]; exact one_num s a ha w hs hl2 hd _ rfl
  ·have hd2 : digB s[a] = false := by simpa using hd
   rw [if_neg hd]
   by_cases h34 : s[a] = 34
   ·rw [if_pos h34]
    cases hq : quoAt s a 34 with
    | none => exact one_quo34_no s a ha w hs h34 hq
    | some p => obtain ⟨t,n⟩ := p; exact one_quo34_yes s a ha w hs h34 t n hq
   ·rw [if_neg h34]
    by_cases h39 : s[a] = 39
    ·rw [if_pos h39]
     cases hq : quoAt s a 39 with
     | none => exact one_quo39_no s a ha w hs h39 hq
     | some p => obtain ⟨t,n⟩ := p; exact one_quo39_yes s a ha w hs h39 t n hq
    ·rw [if_neg h39]
     by_cases h36 : s[a] = 36
     ·rw [if_pos h36]
      rcases tagAt_cases s a ha with ht | ⟨t1,t2,t3⟩
      ·rw [if_neg (by omega)]
       by_cases hp : rowL digB (s.data.toList.drop (a + 1)) = 0
       ·rw [if_pos hp]; exact one_dol_none s a ha w hs h36 ht hp
       ·rw [if_neg hp]; exact one_par s a ha w hs h36 ht _ rfl (by omega)
      ·rw [if_pos (by omega)]
       cases hq : dolAt s a (tagAt s a).toNat with
       | none => exact one_dol_no s a ha w hs h36 _ (by omega) t2 t3 hq
       | some p => obtain ⟨t,n⟩ := p; exact one_dol_yes s a ha w hs h36 _ (by omega) t2 t3 t n hq
     ·rw [if_neg h36]
      by_cases hg : signI s[a] < 0
      ·rw [if_pos hg]; exact one_sig_no s a ha w hs hl2 hd2 h34 h39 h36 hg
      ·rw [if_neg hg]; exact one_sig_yes s a ha w hs hl2 hd2 h34 h39 h36 (by omega) _ rfl

abbrev rst (s : ByteArray) (a : Nat) : ByteArray := s.extract a s.size
theorem rst_ext (s : ByteArray) (a n : Nat) (h : a + n ≤ s.size) : (rst s a).extract 0 n = s.extract a (a + n) := by
 apply ByteArray.ext
 apply Array.ext'
 rw [ByteArray.data_extract,Array.toList_extract,List.extract_eq_take_drop,ext_list,ByteArray.data_extract,Array.toList_extract,List.extract_eq_take_drop]
 rw [List.drop_zero,Nat.sub_zero,show a + n - a = n by omega]
theorem row_pos (p : UInt8 → Bool) (s : ByteArray) (a : Nat) (h : a < s.size) (hp : p s[a] = true) : rowL p (s.data.toList.drop a) = rowL p (s.data.toList.drop (a + 1)) + 1 := by
 rw [byte_at s a h,rowL_cons,if_pos hp]
theorem row_zero (p : UInt8 → Bool) (s : ByteArray) (a : Nat) (h : a < s.size) (hp : p s[a] = false) : rowL p (s.data.toList.drop a) = 0 := by
 rw [byte_at s a h,rowL_cons,hp]; rfl
theorem let_word (c : UInt8) (h : letB c = true) : wordB c = true := by
 show wordN (c.toNat : Int) = true
 have : letN (c.toNat : Int) = true := h
 unfold wordN; rw [this]; rfl
theorem dig_num (c : UInt8) (h : digB c = true) : numB c = true := by
 show numN (c.toNat : Int) = true
 have : digN (c.toNat : Int) = true := h
 unfold numN; rw [this]; rfl
theorem r3_no (s : ByteArray) (a : Nat) (h : a < s.size) (hl : letB s[a] = false) : (rdP 3 (rst s a)).2.2 = 0 := by
 show (wordP (rst s a)).2.2 = 0
 unfold wordP
 rw [ext_list,if_pos (row_zero letB s a h hl)]; rfl
theorem r3_yes (s : ByteArray) (a : Nat) (h : a < s.size) (hl : letB s[a] = true) : rdP 3 (rst s a) = (1,smallA (s.extract a (a + rowL wordB (s.data.toList.drop a))),((rowL wordB (s.data.toList.drop a) : Nat) : Int)) := by
 show wordP (rst s a) = _
 unfold wordP
 rw [ext_list,if_neg (by rw [row_pos letB s a h hl]; omega),rst_ext s a _ (row_end s wordB a (by omega))]
theorem r45_no (q : UInt8) (k : Int) (s : ByteArray) (a : Nat) (h : a < s.size) (hc : s[a] ≠ q) : (quoP q k (rst s a)).2.2 = 0 := by
 unfold quoP
 rw [ext_list,byte_at s a h]
 simp only [hc,if_false]; rfl
theorem r45_yes (q : UInt8) (k : Int) (s : ByteArray) (a : Nat) (h : a < s.size) (hc : s[a] = q) : quoP q k (rst s a) = (match quoAt s a q with | none => (0,⟨#[]⟩,-1) | some p => (k,bb p.1,((p.2 - a : Nat) : Int))) := by
 unfold quoP
 rw [ext_list,byte_at s a h]
 simp only [hc,if_true]
 unfold quoAt
 cases betL q (s.data.toList.drop (a + 1)) with
 | none => rfl
 | some p =>
  show (k,bb p.1,((p.2 + 1 : Nat) : Int)) = (k,bb p.1,((p.2 + (a + 1) - a : Nat) : Int))
  rw [show p.2 + (a + 1) - a = p.2 + 1 by omega]
theorem dol_hp (s : ByteArray) (a : Nat) (h : a < s.size) : hpB (rst s a) dolT = decide (s[a] = 36) := by
 rw [hp_eq,ext_list,byte_at s a h]
 show (([36] : Tx).isPrefixOf (s[a] :: s.data.toList.drop (a + 1))) = _
 simp only [List.isPrefixOf,Bool.and_true]
 rw [Bool.eq_iff_iff,beq_iff_eq,decide_eq_true_iff]
 exact ⟨fun h => h.symm,fun h => h.symm⟩
theorem dol_rest (s : ByteArray) (a : Nat) (h : a < s.size) (hc : s[a] = 36) : (dolR (rst s a)).data.toList = s.data.toList.drop (a + 1) := by
 unfold dolR
 rw [dol_hp s a h,if_pos (decide_eq_true hc),ext_list,ext_list,List.drop_drop]
theorem r7_no (s : ByteArray) (a : Nat) (h : a < s.size) (hl : digB s[a] = false) : (rdP 7 (rst s a)).2.2 = 0 := by
 show (numP (rst s a)).2.2 = 0
 unfold numP
 rw [ext_list,if_pos (row_zero digB s a h hl)]; rfl
theorem r7_yes (s : ByteArray) (a : Nat) (h : a < s.size) (hl : digB s[a] = true) : rdP 7 (rst s a) = (4,s.extract a (a + rowL numB (s.data.toList.drop a)),((rowL numB (s.data.toList.drop a) : Nat) : Int)) := by
 show numP (rst s a) = _
 unfold numP
 rw [ext_list,if_neg (by rw [row_pos digB s a h hl]; omega),rst_ext s a _ (row_end s numB a (by omega))]
theorem r8_no (s : ByteArray) (a : Nat) (h : a < s.size) (hc : s[a] ≠ 36 ∨ rowL digB (s.data.toList.drop (a + 1)) = 0) : (rdP 8 (rst s a)).2.2 = 0 := by
 show (parP (rst s a)).2.2 = 0
 unfold parP
 rw [dol_hp s a h]
 by_cases h36 : s[a] = 36
 ·have hz : rowL digB (s.data.toList.drop (a + 1)) = 0 := hc.resolve_left (fun hh => hh h36)
  have : parN (rst s a) = 0 := by unfold parN; rw [dol_rest s a h h36]; exact hz
  rw [if_pos (.inr this)]; rfl
 ·rw [if_pos (.inl (decide_eq_false h36))]; rfl
theorem r8_yes (s : ByteArray) (a : Nat) (h : a < s.size) (hc : s[a] = 36) (hp : rowL digB (s.data.toList.drop (a + 1)) ≠ 0) : rdP 8 (rst s a) = (5,s.extract a (a + 1 + rowL digB (s.data.toList.drop (a + 1))),((1 + rowL digB (s.data.toList.drop (a + 1)) : Nat) : Int)) := by
 show parP (rst s a) = _
 unfold parP
 have e : parN (rst s a) = rowL digB (s.data.toList.drop (a + 1)) := by unfold parN; rw [dol_rest s a h hc]
 have hle := row_end s digB (a + 1) (by omega)
 rw [e,dol_hp s a h,decide_eq_true hc,if_neg (by rintro (h1 | h1); · cases h1
                                                 ·exact hp h1)]
 rw [rst_ext s a _ (by omega)]
 rw [show a + (rowL digB (s.data.toList.drop (a + 1)) + 1) = a + 1 + rowL digB (s.data.toList.drop (a + 1)) by omega,Nat.add_comm 1]
theorem r9_no (s : ByteArray) (a : Nat) (h : a < s.size) (hg : signI s[a] < 0) : (rdP 9 (rst s a)).2.2 = 0 := by
 show (signP (rst s a)).2.2 = 0
 unfold signP
 rw [ext_list,byte_at s a h]
 simp only [hg,if_true]; rfl
theorem r9_yes (s : ByteArray) (a : Nat) (h : a < s.size) (hg : ¬ signI s[a] < 0) : rdP 9 (rst s a) = (5,s.extract a (a + 1),1) := by
 show signP (rst s a) = _
 unfold signP
 rw [ext_list,byte_at s a h]
 simp only [hg,if_false]
 rw [rst_ext s a 1 (by omega)]
theorem cut_q (q : UInt8) (l : Tx) : (Lib.cut l [q]).1 = l.takeWhile (· != q) ∧ ((Lib.cut l [q]).2.2 = true ↔ q ∈ l) := by
 unfold Lib.cut
 induction l with
 | nil => rw [idx_nil _ (by simp)]; simp
 | cons c r ih =>
  rw [List.takeWhile_cons]
  by_cases h : c = q
  ·subst h
   have e : Lib.index (c :: r) [c] = 0 := by rw [idx_cons,if_pos]; simp
   rw [e]; simp
  ·have h1 : ¬ ([q] : Tx).isPrefixOf (c :: r) = true := by
    simp [List.isPrefixOf]; exact fun h2 => h h2.symm
   have h2 : (c != q) = true := by rw [bne_iff_ne]; exact h
   rw [idx_cons,if_neg h1,if_pos h2,← ih.1]
   have hge := Lib.index_ge r [q]
   by_cases h3 : Lib.index r [q] = -1
   ·rw [if_pos h3,if_neg (by omega),if_neg (by omega)]
    refine ⟨rfl,?_⟩
    have := ih.2
    rw [if_neg (by omega)] at this
    simp only [List.mem_cons]
    constructor
    ·intro hh; cases hh
    ·rintro (hh | hh)
     ·exact absurd hh.symm h
     ·exact this.2 hh
   ·rw [if_neg h3,if_pos (by omega),if_pos (by omega)]
    obtain ⟨n,hn⟩ : ∃ n : Nat,Lib.index r [q] = (n : Int) := ⟨(Lib.index r [q]).toNat,by omega⟩
    rw [hn]
    refine ⟨rfl,?_⟩
    have := ih.2
    rw [if_pos (by omega)] at this
    simp only [List.mem_cons]
    exact ⟨fun _ => .inr (this.1 rfl),fun _ => by first | rfl | trivial⟩

theorem dol_no_tag (c : UInt8) (h : tagB c = true) : c ≠ 36 := by
 intro h2; subst h2; exact absurd h (by decide)
theorem row_all (p : UInt8 → Bool) : ∀ (l : Tx),rowL p l = l.length → ∀ c ∈ l,p c = true := by
 intro l
 induction l with
 | nil => intro _ c hc; cases hc
 | cons x r ih =>
  intro h c hc
  rw [rowL_cons] at h
  by_cases hx : p x = true
  ·rw [if_pos hx] at h
   rcases List.mem_cons.1 hc with rfl | hc
   ·exact hx
   ·exact ih (by simpa using h) c hc
  ·rw [if_neg hx] at h; simp at h
theorem row_app (p : UInt8 → Bool) (x : Tx) (d : UInt8) (y : Tx) (h : ∀ c ∈ x,p c = true) (hd : p d = false) : rowL p (x ++ d :: y) = x.length := by
 induction x with
 | nil => rw [List.nil_append,rowL_cons,hd]; rfl
 | cons c r ih =>
  rw [List.cons_append,rowL_cons,if_pos (h c (by simp)),ih (fun c hc => h c (by simp [hc]))]
  rfl
theorem row_full (p : UInt8 → Bool) (x : Tx) (h : ∀ c ∈ x,p c = true) : rowL p x = x.length := by
 induction x with
 | nil => rfl
 | cons c r ih => rw [rowL_cons,if_pos (h c (by simp)),ih (fun c hc => h c (by simp [hc]))]; rfl
theorem row_take (p : UInt8 → Bool) (l : Tx) : ∀ c ∈ l.take (rowL p l),p c = true := by
 induction l with
 | nil => intro c hc; simp at hc
 | cons x r ih =>
  intro c hc
  rw [rowL_cons] at hc
  by_cases hx : p x = true
  ·rw [if_pos hx,List.take_succ_cons] at hc
   rcases List.mem_cons.1 hc with rfl | hc
   ·exact hx
   ·exact ih c hc
  ·rw [if_neg hx] at hc; simp at hc
theorem tw_app (x : Tx) (d : UInt8) (y : Tx) (h : ∀ c ∈ x,c ≠ d) : (x ++ d :: y).takeWhile (· != d) = x := by
 induction x with
 | nil => simp
 | cons c r ih =>
  have hc : (c != d) = true := by rw [bne_iff_ne]; exact h c (by simp)
  rw [List.cons_append,List.takeWhile_cons,if_pos hc,ih (fun c hc => h c (by simp [hc]))]
theorem tw_mem (d : UInt8) (l : Tx) (h : d ∈ l) : ∃ y,l = l.takeWhile (· != d) ++ d :: y := by
 induction l with
 | nil => cases h
 | cons c r ih =>
  by_cases hc : c = d
  ·subst hc; exact ⟨r,by simp⟩
  ·have h2 : (c != d) = true := by rw [bne_iff_ne]; exact hc
   obtain ⟨y,hy⟩ := ih ((List.mem_cons.1 h).resolve_left (fun e => hc e.symm))
   refine ⟨y,?_⟩
   rw [List.takeWhile_cons,if_pos h2,List.cons_append]
   congr 1
theorem tag_iff (M : Tx) : ((Lib.cut M [36]).2.2 && isTagL (Lib.cut M [36]).1) = decide ((M.drop (tagL M)).take 1 = [36]) ∧ ((M.drop (tagL M)).take 1 = [36] → (Lib.cut M [36]).1.length = tagL M) := by
 obtain ⟨hc1,hc2⟩ := cut_q 36 M
 have fwd : (Lib.cut M [36]).2.2 = true → isTagL (Lib.cut M [36]).1 = true → (M.drop (tagL M)).take 1 = [36] := by
  intro h1 h2
  obtain ⟨y,hy⟩ := tw_mem 36 M (hc2.1 h1)
  rw [hc1] at h2
  generalize M.takeWhile (· != 36) = U at *
  subst hy
  have ht : tagL (U ++ 36 :: y) = U.length := by
   unfold isTagL at h2
   cases U with
   | nil => rw [List.nil_append,tagL_cons,if_neg (by decide)]; rfl
   | cons c r =>
    simp only [List.isEmpty_cons,Bool.false_or,Bool.and_eq_true,decide_eq_true_iff] at h2
    obtain ⟨h3,h4⟩ := h2
    have hl : letB c = true := by
     rw [rowL_cons] at h3
     by_cases hx : letB c = true
     ·exact hx
     ·rw [if_neg hx] at h3; omega
    have ha := row_all tagB (c :: r) h4
    rw [List.cons_append,tagL_cons,if_pos hl,row_app tagB r 36 y (fun x hx => ha x (by simp [hx])) (by decide)]
    rfl
  rw [ht,List.drop_left]
  rfl
 have bwd : (M.drop (tagL M)).take 1 = [36] → (Lib.cut M [36]).2.2 = true ∧ isTagL (Lib.cut M [36]).1 = true ∧ (Lib.cut M [36]).1.length = tagL M := by
  intro h
  have hle := tagL_le M
  obtain ⟨y,hy⟩ : ∃ y,M.drop (tagL M) = 36 :: y := by
   cases hd : M.drop (tagL M) with
   | nil => rw [hd] at h; cases h
   | cons c r => rw [hd] at h; simp at h; subst h; exact ⟨r,rfl⟩
  have hM : M = M.take (tagL M) ++ 36 :: y := by rw [← hy,List.take_append_drop]
  have hall : ∀ c ∈ M.take (tagL M),tagB c = true := by
   intro c hc
   unfold tagL at hc
   split at hc
   ·simp at hc
   ·exact row_take tagB M c hc
  have hlen : (M.take (tagL M)).length = tagL M := by rw [List.length_take]; omega
  have hU : M.takeWhile (· != 36) = M.take (tagL M) := by
   have := tw_app (M.take (tagL M)) 36 y (fun c hc => dol_no_tag c (hall c hc))
   rw [← hM] at this
   exact this
  have hmem : (36 : UInt8) ∈ M := by rw [hM]; simp
  refine ⟨hc2.2 hmem,?_,by rw [hc1,hU,hlen]⟩
  rw [hc1,hU]
  unfold isTagL
  by_cases h0 : tagL M = 0
  ·rw [h0,List.take_zero]; rfl
  ·have hr : rowL letB M ≠ 0 := by
    intro hz; apply h0; unfold tagL; rw [if_pos hz]
   have hne : M ≠ [] := by rintro rfl; exact hr rfl
   obtain ⟨c,r,rfl⟩ : ∃ c r,M = c :: r := by
    cases M with
    | nil => exact absurd rfl hne
    | cons c r => exact ⟨c,r,rfl⟩
   have hl : letB c = true := by
    rw [rowL_cons] at hr
    by_cases hx : letB c = true
    ·exact hx
    ·rw [if_neg hx] at hr; exact absurd rfl hr
   obtain ⟨t,ht⟩ : ∃ t,tagL (c :: r) = t + 1 := ⟨tagL (c :: r) - 1,by omega⟩
   have hrf := row_full tagB _ hall
   rw [hrf]
   have h3 : 0 < rowL letB ((c :: r).take (tagL (c :: r))) := by
    rw [ht,List.take_succ_cons,rowL_cons,if_pos hl]; omega
   simp [h3]
 constructor
 ·rw [Bool.eq_iff_iff,Bool.and_eq_true,decide_eq_true_iff]
  exact ⟨fun h => fwd h.1 h.2,fun h => ⟨(bwd h).1,(bwd h).2.1⟩⟩
 ·exact fun h => (bwd h).2.2
theorem mark_eq (s : ByteArray) (a : Nat) (h : a < s.size) : markA (rst s a) = if s[a] = 36 ∧ 0 < tagAt s a then s.extract a (tagAt s a).toNat else ⟨#[]⟩ := by
 unfold markA
 rw [dol_hp s a h]
 by_cases hc : s[a] = 36
 ·have hcd : cutD (rst s a) = Lib.cut (s.data.toList.drop (a + 1)) [36] := by unfold cutD; rw [dol_rest s a h hc]
  obtain ⟨h1,h2⟩ := tag_iff (s.data.toList.drop (a + 1))
  rw [decide_eq_true hc,Bool.true_and,hcd,h1]
  have e : s.data.toList.drop (a + 1 + tagL (s.data.toList.drop (a + 1))) = (s.data.toList.drop (a + 1)).drop (tagL (s.data.toList.drop (a + 1))) := by rw [List.drop_drop]
  by_cases ht : ((s.data.toList.drop (a + 1)).drop (tagL (s.data.toList.drop (a + 1)))).take 1 = [36]
  ·have hta : tagAt s a = ((a + 1 + tagL (s.data.toList.drop (a + 1)) + 1 : Nat) : Int) := by unfold tagAt; rw [e,if_pos ht]
   have hlen : a + 1 + tagL (s.data.toList.drop (a + 1)) + 1 ≤ s.size := by
    have := congrArg List.length ht
    rw [List.length_take,List.length_drop,List.length_drop] at this
    simp only [List.length_singleton] at this
    have e2 : s.size = s.data.toList.length := rfl
    omega
   rw [decide_eq_true ht,if_pos rfl,if_pos ⟨hc,by rw [hta]; omega⟩,h2 ht,hta,Int.toNat_natCast,rst_ext s a _ (by omega)]
   rw [show a + (tagL (s.data.toList.drop (a + 1)) + 2) = a + 1 + tagL (s.data.toList.drop (a + 1)) + 1 by omega]
  ·have hta : tagAt s a = -1 := by unfold tagAt; rw [e,if_neg ht]
   rw [decide_eq_false ht,if_neg (by decide),if_neg (by rw [hta]; omega)]
 ·rw [decide_eq_false hc,if_neg (by simp),if_neg (fun hh => hc hh.1)]
theorem r6_no (s : ByteArray) (a : Nat) (h : a < s.size) (hc : s[a] ≠ 36 ∨ tagAt s a = -1) : (rdP 6 (rst s a)).2.2 = 0 := by
 show (dolP (rst s a)).2.2 = 0
 have hm := mark_eq s a h
 have hn : ¬ (s[a] = 36 ∧ 0 < tagAt s a) := by
  rintro ⟨h1,h2⟩
  rcases hc with hc | hc
  ·exact hc h1
  ·omega
 rw [if_neg hn] at hm
 unfold dolP
 rw [hm,if_pos (by rw [ByteArray.toList_eq]; rfl)]
 rfl
theorem r6_yes (s : ByteArray) (a : Nat) (h : a < s.size) (hc : s[a] = 36) (t : Nat) (ht : tagAt s a = (t : Int)) (hat : a < t) (hts : t ≤ s.size) :
  rdP 6 (rst s a) = (match dolAt s a t with | none => (0,⟨#[]⟩,-1) | some p => (3,bb p.1,((p.2 - a : Nat) : Int))) := by
 show dolP (rst s a) = _
 have hm := mark_eq s a h
 rw [if_pos ⟨hc,by omega⟩,ht,Int.toNat_natCast] at hm
 have hms : (markA (rst s a)).size = t - a := by rw [hm,ByteArray.size_extract]; omega
 have hcm : cutM (rst s a) = Lib.cut (s.data.toList.drop t) (s.extract a t).data.toList := by
  unfold cutM
  rw [hms,hm]
  congr 1
  have e : (rst s a).size = s.size - a := by rw [ByteArray.size_extract]; omega
  rw [e]
  have e2 : ((rst s a).extract (t - a) (s.size - a)) = (rst s a).extract (t - a) (rst s a).size := by rw [e]
  rw [e2,ext_list,ext_list,List.drop_drop]
  congr 1; omega
 unfold dolP
 have hne : ¬ ((markA (rst s a)).toList.isEmpty = true) := by
  rw [ByteArray.toList_eq]
  intro hh
  have : (markA (rst s a)).data.toList.length = 0 := by rw [List.isEmpty_iff.1 hh]; rfl
  have e : (markA (rst s a)).data.toList.length = (markA (rst s a)).size := rfl
  omega
 rw [if_neg hne,hcm,hms]
 unfold Lib.cut dolAt
 by_cases hi : 0 ≤ Lib.index (s.data.toList.drop t) (s.extract a t).data.toList
 ·rw [if_pos hi,if_pos hi,if_neg (by simp)]
  simp only
  obtain ⟨n,hn⟩ : ∃ n : Nat,Lib.index (s.data.toList.drop t) (s.extract a t).data.toList = (n : Int) := ⟨_,(Int.toNat_of_nonneg hi).symm⟩
  have hnl : n ≤ (s.data.toList.drop t).length := by
   rcases Lib.index_spec (s.data.toList.drop t) (s.extract a t).data.toList with ⟨h1,_⟩ | ⟨i,h1,h2,_⟩
   ·rw [hn] at h1; omega
   ·rw [hn] at h1; have : n = i := by omega
    rw [this]; exact h2
  rw [hn,Int.toNat_natCast]
  have hx : (bb ((s.data.toList.drop t).take n)).size = n := by rw [bb_size,List.length_take]; omega
  have hz : ((t - a : Nat) : Int) + (((bb ((s.data.toList.drop t).take n)).size : Nat) : Int) + ((t - a : Nat) : Int) = ((t + n + (t - a) - a : Nat) : Int) := by rw [hx]; omega
  exact congrArg (fun z => ((3 : Int),bb ((s.data.toList.drop t).take n),z)) hz
 ·rw [if_neg hi,if_neg hi,if_pos rfl]

def GoesOn (s : ByteArray) (a : Nat) (acc : List Tok) (r : Tok × Nat × Int) : Prop :=
 scanF s a acc = (if r.2.2 = 0 then scanF s r.2.1 (acc ++ [r.1]) else ([],r.2.2,(a : Int))) ∧ (r.2.2 = 0 → a < r.2.1 ∧ r.2.1 ≤ s.size)
theorem ok_of (s : ByteArray) (a : Nat) (acc : List Tok) (h : a < s.size) (k : Int) (t : ByteArray) (b n : Nat) (hn : a + n = b) (hk : k ≠ 0) (hf : findR 10 (rst s a) = some (k,t,(n : Int))) : GoesOn s a acc ((k,t,(a : Int)),b,0) := by
 have hsz := find_sized 10 (Nat.le_refl _) _ (by rw [ByteArray.size_extract]; omega) _ hf
 rw [ByteArray.size_extract] at hsz
 simp only at hsz
 have := scanF_step s a acc h k t n (by omega) hf
 rw [if_neg hk,hn] at this
 exact ⟨by rw [if_pos rfl]; exact this,fun _ => ⟨by simp only; omega,by simp only; omega⟩⟩
theorem bad_of (s : ByteArray) (a : Nat) (acc : List Tok) (h : a < s.size) (k : Int) (t : ByteArray) (hf : findR 10 (rst s a) = some (k,t,-1)) : GoesOn s a acc (tok0,0,6) :=
 ⟨by rw [if_neg (by decide)]; exact scanF_bad s a acc h _ hf rfl,fun h => absurd h (by decide)⟩
theorem none_of (s : ByteArray) (a : Nat) (acc : List Tok) (h : a < s.size) (hf : findR 10 (rst s a) = none) : GoesOn s a acc (tok0,0,7) :=
 ⟨by rw [if_neg (by decide)]; exact scanF_none s a acc h hf,fun h => absurd h (by decide)⟩
theorem below3 {P : Nat → Prop} (h0 : P 0) (h1 : P 1) (h2 : P 2) : ∀ j,j < 3 → P j := by
 intro j hj
 have : j = 0 ∨ j = 1 ∨ j = 2 := by omega
 rcases this with rfl | rfl | rfl
 ·exact h0
 ·exact h1
 ·exact h2
theorem upto_succ {P : Nat → Prop} {n : Nat} (h : ∀ j,j < n → P j) (hn : P n) : ∀ j,j < n + 1 → P j := by
 intro j hj
 by_cases e : j = n
 ·subst e; exact hn
 ·exact h j (by omega)
theorem dig_not (c : UInt8) (h : digB c = true) : c ≠ 34 ∧ c ≠ 39 ∧ c ≠ 36 := by
 refine ⟨?_,?_,?_⟩ <;> (rintro rfl; exact absurd h (by decide))
theorem scan_one (s : ByteArray) (a : Nat) (acc : List Tok) (hS : Solid s a) : GoesOn s a acc (oneP s a) := by
 have h := hS.lt
 have hh := head_at s a h
 have hb := hS.blank
 rw [hh] at hb
 have z0' : (rdP 0 (rst s a)).2.2 = 0 := by
  rw [z0,five_row s a h,hh,hb]; rfl
 have z3 := below3 (P := fun j => (rdP j (rst s a)).2.2 = 0) z0' (z1_no s a hS.line) (z2_no s a hS.rem)
 unfold oneP
 simp only [hh]
 by_cases hl : letB s[a] = true
 ·rw [if_pos hl]
  have e := r3_yes s a h hl
  have hf := find_first 3 (by omega) (rst s a) z3 (by rw [e]; have := row_pos wordB s a h (let_word _ hl); show ((rowL wordB (s.data.toList.drop a) : Nat) : Int) ≠ 0; omega)
  rw [e] at hf
  exact ok_of s a acc h 1 _ _ _ rfl (by decide) hf
 ·have hl2 : letB s[a] = false := by simpa using hl
  rw [if_neg hl]
  have z4 := upto_succ z3 (r3_no s a h hl2)
  by_cases hd : digB s[a] = true
  ·rw [if_pos hd]
   obtain ⟨n1,n2,n3⟩ := dig_not _ hd
   have z7 := upto_succ (upto_succ (upto_succ z4 (r45_no 34 2 s a h n1)) (r45_no 39 3 s a h n2)) (r6_no s a h (.inl n3))
   have e := r7_yes s a h hd
   have hf := find_first 7 (by omega) (rst s a) z7 (by rw [e]; have := row_pos numB s a h (dig_num _ hd); show ((rowL numB (s.data.toList.drop a) : Nat) : Int) ≠ 0; omega)
   rw [e] at hf
   exact ok_of s a acc h 4 _ _ _ rfl (by decide) hf
  ·have hd2 : digB s[a] = false := by simpa using hd
   rw [if_neg hd]
   by_cases h34 : s[a] = 34
   ·rw [if_pos h34]
    have e : rdP 4 (rst s a) = _ := r45_yes 34 2 s a h h34
    cases hq : quoAt s a 34 with
    | none =>
     rw [hq] at e
     have hf := find_first 4 (by omega) (rst s a) z4 (by rw [e]; show (-1 : Int) ≠ 0; decide)
     rw [e] at hf
     exact bad_of s a acc h _ _ hf
    | some p =>
     rw [hq] at e
     have hp : a < p.2 := by
      unfold quoAt at hq
      obtain ⟨r,_,rfl⟩ := Option.map_eq_some_iff.1 hq
      simp only; omega
     have hf := find_first 4 (by omega) (rst s a) z4 (by rw [e]; show ((p.2 - a : Nat) : Int) ≠ 0; omega)
     rw [e] at hf
     exact ok_of s a acc h 2 _ _ _ (by omega) (by decide) hf
   ·rw [if_neg h34]
    have z5 := upto_succ z4 (r45_no 34 2 s a h h34)
    by_cases h39 : s[a] = 39
    ·rw [if_pos h39]
     have e : rdP 5 (rst s a) = _ := r45_yes 39 3 s a h h39
     cases hq : quoAt s a 39 with
     | none =>
      rw [hq] at e
      have hf := find_first 5 (by omega) (rst s a) z5 (by rw [e]; show (-1 : Int) ≠ 0; decide)
      rw [e] at hf
      exact bad_of s a acc h _ _ hf
     | some p =>
      rw [hq] at e
      have hp : a < p.2 := by
       unfold quoAt at hq
       obtain ⟨r,_,rfl⟩ := Option.map_eq_some_iff.1 hq
       simp only; omega
      have hf := find_first 5 (by omega) (rst s a) z5 (by rw [e]; show ((p.2 - a : Nat) : Int) ≠ 0; omega)
      rw [e] at hf
      exact ok_of s a acc h 3 _ _ _ (by omega) (by decide) hf
    ·rw [if_neg h39]
     have z6 := upto_succ z5 (r45_no 39 3 s a h h39)
     by_cases h36 : s[a] = 36
     ·rw [if_pos h36]
      rcases tagAt_cases s a h with ht | ⟨t1,t2,t3⟩
      ·rw [if_neg (by omega)]
       have z8 := upto_succ (upto_succ z6 (r6_no s a h (.inr ht))) (r7_no s a h hd2)
       by_cases hp : rowL digB (s.data.toList.drop (a + 1)) = 0
       ·rw [if_pos hp]
        have z10 := upto_succ (upto_succ z8 (r8_no s a h (.inr hp))) (r9_no s a h (by rw [h36]; decide))
        exact none_of s a acc h (find_none _ z10)
       ·rw [if_neg hp]
        have e := r8_yes s a h h36 hp
        have hf := find_first 8 (by omega) (rst s a) z8 (by rw [e]; show ((1 + rowL digB (s.data.toList.drop (a + 1)) : Nat) : Int) ≠ 0; omega)
        rw [e] at hf
        exact ok_of s a acc h 5 _ _ _ (by omega) (by decide) hf
      ·rw [if_pos (by omega)]
       have e := r6_yes s a h h36 _ t3 (by omega) t2
       cases hq : dolAt s a (tagAt s a).toNat with
       | none =>
        rw [hq] at e
        have hf := find_first 6 (by omega) (rst s a) z6 (by rw [e]; show (-1 : Int) ≠ 0; decide)
        rw [e] at hf
        exact bad_of s a acc h _ _ hf
       | some p =>
        rw [hq] at e
        have hp : a < p.2 := by
         unfold dolAt at hq
         split at hq
         ·cases hq; simp only; omega
         ·cases hq
        have hf := find_first 6 (by omega) (rst s a) z6 (by rw [e]; show ((p.2 - a : Nat) : Int) ≠ 0; omega)
        rw [e] at hf
        exact ok_of s a acc h 3 _ _ _ (by omega) (by decide) hf
     ·rw [if_neg h36]
      have z9 := upto_succ (upto_succ (upto_succ z6 (r6_no s a h (.inl h36))) (r7_no s a h hd2)) (r8_no s a h (.inl h36))
      by_cases hg : signI s[a] < 0
      ·rw [if_pos hg]
       exact none_of s a acc h (find_none _ (upto_succ z9 (r9_no s a h hg)))
      ·rw [if_neg hg]
       have e := r9_yes s a h hg
       have hf := find_first 9 (by omega) (rst s a) z9 (by rw [e]; show (1 : Int) ≠ 0; decide)
       rw [e] at hf
       exact ok_of s a acc h 5 _ _ 1 rfl (by decide) hf

theorem TR.block {w : World} {h : Nat} {l : List Tok} {T : TypeId} (hb : w.heap[h]? = some (.cells (tokRow l).toArray T (0,0))) : TR w (.slice (some ⟨h,0,none⟩) l.length l.length) l := by
 refine .inr ⟨h,0,l.length,rfl,Nat.le_refl _,fun i t hi => ?_⟩
 obtain ⟨a,b,c⟩ := tokRow_get l i t hi
 simp only [Nat.zero_add]
 refine ⟨?_,?_,?_⟩ <;> rw [Lib.cell_of_heap hb] <;> simpa using (by assumption)
theorem TR.inv {w : World} {v : Value} {l : List Tok} (h : TR w v l) (n : Nat) (hn : l.length = n) (hp : 0 < n) : ∃ g off cap,v = .slice (some ⟨g,off,none⟩) n cap ∧ n ≤ cap ∧ ∀ (i : Nat) (t : Tok),l[i]? = some t →
  w.cell? ⟨g,off + i * 3,none⟩ = some (.int .i64 t.1) ∧ w.cell? ⟨g,off + i * 3 + 1,none⟩ = some (.string t.2.1) ∧ w.cell? ⟨g,off + i * 3 + 2,none⟩ = some (.int .i64 t.2.2) := by
 subst hn
 rcases h with ⟨A,cap,_,rfl⟩ | ⟨g,off,cap,e,hc,hx⟩
 ·simp at hp
 ·exact ⟨g,off,cap,e,hc,hx⟩
def ScanQ (w : World) (v : Value) (r : List Tok) (w' : World) : Prop := TR w' v r ∧ Below w.heap.size w w'
theorem scan_out (s : ByteArray) (r : List Tok × Int × Int) (e : scanA s = r) (m : Int) (w : World) (hm : Wd m w) :
  Calls Tryz.prog 81 #[.string s] w fun e w' => ∃ v,e = .returned (.tuple #[v,.int .i64 r.2.1,.int .i64 r.2.2]) ∧ ScanQ w v r.1 w' := by
 subst e
 exact (scan_any s m w hm).mono fun e w' ⟨v,h1,h2,h3⟩ => ⟨v,h1,TR.own h2,h3⟩

structure RsI (w : World) (l : List Tok) (v : Value) (wr : World) : Prop where
 bel : Below w.heap.size w wr
 row : wr.ownsRow w.heap.size 118 3 v l.length (tokRow l)
theorem RsI.step {w wr w2 : World} {l : List Tok} {v : Value} (h : RsI w l v wr) (b : Below wr.heap.size wr w2) : RsI w l v w2 :=
 ⟨h.bel.trans (b.mono h.bel.size),ownsRow_below h.row b⟩
theorem RsI.more {w wr w2 : World} {l : List Tok} {v v2 : Value} (h : RsI w l v wr) (t : Tok) (g : wr.grownBy w2 v.ownBlock)
  (r : w2.ownsRow w.heap.size 118 3 v2 (l.length + 1) (tokRow l ++ tokCells t)) : RsI w (l ++ [t]) v2 w2 :=
 ⟨h.bel.grown g h.bel.size (fun k hk => (World.ownsRow.lt h.row k hk).1),by rw [List.length_append,show tokRow (l ++ [t]) = tokRow l ++ tokCells t by simp [tokRow]]; exact r⟩
def ScanT (w : World) (r : List Tok × Int × Int) (e : Ending) (w' : World) : Prop := ∃ v,e = .returned (.tuple #[v,.int .i64 r.2.1,.int .i64 r.2.2]) ∧ ScanQ w v r.1 w'
set_option maxHeartbeats 2000000 in
set_option maxRecDepth 100000 in
theorem rscan_small (s : ByteArray) (w : World) (hs : s.size ≤ 2000) (R : List Tok × Int × Int) (hR : R = scanF s 0 []) :
  Calls Tryz.prog 37 #[.string s] w (ScanT w R) := by
 have hl : ¬ ((2000 : Int) < (s.size : Int)) := by omega
 obtain ⟨i30,hi30,hz30,hs30,hb30⟩ := i30_parts
 have hgap := fun a (ha : a ≤ s.size) w => rgap_any s a w (by omega) ha _ rfl
 have hgp := fun a acc (ha : a ≤ s.size) => scan_gap s acc (s.size - a) (s.size + 1) a (Nat.le_refl _) (by omega) ha
 have HGP := Lib.hid hgp
 have hg0 := hgap 0 (Nat.zero_le _)
 have h0 := hgp 0 [] (Nat.zero_le _)
 rw [← hR] at h0
 generalize gapN (s.size + 1) s 0 = G at *
 obtain ⟨a0,b0⟩ := G
 have HG0 := Lib.hid hg0
 have H0 := Lib.hid h0
 have HGAP := Lib.hid hgap
 clear hgap hgp hg0 h0 hR
 go_enter Tryz.func37,Tryz.ntmps37
 have hg0' : ∀ w,Calls Tryz.prog 77 #[.string s,.int .i64 0] w fun e w' => e = .returned (.tuple #[.int .i64 (a0 : Int),.bool b0]) ∧ w' = w := HG0.out
 have HG1 := Lib.hid hg0'
 clear hg0'
 go_wp2_with (go_at_call 77; (with_reducible refine (HG1.out _).mono ?_); rintro e w1 ⟨rfl,hw1⟩; obtain rfl := hw1.symm)
 go_loopg [5,6,7] s.size (fun g u5 u6 u7 wx => ∃ (a : Nat) (bd : Bool) (l : List Tok),u6 = .int .i64 (a : Int) ∧ u7 = .bool bd ∧ a ≤ s.size ∧ s.size - a ≤ g ∧ l.length ≤ a ∧ RsI w l u5 wx ∧
  R = (if bd = true then ([],6,(a : Int)) else scanF s a l) ∧ (bd = false → a < s.size → Solid s a))
 case atStart =>
  obtain ⟨q1,q2,q3,q4⟩ := H0.out
  exact ⟨a0,b0,[],rfl,rfl,q3,by omega,Nat.zero_le _,⟨Below.refl _ _,World.ownsRow_nil _ _ _ _⟩,q1,q4⟩
 case round =>
  obtain ⟨a,bd,l,rfl,rfl,ha,hg,hla,hI,hv,hso⟩ := hrel
  clear HG0 HG1 H0
  have HI := Lib.hid hI
  clear hI
  cases bd with
  | true =>
   have hv2 : R = ([],6,(a : Int)) := by rw [hv,if_pos rfl]
   have HV := Lib.hid hv2
   clear hv hso hv2
   by_cases hlt : (a : Int) < (s.size : Int)
   ·go_wp2
    go_ret3
    rw [HV.out]
    exact ⟨_,rfl,.inl ⟨_,_,rfl,rfl⟩,HI.out.bel⟩
   ·go_wp2
    go_ret3
    rw [HV.out]
    exact ⟨_,rfl,.inl ⟨_,_,rfl,rfl⟩,HI.out.bel⟩
  | false =>
   have hv2 : R = scanF s a l := by rw [hv,if_neg (by decide)]
   by_cases hlt : a < s.size
   ·obtain ⟨g,rfl⟩ : ∃ g,gk = g + 1 := ⟨gk - 1,by omega⟩
    have l1 : (a : Int) < (s.size : Int) := by omega
    obtain ⟨o1,o2⟩ := scan_one s a l (hso rfl hlt)
    rw [← hv2] at o1
    have hone := fun w => rone_any s a hlt w (by omega)
    generalize oneP s a = r at *
    obtain ⟨⟨k,t,p⟩,b,er⟩ := r
    simp only at o1 o2
    have hone2 : ∀ w,Calls Tryz.prog 78 #[.string s,.int .i64 (a : Int)] w fun e w' => e = .returned (.tuple #[.agg #[.int .i64 k,.string t,.int .i64 p],.int .i64 (b : Int),.int .i64 er]) ∧ Below w.heap.size w w' := hone
    have HONE := Lib.hid hone2
    clear hone hone2 hv hv2 hso
    by_cases he : er = 0
    ·subst he
     rw [if_pos rfl] at o1
     obtain ⟨ob1,ob2⟩ := o2 rfl
     have hga := HGAP.out b ob2
     have hgp := HGP.out b (l ++ [(k,t,p)]) ob2
     rw [← o1] at hgp
     generalize gapN (s.size + 1) s b = G at *
     obtain ⟨a2,b2⟩ := G
     have hga' : ∀ w,Calls Tryz.prog 77 #[.string s,.int .i64 (b : Int)] w fun e w' => e = .returned (.tuple #[.int .i64 (a2 : Int),.bool b2]) ∧ w' = w := hga
     have HGA := Lib.hid hga'
     have HGQ := Lib.hid hgp
     have HOB := Lib.hid (And.intro ob1 ob2)
     clear o1 o2 hga hga' hgp ob1 ob2
     go_wp2_with (first
      | (go_at_call 78; (with_reducible refine (HONE.out _).mono ?_); rintro e w2 ⟨rfl,hb2⟩; have HI3 := Lib.hid (HI.out.step hb2); clear hb2)
      | (go_at_call 77; (with_reducible refine (HGA.out _).mono ?_); rintro e w1 ⟨rfl,hw1⟩; obtain rfl := hw1.symm)
      | (at_builtin; go_must (
        refine wpList_append_own_wide _ rfl _ _ 72 rfl w.heap.size 118 i30 (.agg #[.int .i64 0,.string ByteArray.empty,.int .i64 0]) 3 32 und23 hi30 hz30 hs30 hb30 rfl (by decide) u5 l.length (tokRow l) rfl ((HI3.out.row.alloc _).alloc _) ⟨w2.heap.size + 1,0,none⟩ 1 1 (tokCells (k,t,p)) rfl rfl ?c1 ?c2 ?c3 ?c4 ?c5 ?_
        case c1 => exact tok_cells2 w2 _ (k,t,p)
        case c2 => exact tok_one _
        case c3 => unfold maxLen; omega
        case c4 => omega
        case c5 => have := HI3.out.bel.size; simp; omega
        intro v9 w9 hown9 hgr9 _)))
     have HI4 := HI3.out.step (two_below w2 (.cells #[.int .i64 k,.string t,.int .i64 p] 118) (.cells #[.int .i64 k,.string t,.int .i64 p] 118))
     have HI5 := Lib.hid (HI4.more (k,t,p) hgr9 hown9)
     clear HI4
     go_roundg g
     case measure => omega
     case rel =>
      obtain ⟨q1,q2,q3,q4⟩ := HGQ.out
      exact ⟨a2,b2,l ++ [(k,t,p)],rfl,rfl,q3,by have := HOB.out; have q5 : b ≤ a2 := q2; omega,by rw [List.length_append,List.length_singleton]; have := HOB.out; have q5 : b ≤ a2 := q2; omega,HI5.out,q1,q4⟩
    ·rw [if_neg he] at o1
     have he2 : (er != (0 : Int)) = true := by rw [bne_iff_ne]; exact he
     have HV := Lib.hid o1
     clear o1 o2 he
     go_wp2_with (go_at_call 78; (with_reducible refine (HONE.out _).mono ?_); rintro e w2 ⟨rfl,hb2⟩; have HI3 := Lib.hid (HI.out.step hb2); clear hb2)
     go_ret3
     rw [HV.out]
     exact ⟨_,rfl,.inl ⟨_,_,rfl,rfl⟩,HI3.out.bel.trans (((Below.refl _ _).alloc (Nat.le_refl _) _).mono HI3.out.bel.size)⟩
   ·have l1 : ¬ ((a : Int) < (s.size : Int)) := by omega
    have hv3 : R = (l,0,0) := by rw [hv2,scanF_end s a l (by omega)]
    have HV := Lib.hid hv3
    clear hv hv2 hv3 hso
    go_wp2
    go_ret3
    rw [HV.out]
    exact ⟨_,rfl,TR.own HI.out.row,HI.out.bel⟩
theorem scanA_F (s : ByteArray) (h : s.size ≤ 2000) : scanA s = scanF s 0 [] := if_neg (by omega)
theorem rscan_any (s : ByteArray) (w : World) :
  Calls Tryz.prog 37 #[.string s] w (ScanT w (scanA s)) := by
 by_cases h : 2000 < s.size
 ·have e : scanA s = ([],2,2000) := if_pos h
  rw [e]
  have hl : (2000 : Int) < (s.size : Int) := by omega
  clear e
  go_enter Tryz.func37,Tryz.ntmps37
  go_wp2
  go_ret3
  exact ⟨_,rfl,.inl ⟨_,_,rfl,rfl⟩,Below.refl _ _⟩
 ·exact rscan_small s w (by omega) _ (scanA_F s (by omega))

theorem scan_ind (s : ByteArray) (P : Nat → List Tok → (List Tok × Int × Int) → Prop)
  (hend : ∀ a acc,s.size ≤ a → P a acc (acc,0,0))
  (hgap : ∀ a b acc r,a ≤ b → b ≤ s.size → P b acc r → P a acc r)
  (hbad : ∀ (a : Nat) acc (e : Int),a ≤ s.size → e ≠ 0 → P a acc ([],e,(a : Int)))
  (htok : ∀ a acc r,Solid s a → (oneP s a).2.2 = 0 → a < (oneP s a).2.1 → (oneP s a).2.1 ≤ s.size → P (oneP s a).2.1 (acc ++ [(oneP s a).1]) r → P a acc r) :
  ∀ a acc,a ≤ s.size → P a acc (scanF s a acc) := by
 have key : ∀ n a acc,s.size - a ≤ n → a ≤ s.size → P a acc (scanF s a acc) := by
  intro n
  induction n with
  | zero =>
   intro a acc hn ha
   rw [scanF_end s a acc (by omega)]
   exact hend a acc (by omega)
  | succ n ih =>
   intro a acc hn ha
   obtain ⟨g1,g2,g3,g4⟩ := scan_gap s acc (s.size - a) (s.size + 1) a (Nat.le_refl _) (by omega) ha
   rw [g1]
   refine hgap a _ acc _ g2 g3 ?_
   cases hb : (gapN (s.size + 1) s a).2 with
   | true => rw [if_pos rfl]; exact hbad _ acc 6 g3 (by decide)
   | false =>
    rw [if_neg (by decide)]
    by_cases hlt : (gapN (s.size + 1) s a).1 < s.size
    ·have hS := g4 hb hlt
     obtain ⟨o1,o2⟩ := scan_one s _ acc hS
     rw [o1]
     by_cases he : (oneP s (gapN (s.size + 1) s a).1).2.2 = 0
     ·rw [if_pos he]
      obtain ⟨o3,o4⟩ := o2 he
      exact htok _ acc _ hS he o3 o4 (ih _ _ (by omega) o4)
     ·rw [if_neg he]; exact hbad _ acc _ g3 he
    ·rw [scanF_end s _ acc (by omega)]
     exact hend _ acc (by omega)
 exact fun a acc ha => key (s.size - a) a acc (Nat.le_refl _) ha
theorem betL_txt (q : UInt8) (l : Tx) : ∀ p,betL q l = some p → p.1.length ≤ p.2 := by
 intro p
 induction hn : l.length using Nat.strongRecOn generalizing l p with
 | _ n ih =>
  intro h
  cases l with
  | nil => cases h
  | cons c r =>
   rw [betL_cons] at h
   split at h
   ·cases r with
    | nil => simp at h; subst h; simp
    | cons d r2 =>
     simp only at h
     split at h
     ·rw [Option.map_eq_some_iff] at h
      obtain ⟨k,hk,rfl⟩ := h
      have := ih r2.length (by simp at hn; omega) r2 k rfl hk
      simp; omega
     ·simp at h; subst h; simp
   ·rw [Option.map_eq_some_iff] at h
    obtain ⟨k,hk,rfl⟩ := h
    have := ih r.length (by simp at hn; omega) r k rfl hk
    simp; omega
theorem ext_size_le (s : ByteArray) (a b : Nat) : (s.extract a b).size ≤ s.size := by rw [ByteArray.size_extract]; omega
theorem small_size (s : ByteArray) : (smallA s).size = s.size := by
 unfold smallA
 show (s.data.toList.map lowB).toArray.size = _
 rw [List.size_toArray,List.length_map]; rfl
theorem quo_txt (s : ByteArray) (a : Nat) (q : UInt8) (p : Tx × Nat) (h : quoAt s a q = some p) : (bb p.1).size ≤ s.size := by
 unfold quoAt at h
 obtain ⟨r,hr,rfl⟩ := Option.map_eq_some_iff.1 h
 have h1 := betL_txt q _ r hr
 have h2 := betL_le q _ r hr
 rw [List.length_drop] at h2
 rw [bb_size]
 have e : s.size = s.data.toList.length := rfl
 simp only; omega
theorem one_txt (s : ByteArray) (a : Nat) : (oneP s a).1.2.1.size ≤ s.size := by
 unfold oneP
 simp only
 have h0 : (⟨#[]⟩ : ByteArray).size ≤ s.size := Nat.zero_le _
 split
 ·simp only; rw [small_size]; exact ext_size_le _ _ _
 ·split
  ·exact ext_size_le _ _ _
  ·split
   ·cases hq : quoAt s a 34 with
    | none => exact h0
    | some p => exact quo_txt s a 34 p hq
   ·split
    ·cases hq : quoAt s a 39 with
     | none => exact h0
     | some p => exact quo_txt s a 39 p hq
    ·split
     ·split
      ·cases hq : dolAt s a (tagAt s a).toNat with
       | none => exact h0
       | some p =>
        unfold dolAt at hq
        split at hq
        ·cases hq
         simp only
         rw [bb_size,List.length_take,List.length_drop]
         have e : s.size = s.data.toList.length := rfl
         omega
        ·cases hq
      ·split
       ·exact h0
       ·exact ext_size_le _ _ _
     ·split
      ·exact h0
      ·exact ext_size_le _ _ _
theorem scan_txt (s : ByteArray) (a : Nat) (acc : List Tok) (ha : a ≤ s.size) (h : ∀ t ∈ acc,t.2.1.size ≤ s.size) : ∀ t ∈ (scanF s a acc).1,t.2.1.size ≤ s.size :=
 scan_ind s (fun a acc r => (∀ t ∈ acc,t.2.1.size ≤ s.size) → ∀ t ∈ r.1,t.2.1.size ≤ s.size) (fun a acc h h2 => h2) (fun a b acc r h1 h2 h3 => h3) (fun a acc e h1 h2 h3 t ht => by cases ht)
  (fun a acc r hS he h1 h2 h3 h4 => h3 fun t ht => by
   rcases List.mem_append.1 ht with ht | ht
   ·exact h4 t ht
   ·simp at ht; subst ht; exact one_txt s a) a acc ha h
theorem scanA_txt (s : ByteArray) : ∀ t ∈ (scanA s).1,t.2.1.size ≤ 2000 := by
 by_cases h : 2000 < s.size
 ·have e : scanA s = ([],2,2000) := if_pos h
  rw [e]; intro t ht; cases ht
 ·rw [scanA_F s (by omega)]
  intro t ht
  have := scan_txt s 0 [] (Nat.zero_le _) (fun t ht => by cases ht) t ht
  omega

def Gap (l : Tx) : Prop := l = [] ∨ ∃ r,l = 32 :: r
def Good (k : Int) (t : ByteArray) : Prop := ∀ (x : ByteArray) (a : Nat) (rest : Tx) (p : Int),x.data.toList.drop a = shownL (k,t,p) ++ rest → Gap rest → Solid x a ∧ oneP x a = ((k,t,(a : Int)),a + (shownL (k,t,p)).length,0)
theorem row_gap (p : UInt8 → Bool) (l rest : Tx) (hp : ∀ c ∈ l,p c = true) (h32 : p 32 = false) (hg : Gap rest) : rowL p (l ++ rest) = l.length := by
 rcases hg with rfl | ⟨r,rfl⟩
 ·rw [List.append_nil]; exact row_full p l hp
 ·exact row_app p l 32 r hp h32
theorem head_lt (x : ByteArray) (a : Nat) (c : UInt8) (r : Tx) (h : x.data.toList.drop a = c :: r) : a < x.size ∧ (x.data.toList.drop a).headD 0 = c ∧ x.data.toList.drop (a + 1) = r := by
 have h1 := congrArg List.length h
 rw [List.length_drop,List.length_cons] at h1
 refine ⟨by have e : x.size = x.data.toList.length := rfl
            omega,by rw [h]; rfl,?_⟩
 rw [← List.drop_drop,h]; rfl
theorem ext_at (x : ByteArray) (a n : Nat) (l rest : Tx) (h : x.data.toList.drop a = l ++ rest) (hn : n = l.length) : x.extract a (a + n) = bb l := by
 apply ByteArray.ext
 apply Array.ext'
 rw [ByteArray.data_extract,Array.toList_extract,List.extract_eq_take_drop,h,show a + n - a = n by omega,hn]
 simp
def five_bytesT (c : UInt8) : Bool := !(fiveQ c) || (!(wordB c) && !(numB c) && decide (signI c < 0) && (c != 34) && (c != 39) && (c != 36) && (c != 45) && (c != 47))
theorem five_bytes : ((List.range 256).all fun n => five_bytesT (UInt8.ofNat n)) = true := by kernel_rfl
theorem byte_all {f : UInt8 → Bool} (h : ((List.range 256).all fun n => f (UInt8.ofNat n)) = true) (c : UInt8) : f c = true := by
 have := List.all_eq_true.1 h c.toNat (List.mem_range.2 c.toNat_lt)
 simpa using this
theorem not_five (c : UInt8) (h : wordB c = true ∨ numB c = true ∨ 0 ≤ signI c ∨ c = 34 ∨ c = 39 ∨ c = 36) : fiveQ c = false := by
 have h0 := byte_all (f := five_bytesT) five_bytes c
 unfold five_bytesT at h0
 cases hf : fiveQ c with
 | false => rfl
 | true =>
  rw [hf] at h0
  simp only [Bool.not_true,Bool.false_or,Bool.and_eq_true,Bool.not_eq_true',decide_eq_true_iff,bne_iff_ne] at h0
  obtain ⟨⟨⟨⟨⟨⟨⟨h1,h2⟩,h3⟩,h4⟩,h5⟩,h6⟩,h7⟩,h8⟩ := h0
  rcases h with h | h | h | h | h | h
  ·rw [h1] at h; cases h
  ·rw [h2] at h; cases h
  ·omega
  ·exact absurd h h4
  ·exact absurd h h5
  ·exact absurd h h6
theorem solid_of (x : ByteArray) (a : Nat) (c : UInt8) (r : Tx) (h : x.data.toList.drop a = c :: r) (hc : fiveQ c = false) (h45 : c ≠ 45 ∨ r.take 1 ≠ [45]) (h47 : c ≠ 47 ∨ r.take 1 ≠ [42]) : Solid x a := by
 obtain ⟨h1,h2,h3⟩ := head_lt x a c r h
 refine ⟨h1,by rw [h2]; exact hc,?_,?_⟩
 ·rw [h,List.take_succ_cons]
  intro hh
  injection hh with h4 h5
  rcases h45 with h6 | h6
  ·exact h6 h4
  ·exact h6 h5
 ·rw [h,List.take_succ_cons]
  intro hh
  injection hh with h4 h5
  rcases h47 with h6 | h6
  ·exact h6 h4
  ·exact h6 h5
def word_bytesT (c : UInt8) : Bool := !(wordB c) || ((c != 45) && (c != 47))
theorem word_bytes : ((List.range 256).all fun n => word_bytesT (UInt8.ofNat n)) = true := by kernel_rfl
def num_bytesT (c : UInt8) : Bool := !(numB c) || ((c != 45) && (c != 47))
theorem num_bytes : ((List.range 256).all fun n => num_bytesT (UInt8.ofNat n)) = true := by kernel_rfl
def low_bytesT (c : UInt8) : Bool := (lowB (lowB c) == lowB c) && (wordB (lowB c) == wordB c) && (letB (lowB c) == letB c)
theorem low_bytes : ((List.range 256).all fun n => low_bytesT (UInt8.ofNat n)) = true := by kernel_rfl
theorem low_facts (c : UInt8) : lowB (lowB c) = lowB c ∧ wordB (lowB c) = wordB c ∧ letB (lowB c) = letB c := by
 have h0 := byte_all (f := low_bytesT) low_bytes c
 unfold low_bytesT at h0
 simp only [Bool.and_eq_true,beq_iff_eq] at h0
 exact ⟨h0.1.1,h0.1.2,h0.2⟩
def dl_bytesT (c : UInt8) : Bool := !(digB c) || !(letB c)
theorem dl_bytes : ((List.range 256).all fun n => dl_bytesT (UInt8.ofNat n)) = true := by kernel_rfl
theorem dig_let (c : UInt8) (h : digB c = true) : letB c = false := by
 have := byte_all (f := dl_bytesT) dl_bytes c
 unfold dl_bytesT at this
 rw [h] at this
 simpa using this
theorem good_word (l : Tx) (c : UInt8) (r : Tx) (hl : l = c :: r) (hc : letB c = true) (ha : ∀ d ∈ l,wordB d = true) (hlow : ∀ d ∈ l,lowB d = d) : Good 1 (bb l) := by
 intro x a rest p hd hg
 have hsh : shownL (1,bb l,p) = l := rfl
 rw [hsh] at hd ⊢
 have hd2 := hd
 rw [hl,List.cons_append] at hd2
 obtain ⟨h1,h2,h3⟩ := head_lt x a c _ hd2
 have hw : wordB c = true := ha c (by rw [hl]; simp)
 have hb := byte_all (f := word_bytesT) word_bytes c
 unfold word_bytesT at hb
 rw [hw] at hb
 simp only [Bool.not_true,Bool.false_or,Bool.and_eq_true,bne_iff_ne] at hb
 refine ⟨solid_of x a c _ hd2 (not_five c (.inl hw)) (.inl hb.1) (.inl hb.2),?_⟩
 unfold oneP
 simp only [h2]
 rw [if_pos hc,hd,row_gap wordB l rest ha (by decide) hg,ext_at x a l.length l rest hd rfl]
 have : smallA (bb l) = bb l := by
  unfold smallA
  have hm : l.map lowB = l := by
   conv => rhs; rw [← List.map_id l]
   exact List.map_congr_left fun d hd => hlow d hd
  show bb (l.map lowB) = bb l
  rw [hm]
 rw [this]
theorem good_num (l : Tx) (c : UInt8) (r : Tx) (hl : l = c :: r) (hc : digB c = true) (ha : ∀ d ∈ l,numB d = true) : Good 4 (bb l) := by
 intro x a rest p hd hg
 have hsh : shownL (4,bb l,p) = l := rfl
 rw [hsh] at hd ⊢
 have hd2 := hd
 rw [hl,List.cons_append] at hd2
 obtain ⟨h1,h2,h3⟩ := head_lt x a c _ hd2
 have hw : numB c = true := ha c (by rw [hl]; simp)
 have hb := byte_all (f := num_bytesT) num_bytes c
 unfold num_bytesT at hb
 rw [hw] at hb
 simp only [Bool.not_true,Bool.false_or,Bool.and_eq_true,bne_iff_ne] at hb
 refine ⟨solid_of x a c _ hd2 (not_five c (.inr (.inl hw))) (.inl hb.1) (.inl hb.2),?_⟩
 unfold oneP
 simp only [h2]
 rw [if_neg (by rw [dig_let c hc]; decide),if_pos hc,hd,row_gap numB l rest ha (by decide) hg,ext_at x a l.length l rest hd rfl]
theorem bet_dbl (q : UInt8) (l rest : Tx) (hr : ∀ r,rest ≠ q :: r) : betL q (dblL q l ++ q :: rest) = some (l,(dblL q l).length + 1) := by
 induction l with
 | nil =>
  show betL q (q :: rest) = _
  rw [betL_cons,if_pos rfl]
  cases rest with
  | nil => rfl
  | cons d r =>
   have : d ≠ q := fun h => hr r (by rw [h])
   simp only [this,if_false]; rfl
 | cons c r ih =>
  have e : dblL q (c :: r) = (if c = q then [q,q] else [c]) ++ dblL q r := by simp [dblL]
  rw [e]
  by_cases hc : c = q
  ·subst hc
   rw [if_pos rfl]
   show betL c (c :: c :: (dblL c r ++ c :: rest)) = _
   rw [betL_cons,if_pos rfl]
   simp only [if_true]
   rw [ih]
   simp
  ·rw [if_neg hc]
   show betL q (c :: (dblL q r ++ q :: rest)) = _
   rw [betL_cons,if_neg hc,ih]
   simp
theorem quo_gap (q : UInt8) (hq : q ≠ 32) (t : ByteArray) (x : ByteArray) (a : Nat) (rest : Tx) (hd : x.data.toList.drop a = quoL q t.data.toList ++ rest) (hg : Gap rest) : quoAt x a q = some (t.data.toList,a + (quoL q t.data.toList).length) := by
 have hd2 : x.data.toList.drop a = q :: (dblL q t.data.toList ++ q :: rest) := by rw [hd]; simp [quoL]
 obtain ⟨h1,h2,h3⟩ := head_lt x a q _ hd2
 unfold quoAt
 rw [h3,bet_dbl q _ rest]
 ·simp [quoL]; omega
 ·intro r hr
  rcases hg with rfl | ⟨r2,rfl⟩
  ·cases hr
  ·injection hr with h4; exact hq h4.symm
theorem good_str (t : ByteArray) : Good 3 t := by
 intro x a rest p hd hg
 have hsh : shownL (3,t,p) = quoL 39 t.data.toList := rfl
 rw [hsh] at hd ⊢
 have hd2 : x.data.toList.drop a = 39 :: (dblL 39 t.data.toList ++ 39 :: rest) := by rw [hd]; simp [quoL]
 obtain ⟨h1,h2,h3⟩ := head_lt x a 39 _ hd2
 refine ⟨solid_of x a 39 _ hd2 (by decide) (.inl (by decide)) (.inl (by decide)),?_⟩
 unfold oneP
 simp only [h2]
 rw [if_neg (by decide),if_neg (by decide),if_neg (by decide),if_pos trivial,quo_gap 39 (by decide) t x a rest hd hg]
theorem good_quoted (t : ByteArray) : Good 2 t := by
 intro x a rest p hd hg
 have hsh : shownL (2,t,p) = quoL 34 t.data.toList := rfl
 rw [hsh] at hd ⊢
 have hd2 : x.data.toList.drop a = 34 :: (dblL 34 t.data.toList ++ 34 :: rest) := by rw [hd]; simp [quoL]
 obtain ⟨h1,h2,h3⟩ := head_lt x a 34 _ hd2
 refine ⟨solid_of x a 34 _ hd2 (by decide) (.inl (by decide)) (.inl (by decide)),?_⟩
 unfold oneP
 simp only [h2]
 rw [if_neg (by decide),if_neg (by decide),if_pos trivial,quo_gap 34 (by decide) t x a rest hd hg]
def sign_bytesT (c : UInt8) : Bool := decide (signI c < 0) || (!(letB c) && !(digB c) && (c != 34) && (c != 39) && (c != 36))
theorem sign_bytes : ((List.range 256).all fun n => sign_bytesT (UInt8.ofNat n)) = true := by kernel_rfl
theorem gap_take (rest : Tx) (hg : Gap rest) (c : UInt8) (hc : c ≠ 32) : rest.take 1 ≠ [c] := by
 rcases hg with rfl | ⟨r,rfl⟩
 ·simp
 ·simp; exact fun h => hc h.symm
theorem good_sign (c : UInt8) (hc : 0 ≤ signI c) : Good 5 (bb [c]) := by
 intro x a rest p hd hg
 have hsh : shownL (5,bb [c],p) = [c] := rfl
 rw [hsh] at hd ⊢
 have hd2 : x.data.toList.drop a = c :: rest := hd
 obtain ⟨h1,h2,h3⟩ := head_lt x a c _ hd2
 refine ⟨solid_of x a c _ hd2 (not_five c (.inr (.inr (.inl hc)))) (.inr (gap_take rest hg 45 (by decide))) (.inr (gap_take rest hg 42 (by decide))),?_⟩
 have hb := byte_all (f := sign_bytesT) sign_bytes c
 unfold sign_bytesT at hb
 have hn : ¬ signI c < 0 := by omega
 rw [decide_eq_false hn] at hb
 simp only [Bool.false_or,Bool.and_eq_true,Bool.not_eq_true',bne_iff_ne] at hb
 obtain ⟨⟨⟨⟨b1,b2⟩,b3⟩,b4⟩,b5⟩ := hb
 unfold oneP
 simp only [h2]
 rw [if_neg (by rw [b1]; decide),if_neg (by rw [b2]; decide),if_neg b3,if_neg b4,if_neg b5,if_neg hn,ext_at x a 1 [c] rest hd rfl]
 rfl
theorem good_param (l : Tx) (hne : l ≠ []) (ha : ∀ d ∈ l,digB d = true) : Good 5 (bb (36 :: l)) := by
 intro x a rest p hd hg
 have hsh : shownL (5,bb (36 :: l),p) = 36 :: l := rfl
 rw [hsh] at hd ⊢
 have hd2 : x.data.toList.drop a = 36 :: (l ++ rest) := hd
 obtain ⟨h1,h2,h3⟩ := head_lt x a 36 _ hd2
 refine ⟨solid_of x a 36 _ hd2 (by decide) (.inl (by decide)) (.inl (by decide)),?_⟩
 obtain ⟨d,r,rfl⟩ : ∃ d r,l = d :: r := by
  cases l with
  | nil => exact absurd rfl hne
  | cons d r => exact ⟨d,r,rfl⟩
 have hdd := ha d (by simp)
 have htl : tagL (x.data.toList.drop (a + 1)) = 0 := by rw [h3,List.cons_append,tagL_cons,if_neg (by rw [dig_let d hdd]; decide)]
 have hta : tagAt x a = -1 := by
  unfold tagAt
  rw [htl,Nat.add_zero,h3,if_neg]
  rw [List.cons_append,List.take_succ_cons]
  intro hh
  injection hh with h4
  subst h4
  exact absurd hdd (by decide)
 have hrow : rowL digB (x.data.toList.drop (a + 1)) = (d :: r).length := by rw [h3]; exact row_gap digB (d :: r) rest ha (by decide) hg
 unfold oneP
 simp only [h2]
 rw [if_neg (by decide),if_neg (by decide),if_neg (by decide),if_neg (by decide),if_pos trivial,hta,if_neg (by decide),hrow,if_neg (by simp)]
 have e : a + 1 + (d :: r).length = a + (36 :: d :: r).length := by simp; omega
 rw [e,ext_at x a _ (36 :: d :: r) rest hd rfl]

theorem take_row (s : ByteArray) (a : Nat) (p : UInt8 → Bool) (ha : a ≤ s.size) : s.extract a (a + rowL p (s.data.toList.drop a)) = bb ((s.data.toList.drop a).take (rowL p (s.data.toList.drop a))) := by
 have := ext_to s a (a + rowL p (s.data.toList.drop a)) (row_end s p a ha)
 rw [this]
 congr 2; omega
theorem one_good (s : ByteArray) (a : Nat) (hS : Solid s a) (he : (oneP s a).2.2 = 0) : Good (oneP s a).1.1 (oneP s a).1.2.1 := by
 have h := hS.lt
 have hh := head_at s a h
 unfold oneP at he ⊢
 simp only [hh] at he ⊢
 by_cases hl : letB s[a] = true
 ·rw [if_pos hl] at he ⊢
  show Good 1 (smallA _)
  rw [take_row s a wordB (by omega)]
  have e : smallA (bb ((s.data.toList.drop a).take (rowL wordB (s.data.toList.drop a)))) = bb (((s.data.toList.drop a).take (rowL wordB (s.data.toList.drop a))).map lowB) := rfl
  rw [e]
  have hn := row_pos wordB s a h (let_word _ hl)
  refine good_word _ (lowB s[a]) (((s.data.toList.drop (a + 1)).take (rowL wordB (s.data.toList.drop (a + 1)))).map lowB) ?_ (by rw [(low_facts _).2.2]; exact hl) ?_ ?_
  ·rw [hn,byte_at s a h,List.take_succ_cons,List.map_cons]
  ·intro d hd
   obtain ⟨c,hc,rfl⟩ := List.mem_map.1 hd
   rw [(low_facts c).2.1]
   exact row_take wordB _ c hc
  ·intro d hd
   obtain ⟨c,hc,rfl⟩ := List.mem_map.1 hd
   exact (low_facts c).1
 ·rw [if_neg hl] at he ⊢
  by_cases hd : digB s[a] = true
  ·rw [if_pos hd] at he ⊢
   show Good 4 _
   rw [take_row s a numB (by omega)]
   have hn := row_pos numB s a h (dig_num _ hd)
   refine good_num _ s[a] ((s.data.toList.drop (a + 1)).take (rowL numB (s.data.toList.drop (a + 1)))) ?_ hd ?_
   ·rw [hn,byte_at s a h,List.take_succ_cons]
   ·intro d hd
    exact row_take numB _ d hd
  ·rw [if_neg hd] at he ⊢
   by_cases h34 : s[a] = 34
   ·rw [if_pos h34] at he ⊢
    cases hq : quoAt s a 34 with
    | none => rw [hq] at he; exact absurd (show (6 : Int) = 0 from he) (by decide)
    | some p => exact good_quoted _
   ·rw [if_neg h34] at he ⊢
    by_cases h39 : s[a] = 39
    ·rw [if_pos h39] at he ⊢
     cases hq : quoAt s a 39 with
     | none => rw [hq] at he; exact absurd (show (6 : Int) = 0 from he) (by decide)
     | some p => exact good_str _
    ·rw [if_neg h39] at he ⊢
     by_cases h36 : s[a] = 36
     ·rw [if_pos h36] at he ⊢
      by_cases ht : 0 < tagAt s a
      ·rw [if_pos ht] at he ⊢
       cases hq : dolAt s a (tagAt s a).toNat with
       | none => rw [hq] at he; exact absurd (show (6 : Int) = 0 from he) (by decide)
       | some p => exact good_str _
      ·rw [if_neg ht] at he ⊢
       by_cases hp : rowL digB (s.data.toList.drop (a + 1)) = 0
       ·rw [if_pos hp] at he; exact absurd he (by decide)
       ·rw [if_neg hp] at he ⊢
        show Good 5 _
        have e : s.extract a (a + 1 + rowL digB (s.data.toList.drop (a + 1))) = bb (36 :: (s.data.toList.drop (a + 1)).take (rowL digB (s.data.toList.drop (a + 1)))) := by
         rw [ext_to s a _ (row_end s digB (a + 1) (by omega)),show a + 1 + rowL digB (s.data.toList.drop (a + 1)) - a = rowL digB (s.data.toList.drop (a + 1)) + 1 by omega]
         congr 1
         have hb := byte_at s a h
         rw [h36] at hb
         rw [hb,List.take_succ_cons]
        rw [e]
        refine good_param _ ?_ fun d hd => row_take digB _ d hd
        intro hz
        have := congrArg List.length hz
        rw [List.length_take,List.length_nil] at this
        have h2 := rowL_le digB (s.data.toList.drop (a + 1))
        omega
     ·rw [if_neg h36] at he ⊢
      by_cases hg : signI s[a] < 0
      ·rw [if_pos hg] at he; exact absurd he (by decide)
      ·rw [if_neg hg]
       show Good 5 _
       rw [ext_one s a h]
       exact good_sign s[a] (by omega)
theorem scan_all_good (s : ByteArray) (a : Nat) (acc : List Tok) (ha : a ≤ s.size) (h : ∀ t ∈ acc,Good t.1 t.2.1) : ∀ t ∈ (scanF s a acc).1,Good t.1 t.2.1 :=
 scan_ind s (fun a acc r => (∀ t ∈ acc,Good t.1 t.2.1) → ∀ t ∈ r.1,Good t.1 t.2.1) (fun a acc h h2 => h2) (fun a b acc r h1 h2 h3 => h3) (fun a acc e h1 h2 h3 t ht => by cases ht)
  (fun a acc r hS he h1 h2 h3 h4 => h3 fun t ht => by
   rcases List.mem_append.1 ht with ht | ht
   ·exact h4 t ht
   ·simp at ht; subst ht; exact one_good s a hS he) a acc ha h
theorem scan_wrong (s : ByteArray) (a : Nat) (acc : List Tok) (ha : a ≤ s.size) : (scanF s a acc).2.1 ≠ 0 → (scanF s a acc).1 = [] ∧ 0 ≤ (scanF s a acc).2.2 ∧ (scanF s a acc).2.2 ≤ (s.size : Int) :=
 scan_ind s (fun a acc r => r.2.1 ≠ 0 → r.1 = [] ∧ 0 ≤ r.2.2 ∧ r.2.2 ≤ (s.size : Int)) (fun a acc h h2 => absurd rfl h2) (fun a b acc r h1 h2 h3 => h3) (fun a acc e h1 h2 h3 => ⟨rfl,by simp only; omega,by simp only; omega⟩)
  (fun a acc r hS he h1 h2 h3 => h3) a acc ha
theorem scan_good (x : ByteArray) (a : Nat) (acc : List Tok) (k : Int) (t : ByteArray) (b : Nat) (hS : Solid x a) (e : oneP x a = ((k,t,(a : Int)),b,0)) : scanF x a acc = scanF x b (acc ++ [(k,t,(a : Int))]) := by
 have h := (scan_one x a acc hS).1
 rw [e] at h
 exact h
theorem drop_app (x : ByteArray) (a : Nat) (l rest : Tx) (h : x.data.toList.drop a = l ++ rest) : x.data.toList.drop (a + l.length) = rest := by
 rw [← List.drop_drop,h,List.drop_left]
theorem tail_gap (l : List Tok) : Gap (tailL l) := by
 cases l with
 | nil => exact .inl rfl
 | cons t r => exact .inr ⟨shownL t ++ tailL r,by simp [tailL]⟩
theorem alike_cons (x y : Tok) (l m : List Tok) (h1 : x.1 = y.1) (h2 : x.2.1 = y.2.1) (h : Alike false l m) : Alike false (x :: l) (y :: m) := by
 refine ⟨by simp [h.1],fun i a b ha hb => ?_⟩
 cases i with
 | zero => simp at ha hb; subst ha hb; exact ⟨h1,h2,fun h => by cases h⟩
 | succ i => exact h.2 i a b (by simpa using ha) (by simpa using hb)
theorem back_tail : ∀ (l : List Tok),(∀ t ∈ l,Good t.1 t.2.1) → ∀ (x : ByteArray) (a : Nat) (acc : List Tok),x.data.toList.drop a = tailL l → ∃ m,scanF x a acc = (acc ++ m,0,0) ∧ Alike false l m := by
 intro l
 induction l with
 | nil =>
  intro _ x a acc hd
  have : x.size ≤ a := by
   have h1 := congrArg List.length hd
   rw [List.length_drop] at h1
   have e : x.size = x.data.toList.length := rfl
   simp [tailL] at h1; omega
  exact ⟨[],by rw [scanF_end x a acc this,List.append_nil],Alike.refl _ _⟩
 | cons t r ih =>
  intro hg x a acc hd
  have hd2 : x.data.toList.drop a = 32 :: (shownL t ++ tailL r) := by rw [hd]; simp [tailL]
  obtain ⟨h1,h2,h3⟩ := head_lt x a 32 _ hd2
  obtain ⟨hS,ho⟩ := hg t (by simp) x (a + 1) (tailL r) t.2.2 h3 (tail_gap r)
  obtain ⟨m,hm,ha⟩ := ih (fun u hu => hg u (by simp [hu])) x (a + 1 + (shownL t).length) (acc ++ [(t.1,t.2.1,((a + 1 : Nat) : Int))]) (drop_app x (a + 1) _ _ h3)
  refine ⟨(t.1,t.2.1,((a + 1 : Nat) : Int)) :: m,?_,alike_cons _ _ _ _ rfl rfl ha⟩
  rw [scan_blank x a acc h1 (by rw [h2]; decide),scan_good x (a + 1) acc t.1 t.2.1 _ hS ho]
  rw [show (t.1,t.2.1,t.2.2) = t from rfl,hm,List.append_assoc]; rfl
theorem back (l : List Tok) (hg : ∀ t ∈ l,Good t.1 t.2.1) : ∃ m,scanF (bb (showL l)) 0 [] = (m,0,0) ∧ Alike false l m := by
 cases l with
 | nil => exact ⟨[],by rw [scanF_end _ _ _ (by show (showL []).toArray.size ≤ 0; exact Nat.le_refl _)],Alike.refl _ _⟩
 | cons t r =>
  have hd : (bb (showL (t :: r))).data.toList.drop 0 = shownL t ++ tailL r := by simp [showL]
  obtain ⟨hS,ho⟩ := hg t (by simp) (bb (showL (t :: r))) 0 (tailL r) t.2.2 hd (tail_gap r)
  obtain ⟨m,hm,ha⟩ := back_tail r (fun u hu => hg u (by simp [hu])) (bb (showL (t :: r))) (0 + (shownL t).length) [(t.1,t.2.1,((0 : Nat) : Int))] (drop_app _ 0 _ _ hd)
  refine ⟨(t.1,t.2.1,((0 : Nat) : Int)) :: m,?_,alike_cons _ _ _ _ rfl rfl ha⟩
  rw [scan_good _ 0 [] t.1 t.2.1 _ hS ho]
  rw [show (t.1,t.2.1,t.2.2) = t from rfl]
  exact hm

def valL (l : Tx) : Nat := l.foldl (fun n c => 10 * n + (c.toNat - 48)) 0

theorem bb_list (l : Tx) : (bb l).data.toList = l := by simp








theorem val_snoc (l : Tx) (c : UInt8) : valL (l ++ [c]) = 10 * valL l + (c.toNat - 48) := by
 unfold valL; rw [List.foldl_append]; rfl
theorem dig_le (c : UInt8) (h : digB c = true) : 48 ≤ c.toNat ∧ c.toNat ≤ 57 := by
 unfold digB digN at h
 rw [decide_eq_true_iff] at h
 omega
theorem val_fold : ∀ (l : Tx) (n : Nat),l.all digB = true → l.foldl (fun n c => 10 * n + (c.toNat - 48)) n < (n + 1) * 10 ^ l.length := by
 intro l
 induction l with
 | nil => intro n _; simp
 | cons c r ih =>
  intro n h
  rw [List.all_cons,Bool.and_eq_true] at h
  have h1 := ih (10 * n + (c.toNat - 48)) h.2
  have h3 := dig_le c h.1
  rw [List.foldl_cons,List.length_cons,Nat.pow_succ]
  have h4 : (10 * n + (c.toNat - 48) + 1) * 10 ^ r.length ≤ ((n + 1) * 10) * 10 ^ r.length := Nat.mul_le_mul_right _ (by omega)
  have h5 : (n + 1) * (10 ^ r.length * 10) = ((n + 1) * 10) * 10 ^ r.length := by rw [Nat.mul_comm (10 ^ r.length) 10,Nat.mul_assoc]
  omega
end Go.Proofs.YtgdabkpahmlkpaaGreatDoor
namespace Go.Proofs.YtgdabkpahmlkpaaGreatDoor
set_option maxRecDepth 100000
set_option linter.unusedVariables false
set_option linter.unusedSimpArgs false

def keysL : List Tx := [[115,101,108,101,99,116],[102,114,111,109],[119,104,101,114,101],[106,111,105,110],[111,110],[117,115,105,110,103],[103,114,111,117,112],[111,114,100,101,114],[104,97,118,105,110,103],[108,105,109,105,116],[111,102,102,115,101,116],[117,110,105,111,110],[101,120,99,101,112,116],[105,110,116,101,114,115,101,99,116],[97,115],[97,110,100],[111,114],[110,111,116],[105,110],[105,115],[110,117,108,108],[118,97,108,117,101,115],[115,101,116],[105,110,116,111],[105,110,110,101,114],[108,101,102,116],[114,105,103,104,116],[102,117,108,108],[111,117,116,101,114],[99,114,111,115,115],[110,97,116,117,114,97,108],[108,97,116,101,114,97,108],[111,110,108,121],[114,101,116,117,114,110,105,110,103],[119,105,110,100,111,119],[102,111,114],[102,101,116,99,104],[119,104,101,110],[116,104,101,110],[119,105,116,104],[116,97,98,108,101]]
def w_from : Tx := [102,114,111,109]
def w_join : Tx := [106,111,105,110]
def w_using : Tx := [117,115,105,110,103]
def w_table : Tx := [116,97,98,108,101]
def w_delete : Tx := [100,101,108,101,116,101]
def w_only : Tx := [111,110,108,121]
def w_as : Tx := [97,115]
def isTok (k : Int) (ss : List Tx) (l : List Tok) (i : Nat) : Bool := match l[i]? with | some t => t.1 == k && ss.contains t.2.1.toList | none => false
def partB (l : List Tok) (i : Nat) : Bool := match l[i]? with | some t => t.1 == 2 || t.1 == 1 && !keysL.contains t.2.1.toList | none => false
def txtAt (l : List Tok) (i : Nat) : Tx := match l[i]? with | some t => t.2.1.toList | none => []
def nameW (l : List Tok) (i : Nat) : Nat := if partB l i = false then 0 else if (isTok 5 [[46]] l (i + 1) && partB l (i + 2)) = true then 3 else 1
def nameX (l : List Tok) (i : Nat) : Tx := if nameW l i = 3 then txtAt l i ++ [46] ++ txtAt l (i + 2) else txtAt l i
def skipB (l : List Tok) (i : Nat) : Nat := if isTok 1 [w_only,w_table] l i = true then i + 1 else i
def asB (l : List Tok) (i : Nat) : Nat := if isTok 1 [w_as] l i = true then i + 1 else i
def aliasB (l : List Tok) (i : Nat) : Nat := if partB l (asB l i) = true then asB l i + 1 else asB l i
def commaB (l : List Tok) (i : Nat) : Bool := isTok 5 [[44]] l i
def fromF : Nat → List Tok → Nat → List (Tx × Nat)
 | 0,_,_ => []
 | n + 1,l,i => if nameW l (skipB l i) = 0 then [] else (nameX l (skipB l i),skipB l i) :: (if commaB l (aliasB l (skipB l i + nameW l (skipB l i))) = true then fromF n l (aliasB l (skipB l i + nameW l (skipB l i)) + 1) else [])
def fromL (l : List Tok) (i : Nat) : List (Tx × Nat) := fromF (l.length - i) l i
theorem partB_lt {l : List Tok} {i : Nat} (h : partB l i = true) : i < l.length := by
 unfold partB at h
 by_cases hi : i < l.length
 ·exact hi
 ·rw [List.getElem?_eq_none (by omega)] at h; cases h
theorem isTok_lt {k : Int} {ss : List Tx} {l : List Tok} {i : Nat} (h : isTok k ss l i = true) : i < l.length := by
 unfold isTok at h
 by_cases hi : i < l.length
 ·exact hi
 ·rw [List.getElem?_eq_none (by omega)] at h; cases h
theorem nameW_lt {l : List Tok} {i : Nat} (h : nameW l i ≠ 0) : i + nameW l i ≤ l.length ∧ 1 ≤ nameW l i ∧ nameW l i ≤ 3 := by
 unfold nameW at h ⊢
 split at h
 ·exact absurd rfl h
 ·rename_i hp
  have hp2 : partB l i = true := by simpa using hp
  have h1 := partB_lt hp2
  rw [if_neg hp]
  by_cases hd : (isTok 5 [[46]] l (i + 1) && partB l (i + 2)) = true
  ·rw [if_pos hd]
   have h2 := partB_lt (Bool.and_eq_true_iff.1 hd).2
   omega
  ·rw [if_neg hd]; omega
theorem skip_le (l : List Tok) (i : Nat) : i ≤ skipB l i ∧ skipB l i ≤ i + 1 := by unfold skipB; split <;> omega
theorem as_le (l : List Tok) (i : Nat) : i ≤ asB l i ∧ asB l i ≤ i + 1 := by unfold asB; split <;> omega
theorem alias_le (l : List Tok) (i : Nat) : i ≤ aliasB l i ∧ aliasB l i ≤ i + 2 := by have := as_le l i; unfold aliasB; split <;> omega
theorem fromF_stable (l : List Tok) : ∀ (n i : Nat),l.length - i ≤ n → fromF n l i = fromF (l.length - i) l i := by
 intro n
 induction n using Nat.strongRecOn with
 | ind n ih =>
  intro i hn
  by_cases hz : nameW l (skipB l i) = 0
  ·have e : ∀ m,fromF m l i = [] := fun m => by cases m with | zero => rfl | succ m => rw [fromF,if_pos hz]
   rw [e,e]
  ·have h1 := nameW_lt hz
   have h2 := skip_le l i
   obtain ⟨a,ha⟩ : ∃ a,l.length - i = a + 1 := ⟨l.length - i - 1,by omega⟩
   obtain ⟨m,rfl⟩ : ∃ m,n = m + 1 := ⟨n - 1,by omega⟩
   rw [ha,fromF,fromF,if_neg hz,if_neg hz]
   have h3 := alias_le l (skipB l i + nameW l (skipB l i))
   generalize aliasB l (skipB l i + nameW l (skipB l i)) = b at h3
   by_cases hc : commaB l b = true
   ·rw [if_pos hc,if_pos hc,ih m (by omega) (b + 1) (by omega)]
    by_cases ham : a = m
    ·subst ham; rw [ih a (by omega) (b + 1) (by omega)]
    ·rw [ih a (by omega) (b + 1) (by omega)]
   ·rw [if_neg hc,if_neg hc]
theorem fromL_eq (l : List Tok) (i : Nat) : fromL l i = if nameW l (skipB l i) = 0 then [] else (nameX l (skipB l i),skipB l i) :: (if commaB l (aliasB l (skipB l i + nameW l (skipB l i))) = true then fromL l (aliasB l (skipB l i + nameW l (skipB l i)) + 1) else []) := by
 by_cases hz : nameW l (skipB l i) = 0
 ·rw [if_pos hz]; unfold fromL; cases l.length - i with | zero => rfl | succ n => rw [fromF,if_pos hz]
 ·have h1 := nameW_lt hz
  have h2 := skip_le l i
  have h3 := alias_le l (skipB l i + nameW l (skipB l i))
  rw [if_neg hz]
  unfold fromL
  obtain ⟨a,ha⟩ : ∃ a,l.length - i = a + 1 := ⟨l.length - i - 1,by omega⟩
  rw [ha,fromF,if_neg hz]
  generalize aliasB l (skipB l i + nameW l (skipB l i)) = b at h3
  by_cases hc : commaB l b = true
  ·rw [if_pos hc,if_pos hc,fromF_stable l a (b + 1) (by omega)]
  ·rw [if_neg hc,if_neg hc]
theorem fromL_len (l : List Tok) : ∀ (n i : Nat),l.length - i ≤ n → (fromL l i).length ≤ n := by
 intro n
 induction n using Nat.strongRecOn with
 | ind n ih =>
  intro i hn
  rw [fromL_eq]
  split
  ·exact Nat.zero_le _
  ·rename_i hz
   have h1 := nameW_lt hz
   have h2 := skip_le l i
   have h3 := alias_le l (skipB l i + nameW l (skipB l i))
   generalize aliasB l (skipB l i + nameW l (skipB l i)) = b at h3
   split
   ·have := ih (n - 1) (by omega) (b + 1) (by omega)
    simp only [List.length_cons]; omega
   ·simp only [List.length_cons,List.length_nil]; omega
def readsB (l : List Tok) (i : Nat) : Bool := isTok 1 [w_join,w_using] l i || isTok 1 [w_from] l i && !(i != 0 && isTok 1 [w_delete] l (i - 1)) || i == 0 && isTok 1 [w_table] l i
def readsAt (l : List Tok) (i : Nat) : List Tx := if readsB l i = true then (fromL l (i + 1)).map (·.1) else []
def upto (f : Nat → List Tx) : Nat → List Tx
 | 0 => []
 | n + 1 => upto f n ++ f n
def insL (l : List Tx) (s : Tx) : List Tx := if l.contains s = true then l else l.takeWhile (fun x => decide (x < s)) ++ [s] ++ l.dropWhile (fun x => decide (x < s))
def riseL (l : List Tx) : List Tx := l.foldl insL []
def readsL (l : List Tok) : List Tx := riseL (upto (readsAt l) l.length)
end Go.Proofs.YtgdabkpahmlkpaaGreatDoor
namespace Go.Proofs.YtgdabkpahmlkpaaGreatDoor
set_option linter.unusedVariables false
set_option linter.unusedSimpArgs false

abbrev Rises (l : List Tx) : Prop := l.Pairwise (· < ·)
theorem tx_irrefl (a : Tx) : ¬ a < a := List.lt_irrefl a
theorem tx_trans {a b c : Tx} (h : a < b) (h2 : b < c) : a < c := List.lt_trans h h2
theorem tx_tri (a b : Tx) : a < b ∨ a = b ∨ b < a := by
 by_cases h : a < b
 ·exact .inl h
 ·by_cases h2 : b < a
  ·exact .inr (.inr h2)
  ·exact .inr (.inl (List.le_antisymm (List.not_lt.1 h2) (List.not_lt.1 h)))
theorem rises_same : ∀ (a b : List Tx),Rises a → Rises b → (∀ s,s ∈ a ↔ s ∈ b) → a = b := by
 intro a
 induction a with
 | nil =>
  intro b _ _ h
  cases b with
  | nil => rfl
  | cons y t => exact absurd ((h y).2 (List.mem_cons_self ..)) (by simp)
 | cons x r ih =>
  intro b ha hb h
  cases b with
  | nil => exact absurd ((h x).1 (List.mem_cons_self ..)) (by simp)
  | cons y t =>
   obtain ⟨hx,hr⟩ := List.pairwise_cons.1 ha
   obtain ⟨hy,ht⟩ := List.pairwise_cons.1 hb
   have hxy : x = y := by
    rcases List.mem_cons.1 ((h x).1 (List.mem_cons_self ..)) with e | e
    ·exact e
    ·rcases List.mem_cons.1 ((h y).2 (List.mem_cons_self ..)) with e2 | e2
     ·exact e2.symm
     ·exact absurd (tx_trans (hy x e) (hx y e2)) (tx_irrefl _)
   subst hxy
   rw [ih t hr ht fun s => ⟨fun hs => ?_,fun hs => ?_⟩]
   ·rcases List.mem_cons.1 ((h s).1 (List.mem_cons_of_mem _ hs)) with e | e
    ·subst e; exact absurd (hx _ hs) (tx_irrefl _)
    ·exact e
   ·rcases List.mem_cons.1 ((h s).2 (List.mem_cons_of_mem _ hs)) with e | e
    ·subst e; exact absurd (hy _ hs) (tx_irrefl _)
    ·exact e
theorem ins_mem (l : List Tx) (s x : Tx) : x ∈ insL l s ↔ x = s ∨ x ∈ l := by
 unfold insL
 split
 ·rename_i h
  have h2 : s ∈ l := by simpa using h
  constructor
  ·exact .inr
  ·rintro (e | e)
   ·rw [e]; exact h2
   ·exact e
 ·have e : ∀ y,y ∈ l ↔ y ∈ l.takeWhile (fun x => decide (x < s)) ∨ y ∈ l.dropWhile (fun x => decide (x < s)) := fun y => by rw [← List.mem_append,List.takeWhile_append_dropWhile]
  rw [e]
  simp only [List.mem_append,List.mem_singleton]
  constructor
  ·rintro ((h | h) | h)
   ·exact .inr (.inl h)
   ·exact .inl h
   ·exact .inr (.inr h)
  ·rintro (h | h | h)
   ·exact .inl (.inr h)
   ·exact .inl (.inl h)
   ·exact .inr h
theorem rises_split (s : Tx) : ∀ l : List Tx,Rises l → (∀ y ∈ l.takeWhile (fun x => decide (x < s)),y < s) ∧ (∀ y ∈ l.dropWhile (fun x => decide (x < s)),¬ y < s) := by
 intro l
 induction l with
 | nil => intro _; exact ⟨fun y h => by simp at h,fun y h => by simp at h⟩
 | cons x r ih =>
  intro h
  obtain ⟨hx,hr⟩ := List.pairwise_cons.1 h
  obtain ⟨i1,i2⟩ := ih hr
  by_cases c : x < s
  ·have d : decide (x < s) = true := by simpa using c
   rw [List.takeWhile_cons,List.dropWhile_cons]
   simp only [d,if_true]
   exact ⟨fun y hy => (List.mem_cons.1 hy).elim (fun e => by rw [e]; exact c) (i1 y),i2⟩
  ·have d : decide (x < s) = false := by simpa using c
   rw [List.takeWhile_cons,List.dropWhile_cons]
   simp only [d,Bool.false_eq_true,if_false]
   refine ⟨fun y hy => by simp at hy,fun y hy => ?_⟩
   rcases List.mem_cons.1 hy with e | e
   ·rw [e]; exact c
   ·exact fun h2 => c (tx_trans (hx y e) h2)
theorem ins_rises (l : List Tx) (s : Tx) (h : Rises l) : Rises (insL l s) := by
 unfold insL
 split
 ·exact h
 ·rename_i hn
  have hn2 : s ∉ l := by simpa using hn
  obtain ⟨h1,h2⟩ := rises_split s l h
  have hl : Rises (l.takeWhile (fun x => decide (x < s)) ++ l.dropWhile (fun x => decide (x < s))) := by rw [List.takeWhile_append_dropWhile]; exact h
  obtain ⟨g1,g2,g3⟩ := List.pairwise_append.1 hl
  have hd : ∀ y ∈ l.dropWhile (fun x => decide (x < s)),s < y := fun y hy => by
   rcases tx_tri s y with c | c | c
   ·exact c
   ·exact absurd (by rw [c]; exact (List.dropWhile_sublist _).mem hy) hn2
   ·exact absurd c (h2 y hy)
  rw [List.append_assoc]
  refine List.pairwise_append.2 ⟨g1,List.pairwise_append.2 ⟨List.pairwise_singleton ..,g2,fun a ha b hb => ?_⟩,fun a ha b hb => ?_⟩
  ·rw [List.mem_singleton.1 ha]; exact hd b hb
  ·rcases List.mem_append.1 hb with hb | hb
   ·rw [List.mem_singleton.1 hb]; exact h1 a ha
   ·exact g3 a ha b hb
theorem foldl_rises (m : List Tx) : ∀ l : List Tx,Rises l → Rises (m.foldl insL l) ∧ ∀ s,s ∈ m.foldl insL l ↔ s ∈ l ∨ s ∈ m := by
 induction m with
 | nil => intro l h; exact ⟨h,fun s => by simp⟩
 | cons x r ih =>
  intro l h
  obtain ⟨a,b⟩ := ih (insL l x) (ins_rises l x h)
  refine ⟨a,fun s => ?_⟩
  rw [List.foldl_cons,b,ins_mem,List.mem_cons]
  constructor
  ·rintro ((h | h) | h)
   ·exact .inr (.inl h)
   ·exact .inl h
   ·exact .inr (.inr h)
  ·rintro (h | h | h)
   ·exact .inl (.inr h)
   ·exact .inl (.inl h)
   ·exact .inr h
theorem rise_rises (l : List Tx) : Rises (riseL l) := (foldl_rises l [] List.Pairwise.nil).1
theorem rise_mem (l : List Tx) (s : Tx) : s ∈ riseL l ↔ s ∈ l := by rw [riseL,(foldl_rises l [] List.Pairwise.nil).2]; simp
theorem rise_is {l m : List Tx} (h : Rises m) (hm : ∀ s,s ∈ m ↔ s ∈ l) : m = riseL l := rises_same _ _ h (rise_rises l) fun s => by rw [rise_mem,hm]
theorem rise_append (l m : List Tx) : riseL (l ++ m) = m.foldl insL (riseL l) := by unfold riseL; rw [List.foldl_append]
theorem upto_mem (f : Nat → List Tx) : ∀ (n : Nat) (s : Tx),s ∈ upto f n ↔ ∃ i,i < n ∧ s ∈ f i := by
 intro n
 induction n with
 | zero => intro s; simp [upto]
 | succ n ih =>
  intro s
  rw [upto,List.mem_append,ih]
  constructor
  ·rintro (⟨i,h,h2⟩ | h)
   ·exact ⟨i,by omega,h2⟩
   ·exact ⟨n,by omega,h⟩
  ·rintro ⟨i,h,h2⟩
   by_cases e : i = n
   ·subst e; exact .inr h2
   ·exact .inl ⟨i,by omega,h2⟩
end Go.Proofs.YtgdabkpahmlkpaaGreatDoor
