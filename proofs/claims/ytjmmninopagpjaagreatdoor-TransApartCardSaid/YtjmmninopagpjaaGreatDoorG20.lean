/- Trf -/
import Derived.Test.YtjmmninopagpjaaGreatDoorG19
import Derived.Test.YtjmmninopagpjaaGreatDoorG1
set_option linter.unusedSimpArgs false
set_option linter.unusedVariables false
namespace Go.Proofs.YtjmmninopagpjaaGreatDoor
open Go.ChangeShapes Go.WideShapes Go.ChangeAt Go.RowKit
set_option maxRecDepth 100000
set_option linter.unusedVariables false
set_option linter.unusedSimpArgs false

theorem look_none (r tr : Nat) (t : Bool) (w : World) (hr : GR w r (nT tr)) :
  Calls Tryz.prog 311 #[nP r,.string ⟨#[]⟩,.bool t] w fun e w' => e = .returned (.tuple #[.string ⟨#[]⟩,.int .i64 0,.bool false]) ∧ ∃ n,w' = w.drewN n := by
 have c1 : w.cell? ⟨r,1,none⟩ = some (.int .i64 0) := (hr.cell 1).trans (gr_head _ 4 mapF 1 (by decide))
 have q1 := pn_sn ⟨r,0,none⟩
 clear hr
 go_enter Tryz.func311,Tryz.ntmps311
 go_wp2
 go_loopg [1,6,7,8,9,10,11] 1 (fun gk u1 u6 u7 u8 u9 u10 u11 wx => u1 = .string ⟨#[]⟩ ∧ u6 = .string ⟨#[]⟩ ∧ u7 = .int .i64 0 ∧ u8 = .bool false ∧ u9 = .int .i64 0 ∧ u10 = nP r ∧ ∃ n,wx = w.drewN n)
 case atStart => exact ⟨rfl,rfl,rfl,rfl,rfl,rfl,0,rfl⟩
 case round =>
  obtain ⟨rfl,rfl,rfl,rfl,rfl,rfl,n,rfl⟩ := hrel
  go_wp2
  go_ret3
  exact ⟨rfl,n,rfl⟩
theorem tail_empty (s : ByteArray) : (s.toList.isEmpty = true ∧ s = ⟨#[]⟩) ∨ (s.toList.isEmpty = false ∧ 0 < s.size) := by
 rw [Lib.toList_data]
 cases h : s.data.toList with
 | nil => exact .inl ⟨rfl,by apply ByteArray.ext; exact Array.ext' h⟩
 | cons c r => exact .inr ⟨rfl,by
   have e : s.size = s.data.toList.length := rfl
   rw [e,h]; simp⟩
set_option maxHeartbeats 2000000 in
theorem look_some (r tr N T leaf d : Nat) (x k l : Value) (v : ByteArray) (p : Nat) (s : ByteArray) (w : World) (hr : GR w r (nT tr)) (hT : TT w tr (nP N) (.pointer none) (.pointer none) (.pointer none))
  (hN : ND w N ⟨#[]⟩ 0 ⟨#[]⟩ (.pointer none) (nT T)) (hL : w.cell? ⟨T,d,none⟩ = some (nP leaf)) (hv : ND w leaf v (p : Int) ⟨#[]⟩ (.pointer none) (.slice none 0 0)) (hp : 0 < p) (hd : d < 4)
  (h0 : 0 < s.size) (h1 : 1 < s.size) (e0 : (s[0]'h0).toNat = 36) (e1 : mapF (s[1]'h1).toNat = (d : Int)) :
  Calls Tryz.prog 311 #[nP r,.string s,.bool false] w fun e w' => e = .returned (.tuple #[.string v,.int .i64 2,.bool true]) ∧ ∃ n,w' = w.drewN n := by
 have r1 : w.cell? ⟨r,1,none⟩ = some (.int .i64 0) := (hr.cell 1).trans (gr_head _ 4 mapF 1 (by decide))
 have r4 : w.cell? ⟨r,4,none⟩ = some (nT tr) := (hr.cell 4).trans (gr_head _ 4 mapF 4 (by decide))
 have r5 : w.cell? ⟨r,5,none⟩ = some (.int .i64 4) := (hr.cell 5).trans (gr_head _ 4 mapF 5 (by decide))
 have m0 : w.cell? ⟨r,42,none⟩ = some (.int .u8 0) := (hr.cell 42).trans (gr_map _ 4 mapF 36 (by decide))
 have t0 : w.cell? ⟨tr,0,none⟩ = some (nP N) := hT.cell 0
 have n1 : w.cell? ⟨N,1,none⟩ = some (.int .i64 0) := hN.cell 1
 have n4 : w.cell? ⟨N,4,none⟩ = some (nT T) := hN.cell 4
 have l0 : w.cell? ⟨leaf,0,none⟩ = some (.string v) := hv.cell 0
 have l1 : w.cell? ⟨leaf,1,none⟩ = some (.int .i64 (p : Int)) := hv.cell 1
 have l2 : w.cell? ⟨leaf,2,none⟩ = some (.string ⟨#[]⟩) := hv.cell 2
 have l4 : w.cell? ⟨leaf,4,none⟩ = some (.slice none 0 0) := hv.cell 4
 obtain ⟨s1,hs1⟩ : ∃ s1,s.extract 1 s.size = s1 := ⟨_,rfl⟩
 have hz1 : 0 < s1.size := by rw [← hs1,ByteArray.size_extract]; omega
 obtain ⟨b,hb⟩ : ∃ b,(s[1]'h1).toNat = b := ⟨_,rfl⟩
 have hb1 : (s1[0]'hz1).toNat = b := by
  rw [← hb]; congr 1
  subst hs1
  exact ByteArray.getElem_extract hz1
 have hbl : b < 256 := by rw [← hb]; exact (s[1]'h1).toNat_lt
 rw [hb] at e1
 have m1 : w.cell? ⟨r,6 + b,none⟩ = some (.int .u8 (d : Int)) := by rw [← e1]; exact (hr.cell (6 + b)).trans (gr_map _ 4 mapF b hbl)
 obtain ⟨s2,hs2⟩ : ∃ s2,s1.extract 1 s1.size = s2 := ⟨_,rfl⟩
 have ne0 : s.toList.isEmpty = false := by rcases tail_empty s with ⟨_,h⟩ | ⟨h,_⟩; exact absurd h0 (by rw [h]; decide); exact h
 have ne1 : s1.toList.isEmpty = false := by rcases tail_empty s1 with ⟨_,h⟩ | ⟨h,_⟩; exact absurd hz1 (by rw [h]; decide); exact h
 have hpp : (0 : Int) < (p : Int) := by omega
 have hd4 : (d : Int) < 4 := by omega
 have hd0 : (0 : Int) ≤ (d : Int) := by omega
 have hbi : (b : Int) < 256 := by omega
 have hdn : decide ((d : Int) = 4) = false := by rw [decide_eq_false_iff_not]; omega
 have hdn2 : ((d : Int) == 4) = false := by rw [beq_eq_false_iff_ne]; omega
 have wd : IntKind.i64.wrap (d : Int) = (d : Int) := IntWalk.i64_in _ (by omega)
 have q1 := pn_sn ⟨r,0,none⟩
 have q2 := pn_sn ⟨N,0,none⟩
 have q3 := pn_sn ⟨leaf,0,none⟩
 have q4 := sl_sn ⟨tr,0,none⟩ 4 4
 have q5 := sl_sn ⟨T,0,none⟩ 4 4
 have q6 := sl_nn
 have hss : (1 : Int) ≤ (s.size : Int) := by omega
 have hss1 : (1 : Int) ≤ (s1.size : Int) := by omega
 clear hr hT hN hv e1 hb hp hd hbl
 go_enter Tryz.func311,Tryz.ntmps311
 go_wp2
 go_loopg [1,6,7,8,9,10,11] 3 (fun gk u1 u6 u7 u8 u9 u10 u11 wx => u6 = .string ⟨#[]⟩ ∧ u7 = .int .i64 0 ∧ u8 = .bool false ∧ u9 = .int .i64 0 ∧ (∃ n,wx = w.drewN n) ∧
  ((gk = 3 ∧ u1 = .string s ∧ u10 = nP r ∧ u11 = .int .i64 0) ∨ (gk = 2 ∧ u1 = .string s1 ∧ u10 = nP N ∧ u11 = .int .i64 1) ∨ (gk = 1 ∧ u1 = .string s2 ∧ u10 = nP leaf ∧ u11 = .int .i64 2)))
 case atStart => exact ⟨rfl,rfl,rfl,rfl,⟨0,rfl⟩,.inl ⟨rfl,rfl,rfl,rfl⟩⟩
 case round =>
  obtain ⟨rfl,rfl,rfl,rfl,⟨n,rfl⟩,⟨rfl,rfl,rfl,rfl⟩ | ⟨rfl,rfl,rfl,rfl⟩ | ⟨rfl,rfl,rfl,rfl⟩⟩ := hrel
  ·clear hs2 hb1
   go_wp2
   go_quiet (fail)
   go_wp2
   go_roundg 2
   case measure => exact Nat.lt_succ_self _
   case rel => exact ⟨rfl,rfl,rfl,rfl,⟨_,rfl⟩,.inr (.inl ⟨rfl,rfl,rfl,rfl⟩)⟩
  ·clear hs1 e0
   go_wp2
   go_quiet (fail)
   go_wp2
   go_roundg 1
   case measure => exact Nat.lt_succ_self _
   case rel => exact ⟨rfl,rfl,rfl,rfl,⟨_,rfl⟩,.inr (.inr ⟨rfl,rfl,rfl,rfl⟩)⟩
  ·clear hs1 hs2 e0 hb1
   rcases tail_empty s2 with ⟨h2,rfl⟩ | ⟨h2,h3⟩
   ·go_wp2
    go_ret3
    exact ⟨rfl,_,rfl⟩
   ·clear h3
    go_wp2
    go_ret3
    exact ⟨rfl,_,rfl⟩
end Go.Proofs.YtjmmninopagpjaaGreatDoor
