/- Trf Trg Trh -/
import Derived.Test.YtgdabkpahmlkpaaGreatDoorG3
import Derived.Lib.Builder
import Derived.Lib.AppendStr
import Derived.WalkKit
import Derived.Shelf.Strings.Builder1
import Derived.KernelRfl
set_option linter.unusedSimpArgs false
set_option linter.unusedVariables false
namespace Go.Proofs.YtgdabkpahmlkpaaGreatDoor
open Go.ChangeShapes Go.WideShapes Go.ChangeAt Go.RowKit
set_option maxRecDepth 100000
set_option linter.unusedVariables false
set_option linter.unusedSimpArgs false

theorem look_none (r tr : Nat) (t : Bool) (w : World) (hr : GR w r (nT tr)) :
  Calls Tryz.prog 318 #[nP r,.string ⟨#[]⟩,.bool t] w fun e w' => e = .returned (.tuple #[.string ⟨#[]⟩,.int .i64 0,.bool false]) ∧ ∃ n,w' = w.drewN n := by
 have c1 : w.cell? ⟨r,1,none⟩ = some (.int .i64 0) := (hr.cell 1).trans (gr_head _ 4 mapF 1 (by decide))
 have q1 := pn_sn ⟨r,0,none⟩
 clear hr
 go_enter Tryz.func318,Tryz.ntmps318
 go_wp2
 go_loopg [1,6,7,8,9,10,11] 1 (fun gk u1 u6 u7 u8 u9 u10 u11 wx => u1 = .string ⟨#[]⟩ ∧ u6 = .string ⟨#[]⟩ ∧ u7 = .int .i64 0 ∧ u8 = .bool false ∧ u9 = .int .i64 0 ∧ u10 = nP r ∧ ∃ n,wx = w.drewN n)
 case atStart => exact ⟨rfl,rfl,rfl,rfl,rfl,rfl,0,rfl⟩
 case round =>
  obtain ⟨rfl,rfl,rfl,rfl,rfl,rfl,n,rfl⟩ := hrel
  go_wp2
  go_ret3
  exact ⟨rfl,n,rfl⟩
theorem tail_empty (s : ByteArray) : (s.toList.isEmpty = true ∧ s = ⟨#[]⟩) ∨ (s.toList.isEmpty = false ∧ 0 < s.size) := by
 rw [Lib.toList_data]
 cases h : s.data.toList with
 | nil => exact .inl ⟨rfl,by apply ByteArray.ext; exact Array.ext' h⟩
 | cons c r => exact .inr ⟨rfl,by
   have e : s.size = s.data.toList.length := rfl
   rw [e,h]; simp⟩
set_option maxHeartbeats 2000000 in
theorem look_some (r tr N T leaf d : Nat) (x k l : Value) (v : ByteArray) (p : Nat) (s : ByteArray) (w : World) (hr : GR w r (nT tr)) (hT : TT w tr (nP N) (.pointer none) (.pointer none) (.pointer none))
  (hN : ND w N ⟨#[]⟩ 0 ⟨#[]⟩ (.pointer none) (nT T)) (hL : w.cell? ⟨T,d,none⟩ = some (nP leaf)) (hv : ND w leaf v (p : Int) ⟨#[]⟩ (.pointer none) (.slice none 0 0)) (hp : 0 < p) (hd : d < 4)
  (h0 : 0 < s.size) (h1 : 1 < s.size) (e0 : (s[0]'h0).toNat = 36) (e1 : mapF (s[1]'h1).toNat = (d : Int)) :
  Calls Tryz.prog 318 #[nP r,.string s,.bool false] w fun e w' => e = .returned (.tuple #[.string v,.int .i64 2,.bool true]) ∧ ∃ n,w' = w.drewN n := by
 have r1 : w.cell? ⟨r,1,none⟩ = some (.int .i64 0) := (hr.cell 1).trans (gr_head _ 4 mapF 1 (by decide))
 have r4 : w.cell? ⟨r,4,none⟩ = some (nT tr) := (hr.cell 4).trans (gr_head _ 4 mapF 4 (by decide))
 have r5 : w.cell? ⟨r,5,none⟩ = some (.int .i64 4) := (hr.cell 5).trans (gr_head _ 4 mapF 5 (by decide))
 have m0 : w.cell? ⟨r,42,none⟩ = some (.int .u8 0) := (hr.cell 42).trans (gr_map _ 4 mapF 36 (by decide))
 have t0 : w.cell? ⟨tr,0,none⟩ = some (nP N) := hT.cell 0
 have n1 : w.cell? ⟨N,1,none⟩ = some (.int .i64 0) := hN.cell 1
 have n4 : w.cell? ⟨N,4,none⟩ = some (nT T) := hN.cell 4
 have l0 : w.cell? ⟨leaf,0,none⟩ = some (.string v) := hv.cell 0
 have l1 : w.cell? ⟨leaf,1,none⟩ = some (.int .i64 (p : Int)) := hv.cell 1
 have l2 : w.cell? ⟨leaf,2,none⟩ = some (.string ⟨#[]⟩) := hv.cell 2
 have l4 : w.cell? ⟨leaf,4,none⟩ = some (.slice none 0 0) := hv.cell 4
 obtain ⟨s1,hs1⟩ : ∃ s1,s.extract 1 s.size = s1 := ⟨_,rfl⟩
 have hz1 : 0 < s1.size := by rw [← hs1,ByteArray.size_extract]; omega
 obtain ⟨b,hb⟩ : ∃ b,(s[1]'h1).toNat = b := ⟨_,rfl⟩
 have hb1 : (s1[0]'hz1).toNat = b := by
  rw [← hb]; congr 1
  subst hs1
  exact ByteArray.getElem_extract hz1
 have hbl : b < 256 := by rw [← hb]; exact (s[1]'h1).toNat_lt
 rw [hb] at e1
 have m1 : w.cell? ⟨r,6 + b,none⟩ = some (.int .u8 (d : Int)) := by rw [← e1]; exact (hr.cell (6 + b)).trans (gr_map _ 4 mapF b hbl)
 obtain ⟨s2,hs2⟩ : ∃ s2,s1.extract 1 s1.size = s2 := ⟨_,rfl⟩
 have ne0 : s.toList.isEmpty = false := by rcases tail_empty s with ⟨_,h⟩ | ⟨h,_⟩; exact absurd h0 (by rw [h]; decide); exact h
 have ne1 : s1.toList.isEmpty = false := by rcases tail_empty s1 with ⟨_,h⟩ | ⟨h,_⟩; exact absurd hz1 (by rw [h]; decide); exact h
 have hpp : (0 : Int) < (p : Int) := by omega
 have hd4 : (d : Int) < 4 := by omega
 have hd0 : (0 : Int) ≤ (d : Int) := by omega
 have hbi : (b : Int) < 256 := by omega
 have hdn : decide ((d : Int) = 4) = false := by rw [decide_eq_false_iff_not]; omega
 have hdn2 : ((d : Int) == 4) = false := by rw [beq_eq_false_iff_ne]; omega
 have wd : IntKind.i64.wrap (d : Int) = (d : Int) := IntWalk.i64_in _ (by omega)
 have q1 := pn_sn ⟨r,0,none⟩
 have q2 := pn_sn ⟨N,0,none⟩
 have q3 := pn_sn ⟨leaf,0,none⟩
 have q4 := sl_sn ⟨tr,0,none⟩ 4 4
 have q5 := sl_sn ⟨T,0,none⟩ 4 4
 have q6 := sl_nn
 have hss : (1 : Int) ≤ (s.size : Int) := by omega
 have hss1 : (1 : Int) ≤ (s1.size : Int) := by omega
 clear hr hT hN hv e1 hb hp hd hbl
 go_enter Tryz.func318,Tryz.ntmps318
 go_wp2
 go_loopg [1,6,7,8,9,10,11] 3 (fun gk u1 u6 u7 u8 u9 u10 u11 wx => u6 = .string ⟨#[]⟩ ∧ u7 = .int .i64 0 ∧ u8 = .bool false ∧ u9 = .int .i64 0 ∧ (∃ n,wx = w.drewN n) ∧
  ((gk = 3 ∧ u1 = .string s ∧ u10 = nP r ∧ u11 = .int .i64 0) ∨ (gk = 2 ∧ u1 = .string s1 ∧ u10 = nP N ∧ u11 = .int .i64 1) ∨ (gk = 1 ∧ u1 = .string s2 ∧ u10 = nP leaf ∧ u11 = .int .i64 2)))
 case atStart => exact ⟨rfl,rfl,rfl,rfl,⟨0,rfl⟩,.inl ⟨rfl,rfl,rfl,rfl⟩⟩
 case round =>
  obtain ⟨rfl,rfl,rfl,rfl,⟨n,rfl⟩,⟨rfl,rfl,rfl,rfl⟩ | ⟨rfl,rfl,rfl,rfl⟩ | ⟨rfl,rfl,rfl,rfl⟩⟩ := hrel
  ·clear hs2 hb1
   go_wp2
   go_quiet (fail)
   go_wp2
   go_roundg 2
   case measure => exact Nat.lt_succ_self _
   case rel => exact ⟨rfl,rfl,rfl,rfl,⟨_,rfl⟩,.inr (.inl ⟨rfl,rfl,rfl,rfl⟩)⟩
  ·clear hs1 e0
   go_wp2
   go_quiet (fail)
   go_wp2
   go_roundg 1
   case measure => exact Nat.lt_succ_self _
   case rel => exact ⟨rfl,rfl,rfl,rfl,⟨_,rfl⟩,.inr (.inr ⟨rfl,rfl,rfl,rfl⟩)⟩
  ·clear hs1 hs2 e0 hb1
   rcases tail_empty s2 with ⟨h2,rfl⟩ | ⟨h2,h3⟩
   ·go_wp2
    go_ret3
    exact ⟨rfl,_,rfl⟩
   ·clear h3
    go_wp2
    go_ret3
    exact ⟨rfl,_,rfl⟩

structure AW (B b : Nat) (l : Tx) (w : World) : Prop where
 base : B ≤ b
 ex : ∃ v,Blk w b 342 #[v] ∧ w.ownsRow B 5 1 v l.length (Lib.byteCells l) ∧ v.ownBlock ≠ some b
theorem aw_info : (Tryz.prog.info? 5).map (fun i => (i.zero,i.size,i.bytes)) = some (some (.int .u8 0),1,1) := by kernel_rfl
theorem owns_far {w : World} {B n z : Nat} {e : TypeId} {v : Value} {xs : List Value} (h : w.ownsRow B e z v n xs) (p : Addr) (u : Value) (hp : v.ownBlock ≠ some p.block) : (w.setCell p u).ownsRow B e z v n xs := by
 refine ⟨h.1,?_⟩
 rcases h.2 with h4 | ⟨g,cap,cur,rfl,h6,h7,h8⟩
 ·exact .inl h4
 ·refine .inr ⟨g,cap,cur,rfl,h6,?_,h8⟩
  rw [Below.heap_setCell w p u g (fun e => hp (by subst e; rfl))]
  exact h7
theorem AW.below {B b : Nat} {l : Tx} {w w' : World} (h : AW B b l w) (hb : Below w.heap.size w w') : AW B b l w' := by
 obtain ⟨hB,v,h1,h2,h3⟩ := h
 refine ⟨hB,v,Blk.below h1 hb h1.lt,?_,h3⟩
 refine ⟨h2.1,?_⟩
 rcases h2.2 with h4 | ⟨g,cap,cur,h5,h6,h7,h8⟩
 ·exact .inl h4
 ·refine .inr ⟨g,cap,cur,h5,h6,?_,h8⟩
  rw [hb.block g (Array.getElem?_eq_some_iff.1 h7).1]
  exact h7
set_option maxHeartbeats 2000000 in
theorem awrite_any (B b : Nat) (l : Tx) (s : ByteArray) (w : World) (h : AW B b l w) (hlen : l.length + s.size ≤ 140737488355328) (hBw : B ≤ w.heap.size) :
  Calls Tryz.prog 334 #[.pointer (some ⟨b,0,none⟩),.string s] w fun e w' => e = .returned (.tuple #[.int .i64 s.size,.nilIface]) ∧ (AW B b (l ++ s.data.toList) w' ∧ Below B w w') := by
 obtain ⟨i0,hi,hz0,hz1,hz2⟩ := info_parts aw_info
 have HLN := Lib.hid hlen
 clear hlen
 obtain ⟨hB,v,hbk,hown,hne⟩ := h
 have c1 : w.cell? ⟨b,0,none⟩ = some v := hbk.cell 0
 have hlt : b < w.heap.size := hbk.lt
 go_enter Tryz.func334,Tryz.ntmps334
 go_wp2_with (at_builtin; refine Lib.wpList_append_own_string _ rfl _ _ 342 9 rfl B 5 i0 Tryz.underlying342 Tryz.underlying9 hi hz0 hz1 hz2 _ _ _ rfl hown s rfl ?c3 ?c4 ?c5 ?_)
 case c3 => have := HLN.out; unfold maxLen; omega
 case c4 => have := HLN.out; have hbl := Lib.byteCells_length l; omega
 case c5 => omega
 intro v' w2 hown' hgrow _
 have hb2 : Blk w2 b 342 #[v] := Blk.grown hbk hgrow (fun e => hne e.symm)
 have d1 : w2.cell? ⟨b,0,none⟩ = some v := hb2.cell 0
 have f1 := hb2.frozen 0
 obtain ⟨ao,n',cap,rfl⟩ : ∃ ao n' cap,v' = .slice ao n' cap := by
  rcases hown'.2 with ⟨hv,_⟩ | ⟨g,cap,cur,hv,_⟩
  ·exact ⟨_,_,_,hv⟩
  ·exact ⟨_,_,_,hv⟩
 have hne2 : (Value.slice ao n' cap).ownBlock ≠ some b := by
  intro e
  rcases hown'.2 with ⟨hv,_⟩ | ⟨g,cap2,cur,hv,hg,hg2,_⟩
  ·rw [hv] at e; simp [Value.ownBlock] at e
  ·rw [hv] at e; simp [Value.ownBlock] at e
   subst e
   have hx : w2.heap[g]? = some (.cells #[v] 342 (0,0)) := hb2
   rw [hx] at hg2
   injection hg2 with hg2
   injection hg2 with _ hg3
   exact absurd hg3 (by decide)
 go_wp2
 go_ret2
 have e2 : Lib.byteCells (l ++ s.data.toList) = Lib.byteCells l ++ Lib.strCells s := by simp [Lib.byteCells,Lib.strCells]
 refine ⟨rfl,⟨hB,_,Blk.set_ hb2 0 _,?_,hne2⟩,?_⟩
 ·have := owns_far hown' ⟨b,0,none⟩ (.slice ao n' cap) hne2
  rw [e2]; simpa [Lib.strCells_length] using this
 ·exact ((Below.refl B w).grown hgrow hBw (fun k hk => (hown.lt k hk).1)).setCell (p := ⟨b,0,none⟩) hB _

abbrev aI (b : Nat) : Value := .iface 343 (.pointer (some ⟨b,0,none⟩))
theorem ta_run (b : Nat) (w : World) : (Instr.typeAssert (aI b) 345 347 true).run Tryz.prog w = .ok (.tuple #[aI b,.bool true]) w := by kernel_rfl
theorem gsw_any (b : Nat) (w : World) :
  Calls Tryz.prog 317 #[aI b] w fun e w' => e = .returned (aI b) ∧ w' = w := by
 have q1 := ta_run b w
 go_enter Tryz.func317,Tryz.ntmps317
 go_wp2
 go_ret
 exact ⟨rfl,rfl⟩
theorem na_one (b m : Nat) (w : World) : (nilAhead (m + 1) 343 (.pointer (some ⟨b, 0, none⟩)) "WriteString").run Tryz.prog w = .ok (some false) w := by kernel_rfl
theorem na_any (b : Nat) (n : Nat) (h : 0 < n) (w : World) : (nilAhead n 343 (.pointer (some ⟨b, 0, none⟩)) "WriteString").run Tryz.prog w = .ok (some false) w := by
 obtain ⟨m,rfl⟩ : ∃ m,n = m + 1 := ⟨n - 1,by omega⟩
 exact na_one b m w
theorem me_one (b m : Nat) (w : World) : (method (m + 1) 343 (.pointer (some ⟨b, 0, none⟩)) "WriteString").run Tryz.prog w = .ok (334, .pointer (some ⟨b, 0, none⟩)) w := by kernel_rfl
theorem me_any (b : Nat) (n : Nat) (h : 0 < n) (w : World) : (method n 343 (.pointer (some ⟨b, 0, none⟩)) "WriteString").run Tryz.prog w = .ok (334, .pointer (some ⟨b, 0, none⟩)) w := by
 obtain ⟨m,rfl⟩ : ∃ m,n = m + 1 := ⟨n - 1,by omega⟩
 exact me_one b m w
def replC (a b d : Tx) : Tx → Tx
 | 36 :: 49 :: r => a ++ replC a b d r
 | 36 :: 50 :: r => b ++ replC a b d r
 | 36 :: 51 :: r => d ++ replC a b d r
 | x :: r => x :: replC a b d r
 | [] => []
def wfT : Tx → Bool
 | 36 :: 49 :: r => wfT r
 | 36 :: 50 :: r => wfT r
 | 36 :: 51 :: r => wfT r
 | 36 :: _ => false
 | _ :: r => wfT r
 | [] => true
theorem rep_ne (a b d : Tx) (x : UInt8) (r : Tx) (h : x ≠ 36) : replC a b d (x :: r) = x :: replC a b d r ∧ wfT (x :: r) = wfT r := by
 constructor
 ·rw [replC.eq_4]
  ·intro r2 h2; exact absurd h2 h
  ·intro r2 h2; exact absurd h2 h
  ·intro r2 h2; exact absurd h2 h
 ·rw [wfT.eq_5]
  all_goals first | (intro r2 h2; exact absurd h2 h) | (intro h2; exact absurd h2 h)
theorem wf_hole (r : Tx) (h : wfT (36 :: r) = true) : ∃ (k : Nat) (t : Tx),k < 3 ∧ r = UInt8.ofNat (49 + k) :: t ∧ wfT t = true := by
 match r,h with
 | [],h => cases h
 | x :: t,h =>
  by_cases h1 : x = 49
  ·subst h1; exact ⟨0,t,by decide,rfl,h⟩
  ·by_cases h2 : x = 50
   ·subst h2; exact ⟨1,t,by decide,rfl,h⟩
   ·by_cases h3 : x = 51
    ·subst h3; exact ⟨2,t,by decide,rfl,h⟩
    ·exfalso
     rw [wfT.eq_4] at h
     ·cases h
     ·intro r2 h4; injection h4 with h4 _; exact h1 h4
     ·intro r2 h4; injection h4 with h4 _; exact h2 h4
     ·intro r2 h4; injection h4 with h4 _; exact h3 h4
def holeT (a b d : Tx) (k : Nat) : Tx := if k = 0 then a else if k = 1 then b else d
theorem rep_hole (a b d : Tx) (k : Nat) (hk : k < 3) (t : Tx) : replC a b d (36 :: UInt8.ofNat (49 + k) :: t) = holeT a b d k ++ replC a b d t := by
 match k,hk with
 | 0,_ => rfl
 | 1,_ => rfl
 | 2,_ => rfl
end Go.Proofs.YtgdabkpahmlkpaaGreatDoor
