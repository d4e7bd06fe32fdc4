/- Trg Trh -/
import Derived.Test.YtjmmninopagpjaaGreatDoorG20
import Derived.Lib.Builder
import Derived.Lib.AppendStr
import Derived.WalkKit
import Derived.Shelf.Strings.Builder1
import Derived.KernelRfl
import Derived.Test.YtjmmninopagpjaaGreatDoorG1
set_option linter.unusedSimpArgs false
set_option linter.unusedVariables false
namespace Go.Proofs.YtjmmninopagpjaaGreatDoor
open Go.ChangeShapes Go.WideShapes Go.ChangeAt Go.RowKit
set_option maxRecDepth 100000
set_option linter.unusedVariables false
set_option linter.unusedSimpArgs false

structure AW (B b : Nat) (l : Tx) (w : World) : Prop where
 base : B ≤ b
 ex : ∃ v,Blk w b 339 #[v] ∧ w.ownsRow B 5 1 v l.length (Lib.byteCells l) ∧ v.ownBlock ≠ some b
theorem aw_info : (Tryz.prog.info? 5).map (fun i => (i.zero,i.size,i.bytes)) = some (some (.int .u8 0),1,1) := by kernel_rfl
theorem owns_far {w : World} {B n z : Nat} {e : TypeId} {v : Value} {xs : List Value} (h : w.ownsRow B e z v n xs) (p : Addr) (u : Value) (hp : v.ownBlock ≠ some p.block) : (w.setCell p u).ownsRow B e z v n xs := by
 refine ⟨h.1,?_⟩
 rcases h.2 with h4 | ⟨g,cap,cur,rfl,h6,h7,h8⟩
 ·exact .inl h4
 ·refine .inr ⟨g,cap,cur,rfl,h6,?_,h8⟩
  rw [Below.heap_setCell w p u g (fun e => hp (by subst e; rfl))]
  exact h7
theorem AW.below {B b : Nat} {l : Tx} {w w' : World} (h : AW B b l w) (hb : Below w.heap.size w w') : AW B b l w' := by
 obtain ⟨hB,v,h1,h2,h3⟩ := h
 refine ⟨hB,v,Blk.below h1 hb h1.lt,?_,h3⟩
 refine ⟨h2.1,?_⟩
 rcases h2.2 with h4 | ⟨g,cap,cur,h5,h6,h7,h8⟩
 ·exact .inl h4
 ·refine .inr ⟨g,cap,cur,h5,h6,?_,h8⟩
  rw [hb.block g (Array.getElem?_eq_some_iff.1 h7).1]
  exact h7
set_option maxHeartbeats 2000000 in
theorem awrite_any (B b : Nat) (l : Tx) (s : ByteArray) (w : World) (h : AW B b l w) (hlen : l.length + s.size ≤ 140737488355328) (hBw : B ≤ w.heap.size) :
  Calls Tryz.prog 327 #[.pointer (some ⟨b,0,none⟩),.string s] w fun e w' => e = .returned (.tuple #[.int .i64 s.size,.nilIface]) ∧ (AW B b (l ++ s.data.toList) w' ∧ Below B w w') := by
 obtain ⟨i0,hi,hz0,hz1,hz2⟩ := info_parts aw_info
 have HLN := Lib.hid hlen
 clear hlen
 obtain ⟨hB,v,hbk,hown,hne⟩ := h
 have c1 : w.cell? ⟨b,0,none⟩ = some v := hbk.cell 0
 have hlt : b < w.heap.size := hbk.lt
 go_enter Tryz.func327,Tryz.ntmps327
 go_wp2_with (at_builtin; refine Lib.wpList_append_own_string _ rfl _ _ 339 9 rfl B 5 i0 Tryz.underlying339 Tryz.underlying9 hi hz0 hz1 hz2 _ _ _ rfl hown s rfl ?c3 ?c4 ?c5 ?_)
 case c3 => have := HLN.out; unfold maxLen; omega
 case c4 => have := HLN.out; have hbl := Lib.byteCells_length l; omega
 case c5 => omega
 intro v' w2 hown' hgrow _
 have hb2 : Blk w2 b 339 #[v] := Blk.grown hbk hgrow (fun e => hne e.symm)
 have d1 : w2.cell? ⟨b,0,none⟩ = some v := hb2.cell 0
 have f1 := hb2.frozen 0
 obtain ⟨ao,n',cap,rfl⟩ : ∃ ao n' cap,v' = .slice ao n' cap := by
  rcases hown'.2 with ⟨hv,_⟩ | ⟨g,cap,cur,hv,_⟩
  ·exact ⟨_,_,_,hv⟩
  ·exact ⟨_,_,_,hv⟩
 have hne2 : (Value.slice ao n' cap).ownBlock ≠ some b := by
  intro e
  rcases hown'.2 with ⟨hv,_⟩ | ⟨g,cap2,cur,hv,hg,hg2,_⟩
  ·rw [hv] at e; simp [Value.ownBlock] at e
  ·rw [hv] at e; simp [Value.ownBlock] at e
   subst e
   have hx : w2.heap[g]? = some (.cells #[v] 339 (0,0)) := hb2
   rw [hx] at hg2
   injection hg2 with hg2
   injection hg2 with _ hg3
   exact absurd hg3 (by decide)
 go_wp2
 go_ret2
 have e2 : Lib.byteCells (l ++ s.data.toList) = Lib.byteCells l ++ Lib.strCells s := by simp [Lib.byteCells,Lib.strCells]
 refine ⟨rfl,⟨hB,_,Blk.set_ hb2 0 _,?_,hne2⟩,?_⟩
 ·have := owns_far hown' ⟨b,0,none⟩ (.slice ao n' cap) hne2
  rw [e2]; simpa [Lib.strCells_length] using this
 ·exact ((Below.refl B w).grown hgrow hBw (fun k hk => (hown.lt k hk).1)).setCell (p := ⟨b,0,none⟩) hB _

abbrev aI (b : Nat) : Value := .iface 340 (.pointer (some ⟨b,0,none⟩))
theorem ta_run (b : Nat) (w : World) : (Instr.typeAssert (aI b) 342 344 true).run Tryz.prog w = .ok (.tuple #[aI b,.bool true]) w := by kernel_rfl
theorem gsw_any (b : Nat) (w : World) :
  Calls Tryz.prog 310 #[aI b] w fun e w' => e = .returned (aI b) ∧ w' = w := by
 have q1 := ta_run b w
 go_enter Tryz.func310,Tryz.ntmps310
 go_wp2
 go_ret
 exact ⟨rfl,rfl⟩
theorem na_one (b m : Nat) (w : World) : (nilAhead (m + 1) 340 (.pointer (some ⟨b, 0, none⟩)) "WriteString").run Tryz.prog w = .ok (some false) w := by kernel_rfl
theorem na_any (b : Nat) (n : Nat) (h : 0 < n) (w : World) : (nilAhead n 340 (.pointer (some ⟨b, 0, none⟩)) "WriteString").run Tryz.prog w = .ok (some false) w := by
 obtain ⟨m,rfl⟩ : ∃ m,n = m + 1 := ⟨n - 1,by omega⟩
 exact na_one b m w
theorem me_one (b m : Nat) (w : World) : (method (m + 1) 340 (.pointer (some ⟨b, 0, none⟩)) "WriteString").run Tryz.prog w = .ok (327, .pointer (some ⟨b, 0, none⟩)) w := by kernel_rfl
theorem me_any (b : Nat) (n : Nat) (h : 0 < n) (w : World) : (method n 340 (.pointer (some ⟨b, 0, none⟩)) "WriteString").run Tryz.prog w = .ok (327, .pointer (some ⟨b, 0, none⟩)) w := by
 obtain ⟨m,rfl⟩ : ∃ m,n = m + 1 := ⟨n - 1,by omega⟩
 exact me_one b m w
def replC (a b d : Tx) : Tx → Tx
 | 36 :: 49 :: r => a ++ replC a b d r
 | 36 :: 50 :: r => b ++ replC a b d r
 | 36 :: 51 :: r => d ++ replC a b d r
 | x :: r => x :: replC a b d r
 | [] => []
def wfT : Tx → Bool
 | 36 :: 49 :: r => wfT r
 | 36 :: 50 :: r => wfT r
 | 36 :: 51 :: r => wfT r
 | 36 :: _ => false
 | _ :: r => wfT r
 | [] => true
theorem rep_ne (a b d : Tx) (x : UInt8) (r : Tx) (h : x ≠ 36) : replC a b d (x :: r) = x :: replC a b d r ∧ wfT (x :: r) = wfT r := by
 constructor
 ·rw [replC.eq_4]
  ·intro r2 h2; exact absurd h2 h
  ·intro r2 h2; exact absurd h2 h
  ·intro r2 h2; exact absurd h2 h
 ·rw [wfT.eq_5]
  all_goals first | (intro r2 h2; exact absurd h2 h) | (intro h2; exact absurd h2 h)
theorem wf_hole (r : Tx) (h : wfT (36 :: r) = true) : ∃ (k : Nat) (t : Tx),k < 3 ∧ r = UInt8.ofNat (49 + k) :: t ∧ wfT t = true := by
 match r,h with
 | [],h => cases h
 | x :: t,h =>
  by_cases h1 : x = 49
  ·subst h1; exact ⟨0,t,by decide,rfl,h⟩
  ·by_cases h2 : x = 50
   ·subst h2; exact ⟨1,t,by decide,rfl,h⟩
   ·by_cases h3 : x = 51
    ·subst h3; exact ⟨2,t,by decide,rfl,h⟩
    ·exfalso
     rw [wfT.eq_4] at h
     ·cases h
     ·intro r2 h4; injection h4 with h4 _; exact h1 h4
     ·intro r2 h4; injection h4 with h4 _; exact h2 h4
     ·intro r2 h4; injection h4 with h4 _; exact h3 h4
def holeT (a b d : Tx) (k : Nat) : Tx := if k = 0 then a else if k = 1 then b else d
theorem rep_hole (a b d : Tx) (k : Nat) (hk : k < 3) (t : Tx) : replC a b d (36 :: UInt8.ofNat (49 + k) :: t) = holeT a b d k ++ replC a b d t := by
 match k,hk with
 | 0,_ => rfl
 | 1,_ => rfl
 | 2,_ => rfl
end Go.Proofs.YtjmmninopagpjaaGreatDoor
