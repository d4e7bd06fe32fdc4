/- Tre -/
import Derived.Test.YtjmmninopagpjaaGreatDoorG19
import Derived.Deep.WholeRow
import Derived.Laws.Rows
import Derived.Shelf.SlicesQ.Load
import Derived.Test.YtjmmninopagpjaaGreatDoorG1
set_option linter.unusedSimpArgs false
set_option linter.unusedVariables false
namespace Go.Proofs.YtjmmninopagpjaaGreatDoor
open Go.ChangeShapes Go.WideShapes Go.ChangeAt Go.RowKit
set_option maxRecDepth 100000
set_option linter.unusedVariables false
set_option linter.unusedSimpArgs false

def rowV (m : Nat → Int) : List Value := (List.range 256).map fun i => .int .u8 (m i)
theorem row_len (m : Nat → Int) : (rowV m).length = 256 := by simp [rowV]
theorem row_at (m : Nat → Int) (i : Nat) (h : i < 256) : (rowV m)[i]? = some (.int .u8 (m i)) := by simp [rowV,h]
theorem map_load (w : World) (r : Nat) (tb : Value) (ts : Int) (m : Nat → Int) (h : G0 w r tb ts m) : Sem.run Tryz.prog (loadCells ⟨r,6,none⟩ 256) w = .ok (rowV m).toArray w := by
 rw [← row_len m]
 exact run_loadCells_list (P := Tryz.prog) w ⟨r,6,none⟩ (rowV m) (fun i v hi => by
  have hl : i < 256 := by have := (List.getElem?_eq_some_iff.1 hi).1; rwa [row_len] at this
  rw [row_at m i hl] at hi
  cases hi
  rw [Addr.add_lit]
  exact (Blk.cell h (6 + i)).trans (gr_map tb ts m i hl))
theorem by_one : (Tryz.prog.info? 5).map (fun i => i.size) = some 1 := by kernel_rfl
theorem idx_map (A : Array Value) (k : Nat) (v : Int) (w : World) (hk : k < 256) (h : A[k]? = some (.int .u8 v)) :
  (Instr.index 236 (.agg A) (.int .i64 (k : Int))).run Tryz.prog w = .ok (.int .u8 v) w := by
 obtain ⟨q,hq,hs⟩ := Option.map_eq_some_iff.1 by_one
 have h0 : (0 : Int) ≤ (k : Int) := by omega
 have h1 : (k : Int) < 256 := by omega
 have hagg : (isAgg 5).run Tryz.prog w = .ok false w := by
  unfold isAgg
  rw [Sem.run_bind,run_underlying Tryz.underlying5 w]
  simp
 have hk2 : ¬ (k ≥ 256) := by omega
 simp [Instr.index,asIntOf,Sem.run_bind,run_underlying Tryz.underlying236,part,hagg,sizeOf,typeInfo,hq,hs,h,h0,h1,hk]
theorem arr_info : (Tryz.prog.info? 236).map (fun i => (i.size,0,0)) = some (256,0,0) := by kernel_rfl
theorem wp_load_map {o : Oper} {a : Act} {w : World} {K : Act → World → Prop} {Q : Exit → Act → World → Prop} (x : Operand) (ho : o.op = .load 236 x)
  (g : Nat) (hx : a.eval x = .pointer (some ⟨g,6,none⟩)) (A : Array Value) (hl : Sem.run Tryz.prog (loadCells ⟨g,6,none⟩ 256) w = .ok A w)
  (h : K (a.put o.dst (.agg A)) w) : o.wp Tryz.prog a w K Q := by
 have hv : Sem.run Tryz.prog (loadVar 236 ⟨g,6,none⟩) w = .ok (.agg A) w := by
  obtain ⟨q,hq,hs⟩ := Option.map_eq_some_iff.1 arr_info
  have hs2 : q.size = 256 := by injection hs
  have hagg : (isAgg 236).run Tryz.prog w = .ok true w := by
   unfold isAgg
   rw [Sem.run_bind,run_underlying Tryz.underlying236 w]
   simp
  simp [loadVar,Sem.run_bind,hagg,sizeOf,typeInfo,hq,hs2,hl]
 unfold Oper.wp execOp
 simp only [ho,hx,Instr.loadAt,Instr.sureAddr,Sem.run_bind,Sem.run_pure,Result.andThen_ok,hv]
 exact h
def mixF (k j : Nat) : Int := if j < k then mapF j else seen (keysN 3) j
theorem mix_step (k : Nat) (x : Int) (h : mapF k = x) : (fun j => if j = k then x else mixF k j) = mixF (k + 1) := by
 funext j
 unfold mixF
 by_cases hj : j = k
 ·subst hj; rw [if_pos rfl,if_pos (by omega),h]
 ·rw [if_neg hj]
  by_cases hl : j < k
  ·rw [if_pos hl,if_pos (by omega)]
  ·rw [if_neg hl,if_neg (by omega)]
theorem mix_zero : mixF 0 = seen (keysN 3) := by funext j; unfold mixF; rw [if_neg (by omega)]
theorem mix_all (tb : Value) (ts : Int) : gCells tb ts (mixF 256) = gCells tb ts mapF := by
 have h : (List.range 256).map (fun i => Value.int .u8 (mixF 256 i)) = (List.range 256).map (fun i => Value.int .u8 (mapF i)) := by
  apply List.map_congr_left
  intro j hj
  unfold mixF
  rw [if_pos (List.mem_range.1 hj)]
 unfold gCells
 rw [h]
def ON (w : World) (o : Nat) (a b c : ByteArray) : Prop := o < w.heap.size ∧ ∀ i,i < 6 → w.cell? ⟨o,i,none⟩ = (onV a b c)[i]?
theorem ON.but {w w' : World} {o : Nat} {a b c : ByteArray} {S : List Nat} (h : ON w o a b c) (hb : But S w w') (hs : o ∉ S) : ON w' o a b c :=
 ⟨Nat.lt_of_lt_of_le h.1 hb.size,fun i hi => by
  have e := hb.block o h.1 hs
  have : w'.cell? ⟨o,i,none⟩ = w.cell? ⟨o,i,none⟩ := by unfold World.cell?; rw [show (⟨o,i,none⟩ : Addr).block = o from rfl,e]
  rw [this]; exact h.2 i hi⟩
def GS (w : World) (r tr : Nat) (a b c : ByteArray) : Nat → Prop
 | 3 => TT w tr (.pointer none) (.pointer none) (.pointer none) (.pointer none)
 | 2 => ∃ N x,x ≠ N ∧ TT w tr (nP N) (.pointer none) (.pointer none) (.pointer none) ∧ ND w N ⟨#[]⟩ 0 ⟨#[49]⟩ (nP x) (.slice none 0 0) ∧ ND w x a 6 ⟨#[]⟩ (.pointer none) (.slice none 0 0) ∧ r < N
 | 1 => ∃ N T x k,T ≠ tr ∧ TT w tr (nP N) (.pointer none) (.pointer none) (.pointer none) ∧ ND w N ⟨#[]⟩ 0 ⟨#[]⟩ (.pointer none) (nT T) ∧ TT w T (.pointer none) (nP x) (nP k) (.pointer none) ∧ ND w x a 6 ⟨#[]⟩ (.pointer none) (.slice none 0 0) ∧ ND w k b 4 ⟨#[]⟩ (.pointer none) (.slice none 0 0) ∧ r < T
 | 0 => ∃ N T x k l,TT w tr (nP N) (.pointer none) (.pointer none) (.pointer none) ∧ ND w N ⟨#[]⟩ 0 ⟨#[]⟩ (.pointer none) (nT T) ∧ TT w T (.pointer none) (nP x) (nP k) (nP l) ∧ ND w x a 6 ⟨#[]⟩ (.pointer none) (.slice none 0 0) ∧ ND w k b 4 ⟨#[]⟩ (.pointer none) (.slice none 0 0) ∧ ND w l c 2 ⟨#[]⟩ (.pointer none) (.slice none 0 0)
 | _ => False
theorem step1 (w w' : World) (r tr : Nat) (a b c : ByteArray) (hr : GR w r (nT tr)) (hT : TT w tr (.pointer none) (.pointer none) (.pointer none) (.pointer none)) (h1 : TT w' tr (nP w.heap.size) (.pointer none) (.pointer none) (.pointer none)) (h2 : ND w' w.heap.size ⟨#[]⟩ 0 ⟨#[49]⟩ (nP (w.heap.size + 1)) (.slice none 0 0)) (h3 : ND w' (w.heap.size + 1) a 6 ⟨#[]⟩ (.pointer none) (.slice none 0 0)) (hb : But [tr] w w') : GR w' r (nT tr) ∧ GS w' r tr a b c 2 :=
 ⟨Blk.but hr hb (by simpa using Blk.ne_ hr hT (by decide)),_,_,by omega,h1,h2,h3,hr.lt⟩
theorem step2 (w w' : World) (r tr N x : Nat) (a b c : ByteArray) (hr : GR w r (nT tr)) (hx : x ≠ N) (hT : TT w tr (nP N) (.pointer none) (.pointer none) (.pointer none)) (hN : ND w N ⟨#[]⟩ 0 ⟨#[49]⟩ (nP x) (.slice none 0 0)) (hX : ND w x a 6 ⟨#[]⟩ (.pointer none) (.slice none 0 0))
  (h1 : ND w' N ⟨#[]⟩ 0 ⟨#[]⟩ (.pointer none) (nT (w.heap.size + 1))) (h2 : TT w' (w.heap.size + 1) (.pointer none) (nP x) (nP w.heap.size) (.pointer none)) (h3 : ND w' w.heap.size b 4 ⟨#[]⟩ (.pointer none) (.slice none 0 0)) (hb : But [N] w w') : GR w' r (nT tr) ∧ GS w' r tr a b c 1 :=
 ⟨Blk.but hr hb (by simpa using Blk.ne_ hr hN (by decide)),N,w.heap.size + 1,x,w.heap.size,by have := hT.lt; omega,Blk.but hT hb (by simpa using Blk.ne_ hT hN (by decide)),h1,h2,Blk.but hX hb (by simpa using hx),h3,by have := hr.lt; omega⟩
theorem step3 (w w' : World) (r tr N T x k : Nat) (a b c : ByteArray) (hr : GR w r (nT tr)) (hx : T ≠ tr) (hT : TT w tr (nP N) (.pointer none) (.pointer none) (.pointer none)) (hN : ND w N ⟨#[]⟩ 0 ⟨#[]⟩ (.pointer none) (nT T)) (hU : TT w T (.pointer none) (nP x) (nP k) (.pointer none)) (hX : ND w x a 6 ⟨#[]⟩ (.pointer none) (.slice none 0 0)) (hK : ND w k b 4 ⟨#[]⟩ (.pointer none) (.slice none 0 0))
  (h1 : TT w' T (.pointer none) (nP x) (nP k) (nP w.heap.size)) (h2 : ND w' w.heap.size c 2 ⟨#[]⟩ (.pointer none) (.slice none 0 0)) (hb : But [T] w w') : GR w' r (nT tr) ∧ GS w' r tr a b c 0 :=
 ⟨Blk.but hr hb (by simpa using Blk.ne_ hr hU (by decide)),N,T,x,k,w.heap.size,Blk.but hT hb (by simpa using hx.symm),Blk.but hN hb (by simpa using Blk.ne_ hN hU (by decide)),h1,Blk.but hX hb (by simpa using Blk.ne_ hX hU (by decide)),Blk.but hK hb (by simpa using Blk.ne_ hK hU (by decide)),h2⟩
def GP (w : World) (r : Nat) (a b c : ByteArray) : Prop := ∃ tr,GR w r (nT tr) ∧ GS w r tr a b c 0
theorem But.drew1 {S : List Nat} {a w : World} (h : But S a w) : But S a w.drew := ⟨h.os,h.tape,h.output,h.size,h.block⟩
set_option maxHeartbeats 4000000 in
theorem made_any (o cap : Nat) (a b c : ByteArray) (w : World) (h : ON w o a b c) :
  Calls Tryz.prog 202 #[.slice (some ⟨o,0,none⟩) 6 cap] w fun e w' => e = .returned (nP w.heap.size) ∧ GP w' w.heap.size a b c ∧ But [] w w' := by
 have hol := h.1
 have HO := Lib.hid h
 have hS := g_start w
 have hb0 : But [] w (w.alloc (.cells Tryz.zeroCells269 269)) := (But.refl [] w).alloc _
 have HS := Lib.hid hS
 have HB0 := Lib.hid hb0
 have HOL := Lib.hid hol
 clear h hS hb0
 go_enter Tryz.func202,Tryz.ntmps202
 go_wp2
 go_loopg [4] 3 (fun gk u4 wx => ∃ k n : Nat,u4 = .int .i64 (n : Int) ∧ n = 2 * k ∧ k + gk = 3 ∧ G0 wx w.heap.size (.slice none 0 0) 0 (seen (keysN k)) ∧ But [] w wx)
 case atStart => exact ⟨0,0,rfl,rfl,rfl,HS.out,HB0.out⟩
 case round =>
  obtain ⟨k,n,rfl,hn,hk,hG,hB⟩ := hrel
  have HG := Lib.hid hG
  have HB := Lib.hid hB
  clear hG hB
  cases gk with
  | zero =>
   have hk3 : k = 3 := by omega
   subst hk3
   have hn6 : n = 6 := hn
   subst hn6
   clear hn
   have q1 := map_load wr _ _ _ _ HG.out
   go_wp2
   refine wp_load_map _ rfl w.heap.size (by rfl) _ q1 ?_
   obtain ⟨A,hA⟩ : ∃ A,(rowV (seen (keysN 3))).toArray = A := ⟨_,rfl⟩
   rw [hA]
   have hAt : ∀ i,i < 256 → A[i]? = some (.int .u8 (seen (keysN 3) i)) := fun i hi => by rw [← hA,List.getElem?_toArray]; exact row_at _ i hi
   have HA := Lib.hid hAt
   have hAs : A.size = 256 := by rw [← hA]; simp [row_len]
   clear hA q1 hAt
   go_wp2
   go_loopg [41] 256 (fun gk u41 wx => ∃ k : Nat,u41 = .int .i64 (k : Int) ∧ k + gk = 256 ∧ G0 wx w.heap.size (.slice none 0 0) (cntN k : Int) (seen (keysN 3)) ∧ But [] w wx)
   case atStart => exact ⟨0,rfl,rfl,HG.out,HB.out⟩
   case round =>
    obtain ⟨k,rfl,hk,hG,hB⟩ := hrel
    have HG := Lib.hid hG
    have HB := Lib.hid hB
    clear hB
    cases gk with
    | zero =>
     have hk3 : k = 256 := by omega
     rw [hk3] at hG HG
     rw [cnt_all] at HG
     have l1 : ¬ ((k : Int) < 256) := by omega
     clear hk hk3
     have q1 := map_load wr _ _ _ _ HG.out
     clear hG
     go_wp2
     refine wp_load_map _ rfl w.heap.size (by rfl) _ q1 ?_
     obtain ⟨A2,hA2⟩ : ∃ A2,(rowV (seen (keysN 3))).toArray = A2 := ⟨_,rfl⟩
     rw [hA2]
     have hAt : ∀ i,i < 256 → A2[i]? = some (.int .u8 (seen (keysN 3) i)) := fun i hi => by rw [← hA2,List.getElem?_toArray]; exact row_at _ i hi
     have HA2 := Lib.hid hAt
     clear hA2 q1 hAt HA
     go_wp2
     go_loopg [9,58] 256 (fun gk u9 u58 wx => ∃ k : Nat,u58 = .int .i64 (k : Int) ∧ u9 = .int .u8 (cntN k : Int) ∧ k + gk = 256 ∧ G0 wx w.heap.size (.slice none 0 0) 4 (mixF k) ∧ But [] w wx)
     case atStart => exact ⟨0,rfl,rfl,rfl,by rw [mix_zero]; exact HG.out,HB.out⟩
     case round =>
      obtain ⟨k,rfl,rfl,hk,hG,hB⟩ := hrel
      have HG := Lib.hid hG
      have HB := Lib.hid hB
      clear hB
      cases gk with
      | zero =>
       have hk3 : k = 256 := by omega
       rw [hk3] at hG HG
       have l1 : ¬ ((k : Int) < 256) := by omega
       obtain ⟨cn,hcn⟩ : ∃ cn,cntN k = cn := ⟨_,rfl⟩
       rw [hcn]
       clear hk hk3 hcn
       have hG2 : G0 wr w.heap.size (.slice none 0 0) 4 mapF := by
        have := HG.out
        unfold G0 at this ⊢
        rwa [mix_all] at this
       have c5 : wr.cell? ⟨w.heap.size,5,none⟩ = some (.int .i64 4) := (Blk.cell hG2 5).trans (gr_head _ _ _ 5 (by decide))
       have c4 : ∀ o',(wr.alloc o').cell? ⟨w.heap.size,4,none⟩ = some (.slice none 0 0) := fun o' => (Blk.cell (hG2.alloc o') 4).trans (gr_head _ _ _ 4 (by decide))
       have f4 : ∀ o',(wr.alloc o').frozen? ⟨w.heap.size,4,none⟩ = false := fun o' => Blk.frozen (hG2.alloc o') 4
       have q5 := mk4 wr
       have hrl : w.heap.size < wr.heap.size := hG2.lt
       have HG2 := Lib.hid hG2
       clear hG HG hG2
       go_wp2
       obtain ⟨W,hW⟩ : ∃ W,(wr.setCell ⟨w.heap.size,4,none⟩ (nT wr.heap.size)).alloc (.cells #[.pointer none,.pointer none,.pointer none,.pointer none] 264) = W := ⟨_,rfl⟩
       have hGR : GR W w.heap.size (nT wr.heap.size) := by
        rw [← hW]
        have := Blk.set_ HG2.out 4 (nT wr.heap.size)
        rw [g_tb] at this
        exact this.alloc _
       have hTT : TT W wr.heap.size (.pointer none) (.pointer none) (.pointer none) (.pointer none) := by
        rw [← hW]; exact Blk.newAt _ _ _ _ (by simp)
       have hBW : But [] w W := by rw [← hW]; exact (HB.out.set _ _ (.inr (Nat.le_refl _))).alloc _
       rw [hW]
       obtain ⟨tr,htr⟩ : ∃ tr,wr.heap.size = tr := ⟨_,rfl⟩
       rw [htr] at hGR hTT hrl ⊢
       have HGR := Lib.hid hGR
       have HTT := Lib.hid hTT
       have HBW := Lib.hid hBW
       have HTR := Lib.hid hrl
       clear hW hGR hTT hBW HG2 c5 c4 f4 q5 htr
       go_loopg [12] 3 (fun gk u12 wx => u12 = .int .i64 (((3 - gk) * 2 : Nat) : Int) ∧ GR wx w.heap.size (nT tr) ∧ GS wx w.heap.size tr a b c gk ∧ But [] w wx)
       case atStart => exact ⟨rfl,HGR.out,HTT.out,HBW.out⟩
       case round =>
        obtain ⟨rfl,hGR,hGS,hB⟩ := hrel
        have HO2 : Hid (ON wr o a b c) := ON.but HO.out hB (by simp)
        have HGR := Lib.hid hGR
        have HGS := Lib.hid hGS
        have HB := Lib.hid hB
        have hrl := hGR.lt
        clear hGR hGS hB HTT HBW
        match gk with
        | 0 =>
         go_wp2
         go_ret
         exact ⟨rfl,⟨tr,HGR.out,HGS.out⟩,HB.out⟩
        | 1 =>
         obtain ⟨N,T,x,k,g1,g2,g3,g4,g5,g6,g7⟩ := HGS.out
         have HLT := Lib.hid g7
         have o0 : wr.cell? ⟨o,4,none⟩ = some (.string ⟨#[36,51]⟩) := HO2.out.2 4 (by decide)
         have o1 : wr.cell? ⟨o,5,none⟩ = some (.string c) := HO2.out.2 5 (by decide)
         have HR := Lib.hid (root3 w.heap.size tr N T x k c 2 wr.drew HGR.out g2 g3 g4)
         have HST := Lib.hid (fun w' h1 h2 hb => step3 wr.drew w' w.heap.size tr N T x k a b c HGR.out g1 g2 g3 g4 g5 g6 h1 h2 hb)
         clear g1 g2 g3 g4 g5 g6 g7
         go_wp2
         go_region_with (go_at_call 230; (refine HR.out.mono ?_); rintro e w' ⟨rfl,z1,z2,z3⟩; have HZ1 := Lib.hid z1; have HZ2 := Lib.hid z2; have HZ3 := Lib.hid z3; clear z1 z2 z3)
         all_goals
          go_wp2
          go_roundg 0
          case measure => exact Nat.lt_succ_self _
          case rel => exact ⟨rfl,(HST.out _ HZ1.out HZ2.out HZ3.out).1,(HST.out _ HZ1.out HZ2.out HZ3.out).2,HB.out.drew1.trans HZ3.out (by simp) (fun y hy hl => by have := HLT.out; simp only [List.mem_singleton] at hy; omega)⟩
        | 2 =>
         obtain ⟨N,x,g1,g2,g3,g4,g5⟩ := HGS.out
         have HLT := Lib.hid g5
         have o0 : wr.cell? ⟨o,2,none⟩ = some (.string ⟨#[36,50]⟩) := HO2.out.2 2 (by decide)
         have o1 : wr.cell? ⟨o,3,none⟩ = some (.string b) := HO2.out.2 3 (by decide)
         have HR := Lib.hid (root2 w.heap.size tr N x b 4 wr.drew HGR.out g2 g3)
         have HST := Lib.hid (fun w' h1 h2 h3 hb => step2 wr.drew w' w.heap.size tr N x a b c HGR.out g1 g2 g3 g4 h1 h2 h3 hb)
         clear g1 g2 g3 g4 g5
         go_wp2
         go_region_with (go_at_call 230; (refine HR.out.mono ?_); rintro e w' ⟨rfl,z1,z2,z3,z4⟩; have HZ1 := Lib.hid z1; have HZ2 := Lib.hid z2; have HZ3 := Lib.hid z3; have HZ4 := Lib.hid z4; clear z1 z2 z3 z4)
         all_goals
          go_wp2
          go_roundg 1
          case measure => exact Nat.lt_succ_self _
          case rel => exact ⟨rfl,(HST.out _ HZ1.out HZ2.out HZ3.out HZ4.out).1,(HST.out _ HZ1.out HZ2.out HZ3.out HZ4.out).2,HB.out.drew1.trans HZ4.out (by simp) (fun y hy hl => by have := HLT.out; simp only [List.mem_singleton] at hy; omega)⟩
        | 3 =>
         have o0 : wr.cell? ⟨o,0,none⟩ = some (.string ⟨#[36,49]⟩) := HO2.out.2 0 (by decide)
         have o1 : wr.cell? ⟨o,1,none⟩ = some (.string a) := HO2.out.2 1 (by decide)
         have HR := Lib.hid (root1 w.heap.size tr a 6 wr.drew HGR.out HGS.out)
         have HST := Lib.hid (fun w' h1 h2 h3 hb => step1 wr.drew w' w.heap.size tr a b c HGR.out HGS.out h1 h2 h3 hb)
         go_wp2
         go_region_with (go_at_call 230; (refine HR.out.mono ?_); rintro e w' ⟨rfl,z1,z2,z3,z4⟩; have HZ1 := Lib.hid z1; have HZ2 := Lib.hid z2; have HZ3 := Lib.hid z3; have HZ4 := Lib.hid z4; clear z1 z2 z3 z4)
         all_goals
          go_wp2
          go_roundg 2
          case measure => exact Nat.lt_succ_self _
          case rel => exact ⟨rfl,(HST.out _ HZ1.out HZ2.out HZ3.out HZ4.out).1,(HST.out _ HZ1.out HZ2.out HZ3.out HZ4.out).2,HB.out.drew1.trans HZ4.out (by simp) (fun y hy hl => by have := HTR.out; simp only [List.mem_singleton] at hy; omega)⟩
        | g + 4 => exact absurd HGS.out (by simp [GS])
      | succ g =>
       have hk3 : k < 256 := by omega
       have q2 := idx_map A2 k _ wr hk3 (HA2.out k hk3)
       obtain ⟨hc1,hc2,hc3⟩ := cnt_facts k hk3
       have c5 : wr.cell? ⟨w.heap.size,5,none⟩ = some (.int .i64 4) := (Blk.cell hG 5).trans (gr_head _ _ _ 5 (by decide))
       have cm : wr.cell? ⟨w.heap.size,6 + k,none⟩ = some (.int .u8 (mixF k k)) := (Blk.cell hG (6 + k)).trans (gr_map _ _ _ k hk3)
       have fm := Blk.frozen hG (6 + k)
       obtain ⟨n,hn⟩ : ∃ n,cntN k = n := ⟨_,rfl⟩
       obtain ⟨n1,hn1⟩ : ∃ n1,cntN (k + 1) = n1 := ⟨_,rfl⟩
       rw [hn,hn1] at hc1
       rw [hn] at hc2 hc3 ⊢
       have HN1 := Lib.hid hn1
       have l1 : (k : Int) < 256 := by omega
       have l0 : (0 : Int) ≤ (k : Int) := by omega
       obtain ⟨k1,hk1⟩ : ∃ k1,k + 1 = k1 := ⟨_,rfl⟩
       have wk : IntKind.i64.wrap ((k : Int) + 1) = (k1 : Int) := by rw [show (k : Int) + 1 = (k1 : Int) by omega]; exact IntWalk.i64_in _ (by omega)
       have HK1 := Lib.hid hk1
       have HKG := Lib.hid hk
       rcases hc2 with ⟨hs,hm⟩ | ⟨hs,hm⟩
       ·rw [hs] at q2 hc1
        have e1 : n1 = n := by simpa using hc1
        subst e1
        have hset := Blk.set_ HG.out (6 + k) (.int .u8 4)
        rw [g_set _ _ _ k hk3,mix_step k 4 hm,hk1] at hset
        have HSET := Lib.hid hset
        clear hG hn hn1 hc1 hc3 hk1 hk hset hs HG hm
        go_wp2
        go_region
        go_wp2
        go_roundg g
        case measure => exact Nat.lt_succ_self _
        case rel => exact ⟨k1,rfl,by rw [← HK1.out,HN1.out],by have := HK1.out; have := HKG.out; omega,HSET.out,(HB.out.set _ _ (.inr (Nat.le_refl _))).drewN 1⟩
       ·rw [hs] at q2 hc1
        have e1 : n1 = n + 1 := by simpa using hc1
        have wn1 : IntKind.u8.wrap ((n : Int) + 1) = (n1 : Int) := by
         have : n = 0 ∨ n = 1 ∨ n = 2 ∨ n = 3 ∨ n = 4 := by omega
         rcases this with rfl | rfl | rfl | rfl | rfl <;> (subst e1; rfl)
        have hset := Blk.set_ HG.out (6 + k) (.int .u8 (n : Int))
        rw [g_set _ _ _ k hk3,mix_step k n hm,hk1] at hset
        have HSET := Lib.hid hset
        clear hG hn hn1 hc1 hc3 hk1 hk hset hs HG hm e1
        go_wp2
        go_roundg g
        case measure => exact Nat.lt_succ_self _
        case rel => exact ⟨k1,rfl,by rw [← HK1.out,HN1.out],by have := HK1.out; have := HKG.out; omega,HSET.out,HB.out.set _ _ (.inr (Nat.le_refl _))⟩
    | succ g =>
     have hk3 : k < 256 := by omega
     have hAk := HA.out k hk3
     obtain ⟨hc1,hc2,hc3⟩ := cnt_facts k hk3
     have c5 : wr.cell? ⟨w.heap.size,5,none⟩ = some (.int .i64 (cntN k : Int)) := (Blk.cell hG 5).trans (gr_head _ _ _ 5 (by decide))
     have f5 := Blk.frozen hG 5
     have q2 := idx_map A k _ wr hk3 hAk
     obtain ⟨n,hn⟩ : ∃ n,cntN k = n := ⟨_,rfl⟩
     obtain ⟨n1,hn1⟩ : ∃ n1,cntN (k + 1) = n1 := ⟨_,rfl⟩
     rw [hn,hn1] at hc1
     rw [hn] at hc2 hc3 c5 HG
     have HN1 := Lib.hid hn1
     have l1 : (k : Int) < 256 := by omega
     have l0 : (0 : Int) ≤ (k : Int) := by omega
     obtain ⟨k1,hk1⟩ : ∃ k1,k + 1 = k1 := ⟨_,rfl⟩
     have wk : IntKind.i64.wrap ((k : Int) + 1) = (k1 : Int) := by rw [show (k : Int) + 1 = (k1 : Int) by omega]; exact IntWalk.i64_in _ (by omega)
     have HK1 := Lib.hid hk1
     have HKG := Lib.hid hk
     have hset := Blk.set_ HG.out 5 (.int .i64 (n1 : Int))
     rw [g_ts] at hset
     have HSET := Lib.hid hset
     have wn : IntKind.i64.wrap (n : Int) = (n : Int) := IntWalk.i64_in _ (by omega)
     rcases hc2 with ⟨hs,_⟩ | ⟨hs,_⟩
     ·rw [hs] at q2 hc1
      have e1 : n1 = n := by simpa using hc1
      subst e1
      clear hG hn hn1 hc1 hc3 hk1 hk hset hAk hs HG
      go_wp2
      go_roundg g
      case measure => exact Nat.lt_succ_self _
      case rel => exact ⟨k1,rfl,by have := HK1.out; have := HKG.out; omega,by rw [← HK1.out,HN1.out]; exact HSET.out,HB.out.set _ _ (.inr (Nat.le_refl _))⟩
     ·rw [hs] at q2 hc1
      have e1 : n1 = n + 1 := by simpa using hc1
      have wn1 : IntKind.i64.wrap ((n : Int) + 1) = (n1 : Int) := by rw [show (n : Int) + 1 = (n1 : Int) by omega]; exact IntWalk.i64_in _ (by omega)
      clear hG hn hn1 hc1 hc3 hk1 hk hset hAk hs HG e1
      go_wp2
      go_roundg g
      case measure => exact Nat.lt_succ_self _
      case rel => exact ⟨k1,rfl,by have := HK1.out; have := HKG.out; omega,by rw [← HK1.out,HN1.out]; exact HSET.out,HB.out.set _ _ (.inr (Nat.le_refl _))⟩
  | succ g =>
   have hk3 : k < 3 := by omega
   obtain ⟨k1,k2,k3,k4,k5,k6⟩ := key_facts a b c k hk3
   have ho : ON wr o a b c := ON.but HO.out HB.out (by simp)
   have cK : wr.cell? ⟨o,n,none⟩ = some (.string (keyB k)) := by rw [hn]; exact (ho.2 (2 * k) (by omega)).trans k1
   generalize keyB k = D at *
   have l1 : (n : Int) < 6 := by omega
   have l0 : (0 : Int) ≤ (n : Int) := by omega
   obtain ⟨n2,hn2⟩ : ∃ n2,n + 2 = n2 := ⟨_,rfl⟩
   have wk : IntKind.i64.wrap ((n : Int) + 2) = (n2 : Int) := by rw [show (n : Int) + 2 = (n2 : Int) by omega]; exact IntWalk.i64_in _ (by omega)
   have HN2 : Hid (n2 = 2 * (k + 1)) := Lib.hid (by omega)
   clear hn hn2
   have K5 := Lib.hid k5
   clear k1 ho
   have hdz : (D.size : Int) = 2 := by omega
   obtain ⟨x,hx⟩ : ∃ x,49 + k = x := ⟨_,rfl⟩
   have hx256 : x < 256 := by omega
   have hkn : keysN (k + 1) = x :: 36 :: keysN k := by rw [← hx]; rfl
   have HKN := Lib.hid hkn
   have HKG := Lib.hid hk
   rw [hx] at k6
   clear hx hkn
   go_wp2
   go_loopg [6] 2 (fun gj u6 wx => ∃ (j : Nat) (L : List Nat),u6 = .int .i64 (j : Int) ∧ j + gj = 2 ∧ L = (if j = 0 then keysN k else if j = 1 then 36 :: keysN k else x :: 36 :: keysN k) ∧ G0 wx w.heap.size (.slice none 0 0) 0 (seen L) ∧ But [] w wx)
   case atStart => exact ⟨0,_,rfl,rfl,rfl,HG.out,HB.out⟩
   case round =>
    obtain ⟨j,L,rfl,hj,hL,hG,hB⟩ := hrel
    have HG := Lib.hid hG
    have HB := Lib.hid hB
    have HL := Lib.hid hL
    clear hL
    cases gk with
    | zero =>
     have hj2 : j = 2 := by omega
     subst hj2
     have hL : L = keysN (k + 1) := by rw [HKN.out]; exact HL.out
     go_wp2
     go_roundg g
     case measure => exact Nat.lt_succ_self _
     case rel => exact ⟨k + 1,n2,rfl,HN2.out,by have := HKG.out; omega,hL ▸ HG.out,HB.out⟩
    | succ g2 =>
     cases g2 with
     | zero =>
      have hj2 : j = 1 := by omega
      subst hj2
      have c1 : wr.cell? ⟨w.heap.size,6 + x,none⟩ = some (.int .u8 (seen L x)) := (Blk.cell hG (6 + x)).trans (gr_map _ _ _ x hx256)
      have f1 := Blk.frozen hG (6 + x)
      clear hG hB
      go_wp2
      go_region
      go_wp2
      go_roundg 0
      case measure => exact Nat.lt_succ_self _
      case rel =>
       refine ⟨2,x :: L,rfl,rfl,?_,?_,?_⟩
       ·rw [HL.out]; rfl
       ·have := Blk.set_ HG.out (6 + x) (.int .u8 1)
        rw [g_set _ _ _ x hx256,seen_set] at this
        exact this
       ·exact (HB.out.set _ _ (.inr (Nat.le_refl _))).drewN 1
     | succ g3 =>
      have hj2 : j = 0 := by omega
      subst hj2
      have c1 : wr.cell? ⟨w.heap.size,42,none⟩ = some (.int .u8 (seen L 36)) := (Blk.cell hG (6 + 36)).trans (gr_map _ _ _ 36 (by decide))
      have f1 := Blk.frozen hG 42
      clear hG hB
      go_wp2
      go_region
      go_wp2
      go_roundg (g3 + 1)
      case measure => omega
      case rel =>
       refine ⟨1,36 :: L,rfl,by omega,?_,?_,?_⟩
       ·rw [HL.out]; rfl
       ·have := Blk.set_ HG.out (6 + 36) (.int .u8 1)
        rw [g_set _ _ _ 36 (by decide),seen_set] at this
        exact this
       ·exact (HB.out.set _ _ (.inr (Nat.le_refl _))).drewN 1
end Go.Proofs.YtjmmninopagpjaaGreatDoor
