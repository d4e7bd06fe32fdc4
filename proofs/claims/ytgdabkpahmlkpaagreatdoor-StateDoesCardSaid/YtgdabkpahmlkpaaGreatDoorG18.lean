/- Dgt Dpt Dch Dmd Ddo -/
import Derived.Test.YtgdabkpahmlkpaaGreatDoorG2
import Derived.Test.YtgdabkpahmlkpaaGreatDoorG13
import Derived.BigQuiet
import Derived.Deep.RegionHeld3
import Derived.Test.YtgdabkpahmlkpaaGreatDoorG15
import Derived.Test.YtgdabkpahmlkpaaGreatDoorG7
import Derived.Test.YtgdabkpahmlkpaaGreatDoorG14
import Derived.Test.YtgdabkpahmlkpaaGreatDoorG17
set_option linter.unusedSimpArgs false
set_option linter.unusedVariables false
namespace Go.Proofs.YtgdabkpahmlkpaaGreatDoor
open Go.ChangeShapes Go.WideShapes Go.ChangeAt Go.RowKit
set_option maxRecDepth 100000
set_option linter.unusedVariables false
set_option linter.unusedSimpArgs false

def OwnP (l : List Rw) (w : World) (e : Ending) (w' : World) : Prop := ∃ v,e = .returned v ∧ OR w.heap.size w' v l ∧ Below w.heap.size w w'
theorem row_two {W : World} {g : Nat} {a b : Value} {t : TypeId} (h : Blk W g t #[a,b]) : ∀ j u,[a,b][j]? = some u → W.cell? ((⟨g,0,none⟩ : Addr).add j) = some u := by
 intro j u hj
 rw [Addr.add_lit,Nat.zero_add]
 rw [h.cell j]
 simpa using hj
theorem take_filter {l : List Rw} {i : Nat} {r : Rw} (q : Rw → Bool) (h : l[i]? = some r) : (l.take (i + 1)).filter q = (l.take i).filter q ++ (if q r = true then [r] else []) := by
 rw [List.take_add_one,h,Option.toList_some,List.filter_append,List.filter_cons]
 split <;> simp
theorem take_flen (l : List Rw) (i : Nat) (q : Rw → Bool) (hi : i < l.length) : ((l.take i).filter q).length < l.length := by
 have := List.length_filter_le q (l.take i)
 rw [List.length_take] at this
 omega
set_option maxHeartbeats 4000000 in
theorem rget_any (v : Value) (l : List Rw) (kd : Int) (n : ByteArray) (K V : Int) (kb : Bool) (w : World) (h : RR w v l) (hl : l.length ≤ 1000000) :
  Calls Tryz.prog 56 #[v,.agg #[.int .i64 kd,.string n,.int .i64 K,.int .i64 V,.bool kb]] w (OwnP (l.filter (meantB kb K)) w) := by
 obtain ⟨i31,hi31,hz31,hs31,hb31⟩ := iRow
 have und31 := undRow
 obtain ⟨a,cap,rfl⟩ := h.form
 obtain ⟨q,hq⟩ : ∃ q : Rw → Bool,(meantB kb K) = q := ⟨_,rfl⟩
 rw [hq]
 have HQ := Lib.hid hq
 obtain ⟨W0,hW0⟩ : ∃ W0,w.alloc (.cells #[.int .i64 kd,.string n,.int .i64 K,.int .i64 V,.bool kb] 24) = W0 := ⟨_,rfl⟩
 have hb0 : Below w.heap.size w W0 := by rw [← hW0]; exact (Below.refl _ _).alloc (Nat.le_refl _) _
 have hk0 : Blk W0 w.heap.size 24 (cmCells (kd,n,K,V,kb)) := by rw [← hW0]; exact Blk.new _ _ _
 have HK := Lib.hid hk0
 have HB0 := Lib.hid hb0
 have HH := Lib.hid (h.below hb0)
 have HL := Lib.hid hl
 clear h hl hq hb0 hk0
 go_enter Tryz.func56,Tryz.ntmps56
 go_wp2_with fail
 clear hW0
 go_loopg [5,6] l.length (fun gk u5 u6 wx => ∃ i : Nat,u6 = .int .i64 (i : Int) ∧ i + gk = l.length ∧ OR W0.heap.size wx u5 ((l.take i).filter q) ∧ Below W0.heap.size W0 wx)
 case atStart => exact ⟨0,rfl,by omega,World.ownsRow_nil _ _ _ _,Below.refl _ _⟩
 case round =>
  obtain ⟨i,rfl,hi,hO,hB⟩ := hrel
  have HO := Lib.hid hO
  have HB := Lib.hid hB
  have HI := Lib.hid hi
  obtain ⟨u5a,u5c,rfl⟩ := own_sh2 hO
  cases gk with
  | zero =>
   have l1 : ¬ ((i : Int) < (l.length : Int)) := by omega
   have ht : l.take i = l := List.take_of_length_le (by omega)
   rw [ht] at hO
   have hfin : OwnP (l.filter q) w (.returned (.slice u5a ((l.take i).filter q).length u5c)) wr := ⟨_,rfl,by rw [ht]; exact own_mono hO HB0.out.size,HB0.out.trans (hB.mono HB0.out.size)⟩
   have HFIN := Lib.hid hfin
   clear hi hO hB hfin ht
   go_wp2
   go_ret
   exact HFIN.out
  | succ gk =>
   have hlt : i < l.length := by omega
   obtain ⟨b,off,cp,he,hcp,hx⟩ := (HH.out.below hB).inv (by omega)
   injection he with ea _ ec
   subst ea ec
   obtain ⟨r,hr0⟩ : ∃ r,l[i] = r := ⟨_,rfl⟩
   have hri : l[i]? = some r := by rw [List.getElem?_eq_getElem hlt,hr0]
   obtain ⟨x0,x1⟩ := hx i r hri
   obtain ⟨y0,y1,y2,y3,y4⟩ := cm_results (kd,n,K,V,kb) (HK.out.below hB HK.out.lt)
   have hsn := take_filter q hri
   have hll := take_flen l i q hlt
   have HLL := Lib.hid hll
   have l0 : (0 : Int) ≤ (i : Int) := by omega
   have l1 : (i : Int) < (l.length : Int) := by omega
   obtain ⟨i1,hi1⟩ : ∃ i1,i + 1 = i1 := ⟨_,rfl⟩
   have wk : IntKind.i64.wrap ((i : Int) + 1) = (i1 : Int) := by rw [show (i : Int) + 1 = (i1 : Int) by omega]; exact IntWalk.i64_in _ (by have := HL.out; omega)
   rw [hi1] at hsn
   have HI1 := Lib.hid hi1
   obtain ⟨L,hL⟩ : ∃ L,(l.take i).filter q = L := ⟨_,rfl⟩
   rw [hL] at hsn HO HLL ⊢
   have HSN := Lib.hid hsn
   obtain ⟨r0,r1⟩ := r
   simp only at x0 x1
   clear hi hO hB hlt hx hr0 hri hi1 hsn hll hL
   cases kb with
   | false =>
    have hqr : q (r0,r1) = true := by rw [← HQ.out]; rfl
    have HQR := Lib.hid hqr
    clear hqr
    go_wp2_with fail
    go_quiet (fail)
    have hqr := HQR.out
    have HO1 := Lib.hid (show OR W0.heap.size ((wr.drewN nq).alloc (.cells #[.int .i64 r0,.int .i64 r1] 39)) (.slice u5a L.length u5c) L from World.ownsRow.alloc (own_below HO.out (belN _ _ _)) _)
    have HB1 := Lib.hid (HB.out.trans (belN W0.heap.size wr nq))
    go_wp2_with (at_builtin; refine wpList_append_lies _ rfl _ _ 30 rfl W0.heap.size 39 i31 (.agg #[.int .i64 0,.int .i64 0]) 2 16 und31 hi31 hz31 hs31 hb31 rfl (by decide) (.slice u5a L.length u5c) L.length (rcs L) rfl HO1.out ⟨wr.heap.size,0,none⟩ 1 1 (rcs [(r0,r1)]) rfl rfl ?crA1 (rcs_one _) (by decide) ?crA2 ?crA3 ?crA4 _ rfl ?_)
    all_goals first
     | exact row_two (heap_alloc_new (wr.drewN nq) _)
     | (have := HLL.out; have := HL.out; unfold maxLen; omega)
     | (have := HLL.out; have := HL.out; omega)
     | (have := HB.out.size; simp; omega)
     | skip
    intro g9 cap9 w9 hown9 hgr9 hat9 hlt9
    have hown8 : OR W0.heap.size w9 (.slice (some ⟨g9,0,none⟩) (L.length + 1) cap9) (L ++ [(r0,r1)]) := by
     unfold OR
     rw [rcs_append,List.length_append]
     exact hown9
    have hbel9 := (HB1.out.alloc HB1.out.size (.cells #[.int .i64 r0,.int .i64 r1] 39)).grown hgr9 (by have := HB.out.size; simp; omega) (fun k hk => (HO1.out.lt k hk).1)
    have HO9 := Lib.hid hown8
    have HB9 := Lib.hid hbel9
    clear hown9 hown8 hgr9 hat9 hbel9
    go_wp2
    go_roundg gk
    case measure => exact Nat.lt_succ_self _
    case rel => exact ⟨i1,rfl,by have := HI1.out; have := HI.out; omega,by rw [HSN.out,hqr]; exact HO9.out,HB9.out⟩
   | true =>
    by_cases hk : r0 = K
    ·subst hk
     have hqr : q (r0,r1) = true := by rw [← HQ.out]; simp [meantB]
     have HQR := Lib.hid hqr
     clear hqr
     go_wp2_with fail
     go_quiet (fail)
     have hqr := HQR.out
     have HO1 := Lib.hid (show OR W0.heap.size ((wr.drewN nq).alloc (.cells #[.int .i64 r0,.int .i64 r1] 39)) (.slice u5a L.length u5c) L from World.ownsRow.alloc (own_below HO.out (belN _ _ _)) _)
     have HB1 := Lib.hid (HB.out.trans (belN W0.heap.size wr nq))
     go_wp2_with (at_builtin; refine wpList_append_lies _ rfl _ _ 30 rfl W0.heap.size 39 i31 (.agg #[.int .i64 0,.int .i64 0]) 2 16 und31 hi31 hz31 hs31 hb31 rfl (by decide) (.slice u5a L.length u5c) L.length (rcs L) rfl HO1.out ⟨wr.heap.size,0,none⟩ 1 1 (rcs [(r0,r1)]) rfl rfl ?crB1 (rcs_one _) (by decide) ?crB2 ?crB3 ?crB4 _ rfl ?_)
     all_goals first
      | exact row_two (heap_alloc_new (wr.drewN nq) _)
      | (have := HLL.out; have := HL.out; unfold maxLen; omega)
      | (have := HLL.out; have := HL.out; omega)
      | (have := HB.out.size; simp; omega)
      | skip
     intro g9 cap9 w9 hown9 hgr9 hat9 hlt9
     have hown8 : OR W0.heap.size w9 (.slice (some ⟨g9,0,none⟩) (L.length + 1) cap9) (L ++ [(r0,r1)]) := by
      unfold OR
      rw [rcs_append,List.length_append]
      exact hown9
     have hbel9 := (HB1.out.alloc HB1.out.size (.cells #[.int .i64 r0,.int .i64 r1] 39)).grown hgr9 (by have := HB.out.size; simp; omega) (fun k hk => (HO1.out.lt k hk).1)
     have HO9 := Lib.hid hown8
     have HB9 := Lib.hid hbel9
     clear hown9 hown8 hgr9 hat9 hbel9
     go_wp2
     go_roundg gk
     case measure => exact Nat.lt_succ_self _
     case rel => exact ⟨i1,rfl,by have := HI1.out; have := HI.out; omega,by rw [HSN.out,hqr]; exact HO9.out,HB9.out⟩
    ·have hk1 : (r0 == K) = false := beq_eq_false_iff_ne.2 hk
     have hk2 : (r0 != K) = true := by rw [bne_iff_ne]; exact hk
     have hqr : q (r0,r1) = false := by rw [← HQ.out]; simp [meantB,hk]
     have HQR := Lib.hid hqr
     clear hqr
     go_wp2_with fail
     go_quiet (fail)
     have hqr := HQR.out
     go_wp2
     go_roundg gk
     case measure => exact Nat.lt_succ_self _
     case rel => exact ⟨i1,rfl,by have := HI1.out; have := HI.out; omega,by rw [HSN.out,hqr]; simp only [Bool.false_eq_true,if_false,List.append_nil]; exact own_below HO.out (belN _ _ nq),HB.out.trans (belN _ _ _)⟩
set_option maxHeartbeats 4000000 in
theorem rwo_any (v : Value) (l : List Rw) (kd : Int) (n : ByteArray) (K V : Int) (kb : Bool) (w : World) (h : RR w v l) (hl : l.length ≤ 1000000) :
  Calls Tryz.prog 96 #[v,.agg #[.int .i64 kd,.string n,.int .i64 K,.int .i64 V,.bool kb]] w (OwnP (l.filter (fun r => !meantB kb K r)) w) := by
 obtain ⟨i31,hi31,hz31,hs31,hb31⟩ := iRow
 have und31 := undRow
 obtain ⟨a,cap,rfl⟩ := h.form
 obtain ⟨q,hq⟩ : ∃ q : Rw → Bool,(fun r => !meantB kb K r) = q := ⟨_,rfl⟩
 rw [hq]
 have HQ := Lib.hid hq
 obtain ⟨W0,hW0⟩ : ∃ W0,w.alloc (.cells #[.int .i64 kd,.string n,.int .i64 K,.int .i64 V,.bool kb] 24) = W0 := ⟨_,rfl⟩
 have hb0 : Below w.heap.size w W0 := by rw [← hW0]; exact (Below.refl _ _).alloc (Nat.le_refl _) _
 have hk0 : Blk W0 w.heap.size 24 (cmCells (kd,n,K,V,kb)) := by rw [← hW0]; exact Blk.new _ _ _
 have HK := Lib.hid hk0
 have HB0 := Lib.hid hb0
 have HH := Lib.hid (h.below hb0)
 have HL := Lib.hid hl
 clear h hl hq hb0 hk0
 go_enter Tryz.func96,Tryz.ntmps96
 go_wp2_with fail
 clear hW0
 go_loopg [5,6] l.length (fun gk u5 u6 wx => ∃ i : Nat,u6 = .int .i64 (i : Int) ∧ i + gk = l.length ∧ OR W0.heap.size wx u5 ((l.take i).filter q) ∧ Below W0.heap.size W0 wx)
 case atStart => exact ⟨0,rfl,by omega,World.ownsRow_nil _ _ _ _,Below.refl _ _⟩
 case round =>
  obtain ⟨i,rfl,hi,hO,hB⟩ := hrel
  have HO := Lib.hid hO
  have HB := Lib.hid hB
  have HI := Lib.hid hi
  obtain ⟨u5a,u5c,rfl⟩ := own_sh2 hO
  cases gk with
  | zero =>
   have l1 : ¬ ((i : Int) < (l.length : Int)) := by omega
   have ht : l.take i = l := List.take_of_length_le (by omega)
   rw [ht] at hO
   have hfin : OwnP (l.filter q) w (.returned (.slice u5a ((l.take i).filter q).length u5c)) wr := ⟨_,rfl,by rw [ht]; exact own_mono hO HB0.out.size,HB0.out.trans (hB.mono HB0.out.size)⟩
   have HFIN := Lib.hid hfin
   clear hi hO hB hfin ht
   go_wp2
   go_ret
   exact HFIN.out
  | succ gk =>
   have hlt : i < l.length := by omega
   obtain ⟨b,off,cp,he,hcp,hx⟩ := (HH.out.below hB).inv (by omega)
   injection he with ea _ ec
   subst ea ec
   obtain ⟨r,hr0⟩ : ∃ r,l[i] = r := ⟨_,rfl⟩
   have hri : l[i]? = some r := by rw [List.getElem?_eq_getElem hlt,hr0]
   obtain ⟨x0,x1⟩ := hx i r hri
   obtain ⟨y0,y1,y2,y3,y4⟩ := cm_results (kd,n,K,V,kb) (HK.out.below hB HK.out.lt)
   have hsn := take_filter q hri
   have hll := take_flen l i q hlt
   have HLL := Lib.hid hll
   have l0 : (0 : Int) ≤ (i : Int) := by omega
   have l1 : (i : Int) < (l.length : Int) := by omega
   obtain ⟨i1,hi1⟩ : ∃ i1,i + 1 = i1 := ⟨_,rfl⟩
   have wk : IntKind.i64.wrap ((i : Int) + 1) = (i1 : Int) := by rw [show (i : Int) + 1 = (i1 : Int) by omega]; exact IntWalk.i64_in _ (by have := HL.out; omega)
   rw [hi1] at hsn
   have HI1 := Lib.hid hi1
   obtain ⟨L,hL⟩ : ∃ L,(l.take i).filter q = L := ⟨_,rfl⟩
   rw [hL] at hsn HO HLL ⊢
   have HSN := Lib.hid hsn
   obtain ⟨r0,r1⟩ := r
   simp only at x0 x1
   clear hi hO hB hlt hx hr0 hri hi1 hsn hll hL
   cases kb with
   | false =>
    have hqr : q (r0,r1) = false := by rw [← HQ.out]; rfl
    have HQR := Lib.hid hqr
    clear hqr
    go_wp2_with fail
    go_quiet (fail)
    have hqr := HQR.out
    go_wp2
    go_roundg gk
    case measure => exact Nat.lt_succ_self _
    case rel => exact ⟨i1,rfl,by have := HI1.out; have := HI.out; omega,by rw [HSN.out,hqr]; simp only [Bool.false_eq_true,if_false,List.append_nil]; exact own_below HO.out (belN _ _ nq),HB.out.trans (belN _ _ _)⟩
   | true =>
    by_cases hk : r0 = K
    ·subst hk
     have hqr : q (r0,r1) = false := by rw [← HQ.out]; simp [meantB]
     have HQR := Lib.hid hqr
     clear hqr
     go_wp2_with fail
     go_quiet (fail)
     have hqr := HQR.out
     go_wp2
     go_roundg gk
     case measure => exact Nat.lt_succ_self _
     case rel => exact ⟨i1,rfl,by have := HI1.out; have := HI.out; omega,by rw [HSN.out,hqr]; simp only [Bool.false_eq_true,if_false,List.append_nil]; exact own_below HO.out (belN _ _ nq),HB.out.trans (belN _ _ _)⟩
    ·have hk1 : (r0 == K) = false := beq_eq_false_iff_ne.2 hk
     have hk2 : (r0 != K) = true := by rw [bne_iff_ne]; exact hk
     have hqr : q (r0,r1) = true := by rw [← HQ.out]; simp [meantB,hk]
     have HQR := Lib.hid hqr
     clear hqr
     go_wp2_with fail
     go_quiet (fail)
     have hqr := HQR.out
     have HO1 := Lib.hid (show OR W0.heap.size ((wr.drewN nq).alloc (.cells #[.int .i64 r0,.int .i64 r1] 39)) (.slice u5a L.length u5c) L from World.ownsRow.alloc (own_below HO.out (belN _ _ _)) _)
     have HB1 := Lib.hid (HB.out.trans (belN W0.heap.size wr nq))
     go_wp2_with (at_builtin; refine wpList_append_lies _ rfl _ _ 30 rfl W0.heap.size 39 i31 (.agg #[.int .i64 0,.int .i64 0]) 2 16 und31 hi31 hz31 hs31 hb31 rfl (by decide) (.slice u5a L.length u5c) L.length (rcs L) rfl HO1.out ⟨wr.heap.size,0,none⟩ 1 1 (rcs [(r0,r1)]) rfl rfl ?crC1 (rcs_one _) (by decide) ?crC2 ?crC3 ?crC4 _ rfl ?_)
     all_goals first
      | exact row_two (heap_alloc_new (wr.drewN nq) _)
      | (have := HLL.out; have := HL.out; unfold maxLen; omega)
      | (have := HLL.out; have := HL.out; omega)
      | (have := HB.out.size; simp; omega)
      | skip
     intro g9 cap9 w9 hown9 hgr9 hat9 hlt9
     have hown8 : OR W0.heap.size w9 (.slice (some ⟨g9,0,none⟩) (L.length + 1) cap9) (L ++ [(r0,r1)]) := by
      unfold OR
      rw [rcs_append,List.length_append]
      exact hown9
     have hbel9 := (HB1.out.alloc HB1.out.size (.cells #[.int .i64 r0,.int .i64 r1] 39)).grown hgr9 (by have := HB.out.size; simp; omega) (fun k hk => (HO1.out.lt k hk).1)
     have HO9 := Lib.hid hown8
     have HB9 := Lib.hid hbel9
     clear hown9 hown8 hgr9 hat9 hbel9
     go_wp2
     go_roundg gk
     case measure => exact Nat.lt_succ_self _
     case rel => exact ⟨i1,rfl,by have := HI1.out; have := HI.out; omega,by rw [HSN.out,hqr]; exact HO9.out,HB9.out⟩

theorem run_append_owned_nothing {P : Program} {w : World} (base : Nat) (t ty e : TypeId) (i : TypeInfo) (size : Nat) (ht : P.underlying t = some (.slice e)) (hi : P.info? e = some i)
  (v : Value) (n : Nat) (xs : List Value) (hown : w.ownsRow base e size v n xs) (p : Option Addr) (c : Nat) : (Builtin.append_ #[t,t] ty #[v,.slice p 0 c]).run P w = .ok v w := by
 have hf : (Builtin.firstCells i.size 0 (.slice p 0 c)).run P w = .ok #[] w := by
  cases p with
  | none => exact run_firstCells_none w i.size 0 0 c
  | some ad => exact run_firstCells_some w i.size 0 ad 0 c [] (by simp) (fun j v hj => by simp at hj)
 rcases hown.2 with ⟨rfl,rfl⟩ | ⟨g,cap,cur,rfl,_,_,hnc,_⟩
 ·simp [Builtin.append_,run_underlying ht,sizeOf,typeInfo,hi,Builtin.lenOf,hf]
 ·simp [Builtin.append_,run_underlying ht,sizeOf,typeInfo,hi,Builtin.lenOf,hf,hnc,storeCells]
theorem wpList_append_nothing {P : Program} {w : World} {ops : Array Oper} {rest : List Oper} {o : Oper} {a : Act} {Q : Exit → Act → World → Prop} (hgd : o.guard = none) (s x : Operand) (t : TypeId)
  (ho : o.op = .call { callee := .builtin .append,args := #[s,x],argTypes := #[t,t] })
  (base : Nat) (e : TypeId) (i : TypeInfo) (size : Nat) (ht : P.underlying t = some (.slice e)) (hi : P.info? e = some i)
  (v : Value) (n : Nat) (xs : List Value) (hs : a.eval s = v) (hown : w.ownsRow base e size v n xs) (p : Option Addr) (c : Nat) (hx : a.eval x = .slice p 0 c)
  (h : wpList P ops Q rest (a.put o.dst v) w) : wpList P ops Q (o :: rest) a w := by
 refine wpList_plain hgd fun K hK => ?_
 have hrun := run_append_owned_nothing (P := P) (w := w) base t o.type e i size ht hi v n xs hown p c
 unfold Oper.wp
 simp [execOp,ho,resolve,invoke,builtin,hs,hx,hrun,Result.andThen]
 exact hK _ _ h
theorem OR.of {B m : Nat} {w : World} {v : Value} {A : List Rw} {X : List Value} (h : w.ownsRow B 39 2 v m X) (hm : A.length = m) (hx : rcs A = X) : OR B w v A := by
 subst hm hx; exact h
theorem RR.inv_at {w : World} {b off cap n : Nat} {l : List Rw} {i : Nat} {r : Rw} (h : RR w (.slice (some ⟨b,off,none⟩) n cap) l) (hi : l[i]? = some r) (hn : n = l.length) : w.cell? ⟨b,off + i * 2,none⟩ = some (.int .i64 r.1) ∧ w.cell? ⟨b,off + i * 2 + 1,none⟩ = some (.int .i64 r.2) := by
 subst hn
 have hl := (List.getElem?_eq_some_iff.1 hi).1
 obtain ⟨g,o,c,he,_,hx⟩ := h.inv (by omega)
 injection he with e1 _ _
 injection e1 with e1
 injection e1 with e1 e2 _
 subst e1 e2
 exact hx i r hi
theorem src_drop {w : World} {b off cap : Nat} {l : List Rw} (j : Nat) (h : RR w (.slice (some ⟨b,off,none⟩) l.length cap) l) : ∀ i u,(rcs (l.drop j))[i]? = some u → w.cell? ((⟨b,off + j * 2,none⟩ : Addr).add i) = some u := by
 intro i u hu
 obtain ⟨q,p,hq,hu2⟩ := fl_inv _ i u hu
 rw [List.getElem?_map,List.getElem?_drop] at hq
 cases hr : l[j + q]? with
 | none => rw [hr] at hq; cases hq
 | some r =>
  rw [hr] at hq
  injection hq with hq
  subst hq
  obtain ⟨h1,h2⟩ := h.inv_at hr rfl
  rw [Addr.add_lit]
  rcases hu2 with ⟨rfl,rfl⟩ | ⟨rfl,rfl⟩
  ·rw [show off + j * 2 + q * 2 = off + (j + q) * 2 by omega]; exact h1
  ·rw [show off + j * 2 + (q * 2 + 1) = off + (j + q) * 2 + 1 by omega]; exact h2
theorem put_is {l : List Rw} {k v : Int} {i j : Nat} (hi : i ≤ l.length) (h1 : ∀ t x,t < i → l[t]? = some x → ltK k x = true) (h2 : ∀ x,l[i]? = some x → ltK k x = false)
  (hj : j = if (match l[i]? with | some r => r.1 == k | none => false) = true then i + 1 else i) : l.take i ++ [(k,v)] ++ l.drop j = putD l k v := by
 have e : lowR l k = i := low_uniq _ l i hi h1 h2
 unfold putD hasR
 rw [e,hj,List.append_assoc]; rfl
set_option maxHeartbeats 8000000 in
theorem rput_any (v : Value) (l : List Rw) (k z : Int) (w : World) (h : RR w v l) (hl : l.length ≤ 1000000) :
  Calls Tryz.prog 95 #[v,.agg #[.int .i64 k,.int .i64 z]] w (OwnP (putD l k z) w) := by
 obtain ⟨i31,hi31,hz31,hs31,hb31⟩ := iRow
 have und31 := undRow
 obtain ⟨a,cap,rfl⟩ := h.form
 obtain ⟨W0,hW0⟩ : ∃ W0,w.alloc (.cells #[.int .i64 k,.int .i64 z] 39) = W0 := ⟨_,rfl⟩
 have hb0 : Below w.heap.size w W0 := by rw [← hW0]; exact (Below.refl _ _).alloc (Nat.le_refl _) _
 have hk0 : Blk W0 w.heap.size 39 #[.int .i64 k,.int .i64 z] := by rw [← hW0]; exact Blk.new _ _ _
 have HK := Lib.hid hk0
 have HB0 := Lib.hid hb0
 have HH := Lib.hid (h.below hb0)
 have HL := Lib.hid hl
 clear h hl hb0 hk0
 go_enter Tryz.func95,Tryz.ntmps95
 go_wp2_with fail
 clear hW0
 go_loopg [5,6] l.length (fun gk u5 u6 wx => ∃ i : Nat,u6 = .int .i64 (i : Int) ∧ i + gk = l.length ∧ wx.ownsRow W0.heap.size 39 2 u5 i (rcs (l.take i)) ∧ Below W0.heap.size W0 wx ∧ ∀ t x,t < i → l[t]? = some x → ltK k x = true)
 case atStart => exact ⟨0,rfl,by omega,World.ownsRow_nil _ _ _ _,Below.refl _ _,fun t x h => by omega⟩
 case round =>
  obtain ⟨i,rfl,hi,hO,hB,hlow⟩ := hrel
  have HO := Lib.hid hO
  have HB := Lib.hid hB
  have HI := Lib.hid hi
  have HLW := Lib.hid hlow
  obtain ⟨u5a,u5c,rfl⟩ := own_sh2 hO
  have hkr := HK.out.below hB HK.out.lt
  have y0 : wr.cell? ⟨w.heap.size,0,none⟩ = some (.int .i64 k) := hkr.cell 0
  have y1 : wr.cell? ⟨w.heap.size,1,none⟩ = some (.int .i64 z) := hkr.cell 1
  have hHr := HH.out.below hB
  have HHR := Lib.hid hHr
  cases gk with
  | zero =>
   have hil : i = l.length := by omega
   have l1 : ¬ ((i : Int) < (l.length : Int)) := by omega
   have l1d : decide ((i : Int) < (l.length : Int)) = false := decide_eq_false l1
   have hpd := put_is (l := l) (k := k) (v := z) (i := i) (j := i) (by omega) hlow (fun x hx => by rw [hil,List.getElem?_eq_none (Nat.le_refl _)] at hx; cases hx) (by rw [hil,List.getElem?_eq_none (Nat.le_refl _)]; rfl) 
   have HPD := Lib.hid hpd
   subst hil
   clear hi hO hB hlow hkr hHr hpd
   have HFL := Lib.hid (show (putD l k z).length = l.length + 1 by rw [← HPD.out]; simp)
   have HFX := Lib.hid (show rcs (putD l k z) = rcs l ++ rcs [(k,z)] by rw [← HPD.out,List.drop_of_length_le (Nat.le_refl _),List.append_nil,rcs_append,List.take_length])
   go_wp2_with fail
   go_quiet (fail)
   go_wp2_with (at_builtin; refine wpList_append_lies _ rfl _ _ 30 rfl W0.heap.size 39 i31 (.agg #[.int .i64 0,.int .i64 0]) 2 16 und31 hi31 hz31 hs31 hb31 rfl (by decide) (.slice u5a l.length u5c) l.length (rcs (l.take l.length)) rfl ((own_below HO.out (belN _ _ nq)).alloc _) ⟨wr.heap.size,0,none⟩ 1 1 (rcs [(k,z)]) rfl rfl ?e01 (rcs_one _) (by decide) ?e02 ?e03 ?e04 _ rfl ?_)
   all_goals first
    | exact row_two (heap_alloc_new (wr.drewN nq) _)
    | (have := HI.out; have := HL.out; unfold maxLen; omega)
    | (have := HI.out; have := HL.out; omega)
    | (have := HB.out.size; simp; omega)
    | skip
   intro g9 cap9 w9 hown9 hgr9 hat9 hlt9
   have hbel9 := ((HB.out.trans (belN W0.heap.size wr nq)).alloc (HB.out.trans (belN W0.heap.size wr nq)).size (.cells #[.int .i64 k,.int .i64 z] 39)).grown hgr9 (by have := HB.out.size; simp; omega) (fun k hk => (HO.out.lt k hk).1)
   have HO9 := Lib.hid hown9
   have HB9 := Lib.hid hbel9
   have hk9 := HK.out.below hbel9 HK.out.lt
   have yy0 : w9.cell? ⟨w.heap.size,0,none⟩ = some (.int .i64 k) := hk9.cell 0
   clear hown9 hgr9 hat9 hbel9 hk9
   go_wp2_with fail
   go_quiet (fail)
   go_wp2_with (at_builtin; refine wpList_append_nothing rfl _ _ 30 rfl W0.heap.size 39 i31 2 und31 hi31 _ _ _ rfl (own_below HO9.out (belN _ _ nq)) _ _ rfl ?_)
   all_goals
    go_wp2
    go_ret
    exact ⟨_,rfl,own_mono (OR.of (own_below HO9.out (belN _ _ nq)) HFL.out HFX.out) HB0.out.size,(HB0.out.trans (HB9.out.mono HB0.out.size)).trans (belN _ _ _)⟩
  | succ gk =>
   have hlt : i < l.length := by omega
   obtain ⟨b,off,cp,he,hcp,hx⟩ := hHr.inv (by omega)
   injection he with ea _ ec
   subst ea ec
   obtain ⟨r,hr0⟩ : ∃ r,l[i] = r := ⟨_,rfl⟩
   have hri : l[i]? = some r := by rw [List.getElem?_eq_getElem hlt,hr0]
   obtain ⟨x0,x1⟩ := hx i r hri
   have l0 : (0 : Int) ≤ (i : Int) := by omega
   have l1 : (i : Int) < (l.length : Int) := by omega
   have l1d : decide ((i : Int) < (l.length : Int)) = true := decide_eq_true l1
   obtain ⟨i1,hi1⟩ : ∃ i1,i + 1 = i1 := ⟨_,rfl⟩
   have wk : IntKind.i64.wrap ((i : Int) + 1) = (i1 : Int) := by rw [show (i : Int) + 1 = (i1 : Int) by omega]; exact IntWalk.i64_in _ (by have := HL.out; omega)
   have HI1 := Lib.hid hi1
   have HLT := Lib.hid hlt
   have HRI := Lib.hid hri
   have HCP := Lib.hid hcp
   by_cases hk : r.1 < k
   ·have HTK := Lib.hid (show rcs (l.take i1) = rcs (l.take i) ++ rcs [r] by rw [← hi1,List.take_add_one,hri,Option.toList_some,rcs_append])
    have HLW1 := Lib.hid (show ∀ t x,t < i1 → l[t]? = some x → ltK k x = true from fun t x ht hx => by
     by_cases h : t < i
     ·exact hlow t x h hx
     ·have : t = i := by omega
      subst this
      rw [hri] at hx; injection hx with hx; subst hx
      exact decide_eq_true hk)
    obtain ⟨r0,r1⟩ := r
    simp only at x0 x1 hk
    clear hi hO hB hlow hkr hHr hx hr0 hri hi1 hlt hcp
    go_wp2_with fail
    go_quiet (fail)
    go_wp2_with (at_builtin; refine wpList_append_lies _ rfl _ _ 30 rfl W0.heap.size 39 i31 (.agg #[.int .i64 0,.int .i64 0]) 2 16 und31 hi31 hz31 hs31 hb31 rfl (by decide) (.slice u5a i u5c) i (rcs (l.take i)) rfl ((own_below HO.out (belN _ _ nq)).alloc _) ⟨wr.heap.size,0,none⟩ 1 1 (rcs [(r0,r1)]) rfl rfl ?a1 (rcs_one _) (by decide) ?a2 ?a3 ?a4 _ rfl ?_)
    all_goals first
     | exact row_two (heap_alloc_new (wr.drewN nq) _)
     | (have := HLT.out; have := HL.out; unfold maxLen; omega)
     | (have := HLT.out; have := HL.out; omega)
     | (have := HB.out.size; simp; omega)
     | skip
    intro g9 cap9 w9 hown9 hgr9 hat9 hlt9
    have hbel9 := ((HB.out.trans (belN W0.heap.size wr nq)).alloc (HB.out.trans (belN W0.heap.size wr nq)).size (.cells #[.int .i64 r0,.int .i64 r1] 39)).grown hgr9 (by have := HB.out.size; simp; omega) (fun k hk => (HO.out.lt k hk).1)
    have HO9 := Lib.hid hown9
    have HB9 := Lib.hid hbel9
    clear hown9 hgr9 hat9 hbel9
    go_wp2
    go_roundg gk
    case measure => exact Nat.lt_succ_self _
    case rel => exact ⟨i1,rfl,by have := HI1.out; have := HI.out; omega,by rw [HTK.out,← HI1.out]; exact HO9.out,HB9.out,HLW1.out⟩
   ·have hnl : ltK k r = false := decide_eq_false hk
    by_cases hke : r.1 = k
    ·have hpd := put_is (l := l) (k := k) (v := z) (i := i) (j := i1) (by omega) hlow (fun x hx => by rw [hri] at hx; injection hx with hx; subst hx; exact hnl) (by rw [hri,← hi1]; simp [hke])
     have HPD := Lib.hid hpd
     have HHX := Lib.hid hx
     obtain ⟨r0,r1⟩ := r
     simp only at x0 x1 hk hke
     subst hke
     clear hi hO hB hlow hkr hHr hx hr0 hri hlt hcp hpd hnl
     by_cases hend : i1 = l.length
     ·have HFL := Lib.hid (show (putD l r0 z).length = l.length by rw [← HPD.out]; have := HLT.out; simp; omega)
      have HFX := Lib.hid (show rcs (putD l r0 z) = rcs (l.take i) ++ rcs [(r0,z)] by rw [← HPD.out,List.drop_of_length_le (by omega : l.length ≤ i1),List.append_nil,rcs_append])
      go_wp2_with fail
      go_quiet (fail)
      go_wp2_with (at_builtin; refine wpList_append_lies _ rfl _ _ 30 rfl W0.heap.size 39 i31 (.agg #[.int .i64 0,.int .i64 0]) 2 16 und31 hi31 hz31 hs31 hb31 rfl (by decide) (.slice u5a i u5c) i (rcs (l.take i)) rfl ((own_below HO.out (belN _ _ nq)).alloc _) ⟨wr.heap.size,0,none⟩ 1 1 (rcs [(r0,z)]) rfl rfl ?e11 (rcs_one _) (by decide) ?e12 ?e13 ?e14 _ rfl ?_)
      all_goals first
       | exact row_two (heap_alloc_new (wr.drewN nq) _)
       | (have := HI.out; have := HL.out; unfold maxLen; omega)
       | (have := HI.out; have := HL.out; omega)
       | (have := HB.out.size; simp; omega)
       | skip
      intro g9 cap9 w9 hown9 hgr9 hat9 hlt9
      have hbel9 := ((HB.out.trans (belN W0.heap.size wr nq)).alloc (HB.out.trans (belN W0.heap.size wr nq)).size (.cells #[.int .i64 r0,.int .i64 z] 39)).grown hgr9 (by have := HB.out.size; simp; omega) (fun k hk => (HO.out.lt k hk).1)
      have HO9 := Lib.hid hown9
      have HB9 := Lib.hid hbel9
      have hk9 := HK.out.below hbel9 HK.out.lt
      have yy0 : w9.cell? ⟨w.heap.size,0,none⟩ = some (.int .i64 r0) := hk9.cell 0
      clear hown9 hgr9 hat9 hbel9 hk9
      have x9 : w9.cell? ⟨b,off + i * 2,none⟩ = some (.int .i64 r0) := ((HH.out.below HB9.out).inv_at HRI.out rfl).1
      go_wp2_with fail
      go_quiet (fail)
      go_wp2_with (at_builtin; refine wpList_append_nothing rfl _ _ 30 rfl W0.heap.size 39 i31 2 und31 hi31 _ _ _ rfl (own_below HO9.out (belN _ _ nq)) _ _ rfl ?_)
      all_goals
       go_wp2
       go_ret
       exact ⟨_,rfl,own_mono (OR.of (own_below HO9.out (belN _ _ nq)) HFL.out HFX.out) HB0.out.size,(HB0.out.trans (HB9.out.mono HB0.out.size)).trans (belN _ _ _)⟩
     ·have HJL := Lib.hid (show i1 < l.length by have := HLT.out; omega)
      have HFL := Lib.hid (show (putD l r0 z).length = i1 + (l.length - i1) by rw [← HPD.out]; have := HLT.out; have := HI1.out; simp; omega)
      have HFX := Lib.hid (show rcs (putD l r0 z) = rcs (l.take i) ++ (rcs [(r0,z)] ++ rcs (l.drop i1)) by rw [← HPD.out,rcs_append,rcs_append,List.append_assoc])
      have ln1 : (i1 : Int) ≤ (l.length : Int) := by omega
      have ln2 : ¬ (cap = i1) := by have := HLT.out; have := HCP.out; omega
      have ln3 : ¬ (cap - i1 = 0) := by have := HLT.out; have := HCP.out; omega
      have ln4 : (0 : Int) ≤ (i1 : Int) := by omega
      clear hend
      go_wp2_with fail
      go_quiet (fail)
      go_wp2_with (at_builtin; refine wpList_append_lies _ rfl _ _ 30 rfl W0.heap.size 39 i31 (.agg #[.int .i64 0,.int .i64 0]) 2 16 und31 hi31 hz31 hs31 hb31 rfl (by decide) (.slice u5a i u5c) i (rcs (l.take i)) rfl ((own_below HO.out (belN _ _ nq)).alloc _) ⟨wr.heap.size,0,none⟩ 1 1 (rcs [(r0,z)]) rfl rfl ?e1n1 (rcs_one _) (by decide) ?e1n2 ?e1n3 ?e1n4 _ rfl ?_)
      all_goals first
       | exact row_two (heap_alloc_new (wr.drewN nq) _)
       | (have := HI.out; have := HL.out; unfold maxLen; omega)
       | (have := HI.out; have := HL.out; omega)
       | (have := HB.out.size; simp; omega)
       | skip
      intro g9 cap9 w9 hown9 hgr9 hat9 hlt9
      have hbel9 := ((HB.out.trans (belN W0.heap.size wr nq)).alloc (HB.out.trans (belN W0.heap.size wr nq)).size (.cells #[.int .i64 r0,.int .i64 z] 39)).grown hgr9 (by have := HB.out.size; simp; omega) (fun k hk => (HO.out.lt k hk).1)
      have HO9 := Lib.hid hown9
      have HB9 := Lib.hid hbel9
      have hk9 := HK.out.below hbel9 HK.out.lt
      have yy0 : w9.cell? ⟨w.heap.size,0,none⟩ = some (.int .i64 r0) := hk9.cell 0
      clear hown9 hgr9 hat9 hbel9 hk9
      have x9 : w9.cell? ⟨b,off + i * 2,none⟩ = some (.int .i64 r0) := ((HH.out.below HB9.out).inv_at HRI.out rfl).1
      go_wp2_with fail
      go_quiet (fail)
      have hw9 : Below W0.heap.size W0 (w9.drewN nq) := HB9.out.trans (belN _ _ _)
      have HSD := Lib.hid (src_drop i1 (HH.out.below hw9))
      clear hw9
      go_wp2_with (at_builtin; refine wpList_append_lies _ rfl _ _ 30 rfl W0.heap.size 39 i31 (.agg #[.int .i64 0,.int .i64 0]) 2 16 und31 hi31 hz31 hs31 hb31 rfl (by decide) _ _ _ rfl (own_below HO9.out (belN _ _ nq)) ⟨b,off + i1 * 2,none⟩ (l.length - i1) (cap - i1) (rcs (l.drop i1)) rfl ?e1n5 HSD.out (rcs_one _) ?e1n6 ?e1n7 ?e1n8 ?e1n9 _ rfl ?_)
      all_goals first
       | (rw [rcs_len,List.length_drop]; done)
       | (have := HJL.out; omega)
       | (have := HJL.out; have := HL.out; have := HI.out; unfold maxLen; omega)
       | (have := HJL.out; have := HL.out; have := HI.out; omega)
       | (have := HB9.out.size; simp; omega)
       | skip
      intro g8 cap8 w8 hown8 hgr8 hat8 hlt8
      have hbel8 := (HB9.out.trans (belN W0.heap.size w9 nq)).grown hgr8 (by have := HB9.out.size; simp; omega) (fun k hk => (HO9.out.lt k hk).1)
      have HO8 := Lib.hid hown8
      have HB8 := Lib.hid hbel8
      clear hown8 hgr8 hat8 hbel8
      go_wp2
      go_ret
      exact ⟨_,rfl,own_mono (OR.of HO8.out HFL.out HFX.out) HB0.out.size,HB0.out.trans (HB8.out.mono HB0.out.size)⟩

    ·have hpd := put_is (l := l) (k := k) (v := z) (i := i) (j := i) (by omega) hlow (fun x hx => by rw [hri] at hx; injection hx with hx; subst hx; exact hnl) (by rw [hri]; simp [hke])
     have HPD := Lib.hid hpd
     have HHX := Lib.hid hx
     obtain ⟨r0,r1⟩ := r
     simp only at x0 x1 hk hke
     have hke2 : (r0 == k) = false := beq_eq_false_iff_ne.2 hke
     clear hi hO hB hlow hkr hHr hx hr0 hri hlt hcp hpd hnl
     have HJL := HLT
     have HFL := Lib.hid (show (putD l k z).length = i1 + (l.length - i) by rw [← HPD.out]; have := HLT.out; have := HI1.out; simp; omega)
     have HFX := Lib.hid (show rcs (putD l k z) = rcs (l.take i) ++ (rcs [(k,z)] ++ rcs (l.drop i)) by rw [← HPD.out,rcs_append,rcs_append,List.append_assoc])
     have ln1 : (i : Int) ≤ (l.length : Int) := by omega
     have ln2 : ¬ (cap = i) := by have := HLT.out; have := HCP.out; omega
     have ln3 : ¬ (cap - i = 0) := by have := HLT.out; have := HCP.out; omega
     go_wp2_with fail
     go_quiet (fail)
     go_wp2_with (at_builtin; refine wpList_append_lies _ rfl _ _ 30 rfl W0.heap.size 39 i31 (.agg #[.int .i64 0,.int .i64 0]) 2 16 und31 hi31 hz31 hs31 hb31 rfl (by decide) (.slice u5a i u5c) i (rcs (l.take i)) rfl ((own_below HO.out (belN _ _ nq)).alloc _) ⟨wr.heap.size,0,none⟩ 1 1 (rcs [(k,z)]) rfl rfl ?e21 (rcs_one _) (by decide) ?e22 ?e23 ?e24 _ rfl ?_)
     all_goals first
      | exact row_two (heap_alloc_new (wr.drewN nq) _)
      | (have := HI.out; have := HL.out; unfold maxLen; omega)
      | (have := HI.out; have := HL.out; omega)
      | (have := HB.out.size; simp; omega)
      | skip
     intro g9 cap9 w9 hown9 hgr9 hat9 hlt9
     have hbel9 := ((HB.out.trans (belN W0.heap.size wr nq)).alloc (HB.out.trans (belN W0.heap.size wr nq)).size (.cells #[.int .i64 k,.int .i64 z] 39)).grown hgr9 (by have := HB.out.size; simp; omega) (fun k hk => (HO.out.lt k hk).1)
     have HO9 := Lib.hid hown9
     have HB9 := Lib.hid hbel9
     have hk9 := HK.out.below hbel9 HK.out.lt
     have yy0 : w9.cell? ⟨w.heap.size,0,none⟩ = some (.int .i64 k) := hk9.cell 0
     clear hown9 hgr9 hat9 hbel9 hk9
     have x9 : w9.cell? ⟨b,off + i * 2,none⟩ = some (.int .i64 r0) := ((HH.out.below HB9.out).inv_at HRI.out rfl).1
     go_wp2_with fail
     go_quiet (fail)
     have hw9 : Below W0.heap.size W0 (w9.drewN nq) := HB9.out.trans (belN _ _ _)
     have HSD := Lib.hid (src_drop i (HH.out.below hw9))
     clear hw9
     go_wp2_with (at_builtin; refine wpList_append_lies _ rfl _ _ 30 rfl W0.heap.size 39 i31 (.agg #[.int .i64 0,.int .i64 0]) 2 16 und31 hi31 hz31 hs31 hb31 rfl (by decide) _ _ _ rfl (own_below HO9.out (belN _ _ nq)) ⟨b,off + i * 2,none⟩ (l.length - i) (cap - i) (rcs (l.drop i)) rfl ?e25 HSD.out (rcs_one _) ?e26 ?e27 ?e28 ?e29 _ rfl ?_)
     all_goals first
      | (rw [rcs_len,List.length_drop]; done)
      | (have := HJL.out; omega)
      | (have := HJL.out; have := HL.out; have := HI.out; unfold maxLen; omega)
      | (have := HJL.out; have := HL.out; have := HI.out; omega)
      | (have := HB9.out.size; simp; omega)
      | skip
     intro g8 cap8 w8 hown8 hgr8 hat8 hlt8
     have hbel8 := (HB9.out.trans (belN W0.heap.size w9 nq)).grown hgr8 (by have := HB9.out.size; simp; omega) (fun k hk => (HO9.out.lt k hk).1)
     have HO8 := Lib.hid hown8
     have HB8 := Lib.hid hbel8
     clear hown8 hgr8 hat8 hbel8
     go_wp2
     go_ret
     exact ⟨_,rfl,own_mono (OR.of HO8.out HFL.out HFX.out) HB0.out.size,HB0.out.trans (HB8.out.mono HB0.out.size)⟩

def ChgQ (v : Value) (l : List Rw) (D : List Rw × Int) (w : World) (e : Ending) (w' : World) : Prop := ∃ u,e = .returned (.tuple #[u,.int .i64 D.2]) ∧ (OR w.heap.size w' u D.1 ∨ (u = v ∧ D.1 = l)) ∧ Below w.heap.size w w'
theorem rget_key (v : Value) (l : List Rw) (K : Int) (G : List Rw) (hG : getR true K l = G) (w : World) (h : RR w v l) (hl : l.length ≤ 1000000) :
  Calls Tryz.prog 56 #[v,.agg #[.int .i64 0,.string ⟨#[]⟩,.int .i64 K,.int .i64 0,.bool true]] w (OwnP G w) := by
 subst hG
 exact rget_any v l 0 ⟨#[]⟩ K 0 true w h hl
theorem rput_to (v : Value) (l : List Rw) (k z : Int) (G : List Rw) (hG : putD l k z = G) (w : World) (h : RR w v l) (hl : l.length ≤ 1000000) :
  Calls Tryz.prog 95 #[v,.agg #[.int .i64 k,.int .i64 z]] w (OwnP G w) := by
 subst hG
 exact rput_any v l k z w h hl
theorem rwo_to (v : Value) (l : List Rw) (kd : Int) (n : ByteArray) (K V : Int) (kb : Bool) (G : List Rw) (hG : delR kb K l = G) (w : World) (h : RR w v l) (hl : l.length ≤ 1000000) :
  Calls Tryz.prog 96 #[v,.agg #[.int .i64 kd,.string n,.int .i64 K,.int .i64 V,.bool kb]] w (OwnP G w) := by
 subst hG
 exact rwo_any v l kd n K V kb w h hl
set_option maxHeartbeats 2000000 in
theorem rch_put (v : Value) (l : List Rw) (n : ByteArray) (K V : Int) (kb : Bool) (w : World) (h : RR w v l) (hl : l.length ≤ 1000000) :
  Calls Tryz.prog 57 #[v,.agg #[.int .i64 2,.string n,.int .i64 K,.int .i64 V,.bool kb]] w (ChgQ v l (chgD 2 K V kb l) w) := by
 obtain ⟨D,hD⟩ : ∃ D,chgD 2 K V kb l = D := ⟨_,rfl⟩
 rw [hD]
 have HD := Lib.hid hD
 clear hD
 have hC : chgD 2 K V kb l = if getR true K l = [] ∧ 64 ≤ l.length then (l,11) else (putD l K V,0) := if_pos rfl
 have HC := Lib.hid hC
 clear hC
 obtain ⟨W0,hW0⟩ : ∃ W0,w.alloc (.cells #[.int .i64 2,.string n,.int .i64 K,.int .i64 V,.bool kb] 24) = W0 := ⟨_,rfl⟩
 have hb0 : Below w.heap.size w W0 := by rw [← hW0]; exact (Below.refl _ _).alloc (Nat.le_refl _) _
 have hk0 : Blk W0 w.heap.size 24 (cmCells (2,n,K,V,kb)) := by rw [← hW0]; exact Blk.new _ _ _
 have HB0 := Lib.hid hb0
 have HH := Lib.hid (h.below hb0)
 obtain ⟨G,hG⟩ : ∃ G,getR true K l = G := ⟨_,rfl⟩
 have HGE : Hid (getR true K l = G) := Lib.hid hG
 have HGT := Lib.hid (fun v W hW => rget_key v l K G hG W hW hl)
 obtain ⟨a,cap,rfl⟩ := h.form
 obtain ⟨y0,y1,y2,y3,y4⟩ := cm_results _ hk0
 have HK := Lib.hid hk0
 have HL := Lib.hid hl
 clear h hl hb0 hk0 hG
 go_enter Tryz.func57,Tryz.ntmps57
 go_wp2_with fail
 clear hW0
 refine (HGT.out _ _ HH.out).mono ?_
 rintro e w2 ⟨vg,rfl,hO,hb2⟩
 have HB2 := Lib.hid (HB0.out.trans (hb2.mono HB0.out.size))
 have HH2 := Lib.hid (HH.out.below hb2)
 have HO2 := Lib.hid hO
 have HRG := Lib.hid hO.rr
 clear y0 y1 y2 y3 y4
 obtain ⟨y0,y1,y2,y3,y4⟩ := cm_results (2,n,K,V,kb) (HK.out.below hb2 HK.out.lt)
 have HK2 := Lib.hid (HK.out.below hb2 HK.out.lt)
 obtain ⟨ga,gc,rfl⟩ := own_sh2 hO
 clear hO hb2
 cases hg : G with
 | nil =>
  subst hg
  by_cases h64 : 64 ≤ l.length
  ·have l64 : (64 : Int) ≤ (l.length : Int) := by omega
   have HDV := Lib.hid (show D = (l,11) by rw [← HD.out,HC.out]; exact if_pos ⟨HGE.out,h64⟩)
   clear h64
   go_wp2
   go_ret2
   rw [HDV.out]
   exact ⟨_,rfl,.inr ⟨rfl,rfl⟩,HB2.out⟩
  ·have l64 : ¬ ((64 : Int) ≤ (l.length : Int)) := by omega
   have HDV := Lib.hid (show D = (putD l K V,0) by rw [← HD.out,HC.out]; exact if_neg (fun h => h64 h.2))
   clear h64
   go_wp2_with fail
   refine (rput_to _ l K V _ rfl _ HH2.out HL.out).mono ?_
   rintro e w3 ⟨vp,rfl,hO3,hb3⟩
   have HB3 := Lib.hid (HB2.out.trans (hb3.mono HB2.out.size))
   have HO3 := Lib.hid (own_mono hO3 HB2.out.size)
   clear hO3 hb3
   go_wp2
   go_ret2
   rw [HDV.out]
   exact ⟨_,rfl,.inl HO3.out,HB3.out⟩
 | cons r0 rs0 =>
  have ln : ¬ ((G.length : Int) = 0) := by rw [hg]; simp; omega
  have ln2 : ¬ (G.length = 0) := by rw [hg]; simp
  have HDV := Lib.hid (show D = (putD l K V,0) by rw [← HD.out,HC.out]; exact if_neg (fun h => by rw [HGE.out,hg] at h; cases h.1))
  clear hg
  go_wp2_with fail
  refine (rput_to _ l K V _ rfl _ HH2.out HL.out).mono ?_
  rintro e w3 ⟨vp,rfl,hO3,hb3⟩
  have HB3 := Lib.hid (HB2.out.trans (hb3.mono HB2.out.size))
  have HO3 := Lib.hid (own_mono hO3 HB2.out.size)
  clear hO3 hb3
  go_wp2
  go_ret2
  rw [HDV.out]
  exact ⟨_,rfl,.inl HO3.out,HB3.out⟩
set_option maxHeartbeats 2000000 in
theorem rch_add (v : Value) (l : List Rw) (n : ByteArray) (K V : Int) (kb : Bool) (w : World) (h : RR w v l) (hl : l.length ≤ 1000000) (hv : ∀ r ∈ l,inI r.2) :
  Calls Tryz.prog 57 #[v,.agg #[.int .i64 3,.string n,.int .i64 K,.int .i64 V,.bool kb]] w (ChgQ v l (chgD 3 K V kb l) w) := by
 obtain ⟨D,hD⟩ : ∃ D,chgD 3 K V kb l = D := ⟨_,rfl⟩
 rw [hD]
 have HD := Lib.hid hD
 clear hD
 have hC : chgD 3 K V kb l = (match getR true K l with | [] => (l,0) | r :: _ => if 999999 ≤ r.2 then (l,2) else (putD l K (r.2 + 1),0)) := by unfold chgD; rw [if_neg (by decide),if_pos rfl]; all_goals rfl
 have HC := Lib.hid hC
 have HV := Lib.hid hv
 clear hv hC
 obtain ⟨W0,hW0⟩ : ∃ W0,w.alloc (.cells #[.int .i64 3,.string n,.int .i64 K,.int .i64 V,.bool kb] 24) = W0 := ⟨_,rfl⟩
 have hb0 : Below w.heap.size w W0 := by rw [← hW0]; exact (Below.refl _ _).alloc (Nat.le_refl _) _
 have hk0 : Blk W0 w.heap.size 24 (cmCells (3,n,K,V,kb)) := by rw [← hW0]; exact Blk.new _ _ _
 have HB0 := Lib.hid hb0
 have HH := Lib.hid (h.below hb0)
 obtain ⟨G,hG⟩ : ∃ G,getR true K l = G := ⟨_,rfl⟩
 have HGE : Hid (getR true K l = G) := Lib.hid hG
 have HGT := Lib.hid (fun v W hW => rget_key v l K G hG W hW hl)
 obtain ⟨a,cap,rfl⟩ := h.form
 obtain ⟨y0,y1,y2,y3,y4⟩ := cm_results _ hk0
 have HK := Lib.hid hk0
 have HL := Lib.hid hl
 clear h hl hb0 hk0 hG
 go_enter Tryz.func57,Tryz.ntmps57
 go_wp2_with fail
 clear hW0
 refine (HGT.out _ _ HH.out).mono ?_
 rintro e w2 ⟨vg,rfl,hO,hb2⟩
 have HB2 := Lib.hid (HB0.out.trans (hb2.mono HB0.out.size))
 have HH2 := Lib.hid (HH.out.below hb2)
 have HO2 := Lib.hid hO
 have HRG := Lib.hid hO.rr
 clear y0 y1 y2 y3 y4
 obtain ⟨y0,y1,y2,y3,y4⟩ := cm_results (3,n,K,V,kb) (HK.out.below hb2 HK.out.lt)
 have HK2 := Lib.hid (HK.out.below hb2 HK.out.lt)
 obtain ⟨ga,gc,rfl⟩ := own_sh2 hO
 clear hO hb2
 cases hg : G with
 | nil =>
  subst hg
  have HDV := Lib.hid (show D = (l,0) by rw [← HD.out,HC.out,HGE.out])
  go_wp2
  go_ret2
  rw [HDV.out]
  exact ⟨_,rfl,.inr ⟨rfl,rfl⟩,HB2.out⟩
 | cons r0 rs0 =>
  have ln : ¬ ((G.length : Int) = 0) := by rw [hg]; simp; omega
  have ln2 : ¬ (G.length = 0) := by rw [hg]; simp
  have hmem : r0 ∈ l := (List.mem_filter.1 (by show r0 ∈ getR true K l; rw [HGE.out,hg]; exact List.mem_cons_self ..)).1
  have hin := HV.out r0 hmem
  have hg0 : G[0]? = some r0 := by rw [hg]; rfl
  have hrr := HRG.out
  obtain ⟨b,off,cp,he,hcp,hx⟩ := hrr.inv (by rw [hg]; exact Nat.succ_pos _)
  injection he with ea _ ec
  subst ea ec
  obtain ⟨x0,x1⟩ := hx 0 r0 hg0
  rw [Nat.zero_mul,Nat.add_zero] at x0 x1
  have lp : (0 : Int) < (G.length : Int) := by rw [hg]; simp
  obtain ⟨k0,k1⟩ := r0
  simp only at x0 x1 hin
  unfold inI at hin
  have wa : IntKind.i64.wrap (k1 + 1) = k1 + 1 := IntWalk.i64_in _ (by omega)
  by_cases h9 : 999999 ≤ k1
  ·have HDV := Lib.hid (show D = (l,2) by rw [← HD.out,HC.out,HGE.out,hg]; exact if_pos h9)
   clear hmem hin hg hg0 hrr hcp hx
   go_wp2
   go_ret2
   rw [HDV.out]
   exact ⟨_,rfl,.inr ⟨rfl,rfl⟩,HB2.out⟩
  ·have HDV := Lib.hid (show D = (putD l K (k1 + 1),0) by rw [← HD.out,HC.out,HGE.out,hg]; exact if_neg h9)
   have HX := Lib.hid (World.block_lt_of_cell? _ _ x1)
   have HX1 := Lib.hid x1
   clear hmem hin hg hg0 hrr hcp hx
   go_wp2_with fail
   refine wp_region_held_drew (S := (fun w' => Below w2.heap.size w2 w')) (by kernel_rfl) ?_ (fun hS => ?_)
   ·exact (Below.refl _ _).drew
   try dsimp only at hS
   refine tkY 0 ?_ rfl hS ?_ ?_;rotate_left
   ·intro wz hSz;have x1z := bcl hSz HX.out HX1.out;obtain ⟨y0,y1,y2,y3,y4⟩ := cm_results (3,n,K,V,kb) (HK2.out.below hSz (Blk.lt HK2.out));go_simp;all_goals with_reducible rfl
   (try simp only [Act.put,pu]);refine tkY 1 ?_ rfl hS ?_ ?_;rotate_left
   ·intro wz hSz;have x1z := bcl hSz HX.out HX1.out;obtain ⟨y0,y1,y2,y3,y4⟩ := cm_results (3,n,K,V,kb) (HK2.out.below hSz (Blk.lt HK2.out));go_simp;all_goals with_reducible rfl
   (try simp only [Act.put,pu]);refine tkY 2 ?_ rfl hS ?_ ?_;rotate_left
   ·intro wz hSz;have x1z := bcl hSz HX.out HX1.out;obtain ⟨y0,y1,y2,y3,y4⟩ := cm_results (3,n,K,V,kb) (HK2.out.below hSz (Blk.lt HK2.out));go_simp;all_goals with_reducible rfl
   (try simp only [Act.put,pu]);refine tkY 3 ?_ rfl hS ?_ ?_;rotate_left
   ·intro wz hSz;have x1z := bcl hSz HX.out HX1.out;obtain ⟨y0,y1,y2,y3,y4⟩ := cm_results (3,n,K,V,kb) (HK2.out.below hSz (Blk.lt HK2.out));go_simp;all_goals with_reducible rfl
   (try simp only [Act.put,pu]);refine tkY 4 ?_ rfl hS ?_ ?_;rotate_left
   ·intro wz hSz;have x1z := bcl hSz HX.out HX1.out;obtain ⟨y0,y1,y2,y3,y4⟩ := cm_results (3,n,K,V,kb) (HK2.out.below hSz (Blk.lt HK2.out));go_simp;all_goals with_reducible rfl
   (try simp only [Act.put,pu]);refine tkY 5 ?_ rfl hS ?_ ?_;rotate_left
   ·intro wz hSz;have x1z := bcl hSz HX.out HX1.out;obtain ⟨y0,y1,y2,y3,y4⟩ := cm_results (3,n,K,V,kb) (HK2.out.below hSz (Blk.lt HK2.out));go_simp;all_goals with_reducible rfl
   (try simp only [Act.put,pu]);refine tkY 6 ?_ rfl hS ?_ ?_;rotate_left
   ·intro wz hSz;have x1z := bcl hSz HX.out HX1.out;obtain ⟨y0,y1,y2,y3,y4⟩ := cm_results (3,n,K,V,kb) (HK2.out.below hSz (Blk.lt HK2.out));go_simp;all_goals with_reducible rfl
   (try simp only [Act.put,pu]);refine tkY 7 ?_ rfl hS ?_ ?_;rotate_left
   ·intro wz hSz;have x1z := bcl hSz HX.out HX1.out;obtain ⟨y0,y1,y2,y3,y4⟩ := cm_results (3,n,K,V,kb) (HK2.out.below hSz (Blk.lt HK2.out));go_simp;all_goals with_reducible rfl
   (try simp only [Act.put,pu]);refine tkY 8 ?_ rfl hS ?_ ?_;rotate_left
   ·intro wz hSz;have x1z := bcl hSz HX.out HX1.out;obtain ⟨y0,y1,y2,y3,y4⟩ := cm_results (3,n,K,V,kb) (HK2.out.below hSz (Blk.lt HK2.out));go_simp;all_goals with_reducible rfl
   try simp only [Act.put,pu]
   refine wpAnyH_ready (rs := [9]) (by kernel_rfl) (by simp) (AllReadyH.cons rfl (fun K' hK => ?_) AllReadyH.nil)
   go_simp
   refine (rput_to _ l K (k1 + 1) _ rfl _ (HH2.out.below hS) HL.out).mono ?_; rintro e w8 ⟨vp,rfl,hO3,hbq⟩
   refine hK.out _ _ ?_ (fun hSn => ?_)
   ·exact hS.trans (hbq.mono hS.size)
   have HO3 := Lib.hid (own_mono hO3 (Nat.le_trans HB2.out.size hS.size))
   clear hK K' hS hbq hO3
   have hS := hSn
   clear hSn
   try dsimp only at hS
   (try simp only [Act.put,pu]);refine tkY 10 ?_ rfl hS ?_ ?_;rotate_left
   ·intro wz hSz;have x1z := bcl hSz HX.out HX1.out;obtain ⟨y0,y1,y2,y3,y4⟩ := cm_results (3,n,K,V,kb) (HK2.out.below hSz (Blk.lt HK2.out));go_simp;all_goals with_reducible rfl
   (try simp only [Act.put,pu]);refine tkY 11 ?_ rfl hS ?_ ?_;rotate_left
   ·intro wz hSz;have x1z := bcl hSz HX.out HX1.out;obtain ⟨y0,y1,y2,y3,y4⟩ := cm_results (3,n,K,V,kb) (HK2.out.below hSz (Blk.lt HK2.out));go_simp;all_goals with_reducible rfl
   try simp only [Act.put,pu]
   refine wpAnyH_done (by kernel_rfl) ?_ _
   go_wp2
   go_ret2
   rw [HDV.out]
   exact ⟨_,rfl,.inl HO3.out,HB2.out.trans (hS.mono HB2.out.size)⟩
set_option maxHeartbeats 2000000 in
theorem rch_del (v : Value) (l : List Rw) (kd : Int) (n : ByteArray) (K V : Int) (kb : Bool) (w : World) (h : RR w v l) (hl : l.length ≤ 1000000) (h2 : kd ≠ 2) (h3 : kd ≠ 3) :
  Calls Tryz.prog 57 #[v,.agg #[.int .i64 kd,.string n,.int .i64 K,.int .i64 V,.bool kb]] w (ChgQ v l (chgD kd K V kb l) w) := by
 obtain ⟨D,hD⟩ : ∃ D,chgD kd K V kb l = D := ⟨_,rfl⟩
 rw [hD]
 have HD := Lib.hid hD
 clear hD
 have hC : chgD kd K V kb l = (delR kb K l,0) := by unfold chgD; rw [if_neg h2,if_neg h3]
 have HDV := Lib.hid (show D = (delR kb K l,0) by rw [← HD.out,hC])
 have n2 : (kd == 2) = false := beq_eq_false_iff_ne.2 h2
 have n3 : (kd == 3) = false := beq_eq_false_iff_ne.2 h3
 clear hC
 obtain ⟨W0,hW0⟩ : ∃ W0,w.alloc (.cells #[.int .i64 kd,.string n,.int .i64 K,.int .i64 V,.bool kb] 24) = W0 := ⟨_,rfl⟩
 have hb0 : Below w.heap.size w W0 := by rw [← hW0]; exact (Below.refl _ _).alloc (Nat.le_refl _) _
 have hk0 : Blk W0 w.heap.size 24 (cmCells (kd,n,K,V,kb)) := by rw [← hW0]; exact Blk.new _ _ _
 have HB0 := Lib.hid hb0
 have HH := Lib.hid (h.below hb0)
 obtain ⟨G,hG⟩ : ∃ G,getR true K l = G := ⟨_,rfl⟩
 have HGE : Hid (getR true K l = G) := Lib.hid hG
 have HGT := Lib.hid (fun v W hW => rget_key v l K G hG W hW hl)
 obtain ⟨a,cap,rfl⟩ := h.form
 obtain ⟨y0,y1,y2,y3,y4⟩ := cm_results _ hk0
 have HK := Lib.hid hk0
 have HL := Lib.hid hl
 clear h hl hb0 hk0 hG
 go_enter Tryz.func57,Tryz.ntmps57
 go_wp2_with fail
 clear hW0
 refine (HGT.out _ _ HH.out).mono ?_
 rintro e w2 ⟨vg,rfl,hO,hb2⟩
 have HB2 := Lib.hid (HB0.out.trans (hb2.mono HB0.out.size))
 have HH2 := Lib.hid (HH.out.below hb2)
 have HO2 := Lib.hid hO
 have HRG := Lib.hid hO.rr
 clear y0 y1 y2 y3 y4
 obtain ⟨y0,y1,y2,y3,y4⟩ := cm_results (kd,n,K,V,kb) (HK.out.below hb2 HK.out.lt)
 have HK2 := Lib.hid (HK.out.below hb2 HK.out.lt)
 obtain ⟨ga,gc,rfl⟩ := own_sh2 hO
 clear hO hb2
 go_wp2_with fail
 refine (rwo_to _ l kd n K V kb _ rfl _ HH2.out HL.out).mono ?_
 rintro e w3 ⟨vp,rfl,hO3,hb3⟩
 have HB3 := Lib.hid (HB2.out.trans (hb3.mono HB2.out.size))
 have HO3 := Lib.hid (own_mono hO3 HB2.out.size)
 clear hO3 hb3
 go_wp2
 go_ret2
 rw [HDV.out]
 exact ⟨_,rfl,.inl HO3.out,HB3.out⟩
theorem rchange_any (v : Value) (l : List Rw) (kd : Int) (n : ByteArray) (K V : Int) (kb : Bool) (w : World) (h : RR w v l) (hl : l.length ≤ 1000000) (hv : ∀ r ∈ l,inI r.2) :
  Calls Tryz.prog 57 #[v,.agg #[.int .i64 kd,.string n,.int .i64 K,.int .i64 V,.bool kb]] w (ChgQ v l (chgD kd K V kb l) w) := by
 by_cases h2 : kd = 2
 ·subst h2; exact rch_put v l n K V kb w h hl
 ·by_cases h3 : kd = 3
  ·subst h3; exact rch_add v l n K V kb w h hl hv
  ·exact rch_del v l kd n K V kb w h hl h2 h3

def MadP (s : List Tb) (w : World) (e : Ending) (w' : World) : Prop := ∃ v,e = .returned v ∧ SR w' v s ∧ Below w.heap.size w w'
theorem rless_to (a b : ByteArray) (R : Bool) (hR : decide (a.data.toList < b.data.toList) = R) (ha : a.size ≤ 1000000) (hb : b.size ≤ 1000000) (w : World) :
  Calls Tryz.prog 43 #[.string a,.string b] w fun e w' => e = .returned (.bool R) ∧ Below w.heap.size w w' := by
 subst hR
 refine (rless_any a b w (by omega) (by omega)).mono ?_
 rintro e w' ⟨he,n,rfl⟩
 exact ⟨by rw [he,Lib.toList_data,Lib.toList_data],belN _ _ _⟩
theorem SR.tv {w : World} {b off cap n : Nat} {s : List Tb} (h : SR w (.slice (some ⟨b,off,none⟩) n cap) s) (h0 : 0 < s.length) : ∃ X : List Tv,tbs X = s ∧ ∀ (i : Nat) (t : Tv),X[i]? = some t → w.cell? ⟨b,off + i * 2,none⟩ = some (.string t.1) ∧ w.cell? ⟨b,off + i * 2 + 1,none⟩ = some t.2.1 ∧ RR w t.2.1 t.2.2 := by
 obtain ⟨g,o,c,he,_,hx⟩ := h.inv h0
 injection he with e1 _ _
 injection e1 with e1
 injection e1 with e1 e2 _
 subst e1 e2
 have key : ∀ j,j ≤ s.length → ∃ X : List Tv,tbs X = s.take j ∧ ∀ (i : Nat) (t : Tv),X[i]? = some t → w.cell? ⟨b,off + i * 2,none⟩ = some (.string t.1) ∧ w.cell? ⟨b,off + i * 2 + 1,none⟩ = some t.2.1 ∧ RR w t.2.1 t.2.2 := by
  intro j
  induction j with
  | zero => intro _; exact ⟨[],rfl,fun i t h => by simp at h⟩
  | succ j ih =>
   intro hj
   obtain ⟨X,h1,h2⟩ := ih (by omega)
   have hl : X.length = j := by rw [← tbs_len,h1,List.length_take]; omega
   have hs : s[j]? = some s[j] := List.getElem?_eq_getElem (by omega)
   obtain ⟨c0,u,c1,hr⟩ := hx j _ hs
   refine ⟨X ++ [(s[j].1,u,s[j].2)],?_,fun i t hi => ?_⟩
   ·unfold tbs at h1 ⊢
    rw [List.map_append,h1,List.take_add_one,hs]; rfl
   ·rw [List.getElem?_append] at hi
    split at hi
    ·exact h2 i t hi
    ·have hi0 : i - X.length = 0 := by
      have := (List.getElem?_eq_some_iff.1 hi).1
      simp at this; omega
     rw [hi0] at hi
     simp at hi
     subst hi
     have : i = j := by omega
     subst this
     exact ⟨c0,c1,hr⟩
 obtain ⟨X,h1,h2⟩ := key s.length (Nat.le_refl _)
 exact ⟨X,by rw [h1,List.take_length],h2⟩
theorem SR.of_own {w : World} {B m : Nat} {v : Value} {Y : List Tv} {xs : List Value} (h : w.ownsRow B 37 2 v m xs) (hm : Y.length = m) (hx : tcs Y = xs) (hr : ∀ t ∈ Y,RR w t.2.1 t.2.2) : SR w v (tbs Y) := by
 subst hm hx
 rcases h.2 with ⟨rfl,h0⟩ | ⟨g,cap,cur,rfl,hb,hg,hn,_,hs,ht⟩
 ·exact .inl ⟨_,_,by unfold tbs; rw [List.eq_nil_of_length_eq_zero h0]; rfl,rfl⟩
 ·refine .inr ⟨g,0,cap,by rw [tbs_len],by rw [tbs_len]; exact hn,fun i t hi => ?_⟩
  obtain ⟨u,hu⟩ := tbs_inv _ _ _ hi
  obtain ⟨h1,h2⟩ := tcs_at Y i _ hu
  have hl : i < Y.length := (List.getElem?_eq_some_iff.1 hu).1
  have c := fun j hj => World.ownsRow.cellAt h (g := g) (n := Y.length) (cap := cap) j hj
  rw [Nat.zero_add]
  exact ⟨(c (i * 2) (by omega)).trans h1,u,(c (i * 2 + 1) (by omega)).trans h2,hr _ (List.mem_of_getElem? hu)⟩
theorem src_drop2 {w : World} {b off : Nat} {X : List Tv} (j : Nat) (h : ∀ (i : Nat) (t : Tv),X[i]? = some t → w.cell? ⟨b,off + i * 2,none⟩ = some (.string t.1) ∧ w.cell? ⟨b,off + i * 2 + 1,none⟩ = some t.2.1) : ∀ i u,(tcs (X.drop j))[i]? = some u → w.cell? ((⟨b,off + j * 2,none⟩ : Addr).add i) = some u := by
 intro i u hu
 obtain ⟨q,p,hq,hu2⟩ := fl_inv _ i u hu
 rw [List.getElem?_map,List.getElem?_drop] at hq
 cases hr : X[j + q]? with
 | none => rw [hr] at hq; cases hq
 | some r =>
  rw [hr] at hq
  injection hq with hq
  subst hq
  obtain ⟨h1,h2⟩ := h _ _ hr
  rw [Addr.add_lit]
  rcases hu2 with ⟨rfl,rfl⟩ | ⟨rfl,rfl⟩
  ·rw [show off + j * 2 + q * 2 = off + (j + q) * 2 by omega]; exact h1
  ·rw [show off + j * 2 + (q * 2 + 1) = off + (j + q) * 2 + 1 by omega]; exact h2
theorem made_is {X : List Tv} {s : List Tb} {n : ByteArray} {i : Nat} (hX : tbs X = s) (hi : i ≤ s.length) (h1 : ∀ t x,t < i → s[t]? = some x → ltN n x = true) (h2 : ∀ x,s[i]? = some x → ltN n x = false) : tbs (insT X i n) = madeS s n := by
 have e : lowT s n = i := low_uniq _ s i hi h1 h2
 rw [tbs_ins,hX]
 unfold madeS
 rw [e]
theorem one_pair {a b : Value} (ha : a.oneCell' = true) (hb : b.oneCell' = true) : ∀ v ∈ [a,b],v.oneCell' = true := by
 intro v hv
 rcases List.mem_cons.1 hv with rfl | hv
 ·exact ha
 ·rw [List.mem_singleton] at hv; subst hv; exact hb
theorem tcs_oneX {X : List Tv} (h : ∀ t ∈ X,t.2.1.oneCell' = true) : ∀ v ∈ tcs X,v.oneCell' = true := fl_all _ _ fun p hp => by
 obtain ⟨t,ht,rfl⟩ := List.mem_map.1 hp
 exact ⟨rfl,h t ht⟩
theorem RR.one {w : World} {v : Value} {l : List Rw} (h : RR w v l) : v.oneCell' = true := by
 obtain ⟨a,c,rfl⟩ := h.form; rfl
set_option maxHeartbeats 4000000 in
theorem rmade_any (v : Value) (s : List Tb) (n : ByteArray) (w : World) (h : SR w v s) (hf : FewS s) (hn : n.size ≤ 1000000) :
  Calls Tryz.prog 55 #[v,.string n] w (MadP (madeS s n) w) := by
 obtain ⟨i31,hi31,hz31,hs31,hb31⟩ := iTab
 have und31 := undTab
 obtain ⟨a,cap,rfl⟩ := h.form
 have hXe : ∃ X : List Tv,tbs X = s ∧ (0 < s.length → ∃ b off,a = some ⟨b,off,none⟩ ∧ s.length ≤ cap ∧ ∀ (i : Nat) (t : Tv),X[i]? = some t → w.cell? ⟨b,off + i * 2,none⟩ = some (.string t.1) ∧ w.cell? ⟨b,off + i * 2 + 1,none⟩ = some t.2.1 ∧ RR w t.2.1 t.2.2) ∧ ∀ t ∈ X,RR w t.2.1 t.2.2 := by
  by_cases h0 : 0 < s.length
  ·obtain ⟨g,o,c,he,hc,_⟩ := h.inv h0
   injection he with e1 _ e3
   subst e1 e3
   obtain ⟨X,h1,h2⟩ := h.tv h0
   refine ⟨X,h1,fun _ => ⟨g,o,rfl,hc,h2⟩,fun t ht => ?_⟩
   obtain ⟨i,hi⟩ := List.getElem?_of_mem ht
   exact (h2 i t hi).2.2
  ·have : s = [] := List.eq_nil_of_length_eq_zero (by omega)
   subst this
   exact ⟨[],rfl,fun h => absurd h (by simp),fun t ht => by simp at ht⟩
 obtain ⟨X,hX,hcells,hrr⟩ := hXe
 have HX := Lib.hid hX
 have HC := Lib.hid hcells
 have HRR := Lib.hid hrr
 have HF := Lib.hid hf
 have HL : Hid (s.length ≤ 1000000) := Lib.hid hf.1
 have HXL := Lib.hid (show X.length = s.length by rw [← tbs_len,hX])
 have HN := Lib.hid hn
 clear h hf hn hX hcells hrr
 go_enter Tryz.func55,Tryz.ntmps55
 go_wp2_with fail
 go_loopg [5,6] s.length (fun gk u5 u6 wx => ∃ i : Nat,u6 = .int .i64 (i : Int) ∧ i + gk = s.length ∧ wx.ownsRow w.heap.size 37 2 u5 i (tcs (X.take i)) ∧ Below w.heap.size w wx ∧ ∀ t x,t < i → s[t]? = some x → ltN n x = true)
 case atStart => exact ⟨0,rfl,by omega,World.ownsRow_nil _ _ _ _,Below.refl _ _,fun t x h => by omega⟩
 case round =>
  obtain ⟨i,rfl,hi,hO,hB,hlow⟩ := hrel
  have HO := Lib.hid hO
  have HB := Lib.hid hB
  have HI := Lib.hid hi
  have HLW := Lib.hid hlow
  obtain ⟨u5a,u5c,rfl⟩ := own_sh2 hO
  cases gk with
  | zero =>
   have hil : i = s.length := by omega
   have l1 : ¬ ((i : Int) < (s.length : Int)) := by omega
   have HPD := Lib.hid (made_is (n := n) (i := i) HX.out (by omega) hlow (fun x hx => by rw [hil,List.getElem?_eq_none (Nat.le_refl _)] at hx; cases hx))
   subst hil
   clear hi hO hB hlow
   have HFL := Lib.hid (show (insT X s.length n).length = s.length + 1 by rw [insT_len _ _ _ (by rw [HXL.out]; exact Nat.le_refl _),HXL.out])
   have HFX := Lib.hid (show tcs (insT X s.length n) = tcs (X.take s.length) ++ [.string n,.slice none 0 0] by unfold insT; rw [tcs_append,List.drop_of_length_le (by rw [HXL.out]; exact Nat.le_refl _)]; rfl)
   have HRS := Lib.hid (show ∀ W,Below w.heap.size w W → ∀ t ∈ insT X s.length n,RR W t.2.1 t.2.2 from fun W hW t ht => by
    unfold insT at ht
    rcases List.mem_append.1 ht with h | h
    ·exact (HRR.out t (List.mem_of_mem_take h)).below hW
    ·rcases List.mem_cons.1 h with rfl | h
     ·exact .inl ⟨_,_,rfl,rfl⟩
     ·exact (HRR.out t (List.mem_of_mem_drop h)).below hW)
   go_wp2_with (at_builtin; refine wpList_append_lies _ rfl _ _ 22 rfl w.heap.size 37 i31 (.agg #[.string ByteArray.empty,.slice none 0 0]) 2 40 und31 hi31 hz31 hs31 hb31 rfl (by decide) (.slice u5a s.length u5c) s.length (tcs (X.take s.length)) rfl (HO.out.alloc _) ⟨wr.heap.size,0,none⟩ 1 1 [.string n,.slice none 0 0] rfl rfl ?e01 ?e02 (by decide) ?e03 ?e04 ?e05 _ rfl ?_)
   all_goals first
    | exact one_two (heap_alloc_new _ _)
    | exact one_pair rfl rfl
    | exact ⟨rfl,rfl⟩
    | (have := HI.out; have := HL.out; unfold maxLen; omega)
    | (have := HI.out; have := HL.out; omega)
    | (have := HB.out.size; simp; omega)
    | skip
   intro g9 cap9 w9 hown9 hgr9 hat9 hlt9
   have hbel9 := (HB.out.alloc HB.out.size (.cells #[.string n,.slice none 0 0] 37)).grown hgr9 (by have := HB.out.size; simp; omega) (fun k hk => (HO.out.lt k hk).1)
   have HO9 := Lib.hid hown9
   have HB9 := Lib.hid hbel9
   clear hown9 hgr9 hat9 hbel9
   go_wp2_with (at_builtin; refine wpList_append_nothing rfl _ _ 22 rfl w.heap.size 37 i31 2 und31 hi31 _ _ _ rfl HO9.out _ _ rfl ?_)
   all_goals
    go_wp2
    go_ret
    rw [← HPD.out]
    exact ⟨_,rfl,SR.of_own HO9.out HFL.out HFX.out (HRS.out _ HB9.out),HB9.out⟩
  | succ gk =>
   have hlt : i < s.length := by omega
   obtain ⟨b,off,rfl,hcp,hx⟩ := HC.out (by omega)
   have hxl : i < X.length := by rw [HXL.out]; exact hlt
   obtain ⟨q,hq0⟩ : ∃ q,X[i] = q := ⟨_,rfl⟩
   have hXi : X[i]? = some q := by rw [List.getElem?_eq_getElem hxl,hq0]
   obtain ⟨x0,x1,hru⟩ := hx i q hXi
   have x0 := (hB.cell (p := ⟨b,off + i * 2,none⟩) (World.block_lt_of_cell? w _ x0)).trans x0
   have x1 := (hB.cell (p := ⟨b,off + i * 2 + 1,none⟩) (World.block_lt_of_cell? w _ x1)).trans x1
   have hsi : s[i]? = some (q.1,q.2.2) := by rw [← HX.out]; exact tbs_at X i q hXi
   have hqs : q.1.size ≤ 1000000 := (HF.out.2 _ (List.mem_of_getElem? hsi)).1
   have l0 : (0 : Int) ≤ (i : Int) := by omega
   have l1 : (i : Int) < (s.length : Int) := by omega
   obtain ⟨i1,hi1⟩ : ∃ i1,i + 1 = i1 := ⟨_,rfl⟩
   have wk : IntKind.i64.wrap ((i : Int) + 1) = (i1 : Int) := by rw [show (i : Int) + 1 = (i1 : Int) by omega]; exact IntWalk.i64_in _ (by have := HL.out; omega)
   have HI1 := Lib.hid hi1
   have HLT := Lib.hid hlt
   have HCP := Lib.hid hcp
   have HCX := Lib.hid hx
   have HX0 := Lib.hid x0
   have HX1 := Lib.hid x1
   have HLS := Lib.hid (fun W => rless_to q.1 n _ rfl hqs HN.out W)
   cases hk : decide (q.1.data.toList < n.data.toList) with
   | true =>
    have HTK := Lib.hid (show tcs (X.take i1) = tcs (X.take i) ++ [.string q.1,q.2.1] by rw [← hi1,List.take_add_one,hXi,Option.toList_some,tcs_append]; rfl)
    have HLW1 := Lib.hid (show ∀ t x,t < i1 → s[t]? = some x → ltN n x = true from fun t x ht hx => by
     by_cases h : t < i
     ·exact hlow t x h hx
     ·have : t = i := by omega
      subst this
      rw [hsi] at hx; injection hx with hx; subst hx
      exact hk)
    have HONE := Lib.hid hru.one
    rw [hk] at HLS
    obtain ⟨q0,qv,qr⟩ := q
    simp only at x0 x1
    clear hi hO hB hlow hlt hcp hx hxl hq0 hXi hru hsi hqs hi1 hk
    go_wp2_with fail
    refine (HLS.out _).mono ?_
    rintro e w3 ⟨rfl,hb3⟩
    have x0 : w3.cell? ⟨b,off + i * 2,none⟩ = some (.string q0) := (hb3.cell (p := ⟨b,off + i * 2,none⟩) (World.block_lt_of_cell? wr _ HX0.out)).trans HX0.out
    have x1 : w3.cell? ⟨b,off + i * 2 + 1,none⟩ = some qv := (hb3.cell (p := ⟨b,off + i * 2 + 1,none⟩) (World.block_lt_of_cell? wr _ HX1.out)).trans HX1.out
    have HO3 := Lib.hid (own_below HO.out hb3)
    have HB3 := Lib.hid (HB.out.trans (hb3.mono HB.out.size))
    clear hb3
    go_wp2_with (at_builtin; refine wpList_append_lies _ rfl _ _ 22 rfl w.heap.size 37 i31 (.agg #[.string ByteArray.empty,.slice none 0 0]) 2 40 und31 hi31 hz31 hs31 hb31 rfl (by decide) (.slice u5a i u5c) i (tcs (X.take i)) rfl (HO3.out.alloc _) ⟨w3.heap.size,0,none⟩ 1 1 [.string q0,qv] rfl rfl ?a1 ?a2 (by decide) ?a3 ?a4 ?a5 _ rfl ?_)
    all_goals first
     | exact one_two (heap_alloc_new _ _)
     | exact one_pair rfl HONE.out
     | exact ⟨rfl,HONE.out⟩
     | (have := HLT.out; have := HL.out; unfold maxLen; omega)
     | (have := HLT.out; have := HL.out; omega)
     | (have := HB3.out.size; simp; omega)
     | skip
    intro g9 cap9 w9 hown9 hgr9 hat9 hlt9
    have hbel9 := (HB3.out.alloc HB3.out.size (.cells #[.string q0,qv] 37)).grown hgr9 (by have := HB3.out.size; simp; omega) (fun k hk => (HO3.out.lt k hk).1)
    have HO9 := Lib.hid hown9
    have HB9 := Lib.hid hbel9
    clear hown9 hgr9 hat9 hbel9
    go_wp2
    go_roundg gk
    case measure => exact Nat.lt_succ_self _
    case rel => exact ⟨i1,rfl,by have := HI1.out; have := HI.out; omega,by rw [HTK.out,← HI1.out]; exact HO9.out,HB9.out,HLW1.out⟩
   | false =>
    have HPD := Lib.hid (made_is (n := n) (i := i) HX.out (by omega) hlow (fun x hx => by rw [hsi] at hx; injection hx with hx; subst hx; exact hk))
    rw [hk] at HLS
    obtain ⟨q0,qv,qr⟩ := q
    simp only at x0 x1
    clear hi hO hB hlow hlt hcp hx hxl hq0 hXi hru hsi hqs hi1 hk
    go_wp2_with fail
    refine (HLS.out _).mono ?_
    rintro e w3 ⟨rfl,hb3⟩
    have HO3 := Lib.hid (own_below HO.out hb3)
    have HB3 := Lib.hid (HB.out.trans (hb3.mono HB.out.size))
    clear hb3 x0 x1
    have HFL := Lib.hid (show (insT X i n).length = i + 1 + (s.length - i) by rw [insT_len _ _ _ (by rw [HXL.out]; have := HLT.out; omega),HXL.out]; have := HLT.out; omega)
    have HFX := Lib.hid (show tcs (insT X i n) = tcs (X.take i) ++ ([.string n,.slice none 0 0] ++ tcs (X.drop i)) by unfold insT; rw [tcs_append]; rfl)
    have HRS := Lib.hid (show ∀ W,Below w.heap.size w W → ∀ t ∈ insT X i n,RR W t.2.1 t.2.2 from fun W hW t ht => by
     unfold insT at ht
     rcases List.mem_append.1 ht with h | h
     ·exact (HRR.out t (List.mem_of_mem_take h)).below hW
     ·rcases List.mem_cons.1 h with rfl | h
      ·exact .inl ⟨_,_,rfl,rfl⟩
      ·exact (HRR.out t (List.mem_of_mem_drop h)).below hW)
    have ln1 : (i : Int) ≤ (s.length : Int) := by omega
    have ln2 : ¬ (cap = i) := by have := HLT.out; have := HCP.out; omega
    have ln3 : ¬ (cap - i = 0) := by have := HLT.out; have := HCP.out; omega
    go_wp2_with (at_builtin; refine wpList_append_lies _ rfl _ _ 22 rfl w.heap.size 37 i31 (.agg #[.string ByteArray.empty,.slice none 0 0]) 2 40 und31 hi31 hz31 hs31 hb31 rfl (by decide) (.slice u5a i u5c) i (tcs (X.take i)) rfl (HO3.out.alloc _) ⟨w3.heap.size,0,none⟩ 1 1 [.string n,.slice none 0 0] rfl rfl ?e11 ?e12 (by decide) ?e13 ?e14 ?e15 _ rfl ?_)
    all_goals first
     | exact one_two (heap_alloc_new _ _)
     | exact one_pair rfl rfl
     | exact ⟨rfl,rfl⟩
     | (have := HI.out; have := HL.out; unfold maxLen; omega)
     | (have := HI.out; have := HL.out; omega)
     | (have := HB3.out.size; simp; omega)
     | skip
    intro g9 cap9 w9 hown9 hgr9 hat9 hlt9
    have hbel9 := (HB3.out.alloc HB3.out.size (.cells #[.string n,.slice none 0 0] 37)).grown hgr9 (by have := HB3.out.size; simp; omega) (fun k hk => (HO3.out.lt k hk).1)
    have HO9 := Lib.hid hown9
    have HB9 := Lib.hid hbel9
    clear hown9 hgr9 hat9 hbel9
    have HSD := Lib.hid (src_drop2 (w := w9) (X := X) (b := b) (off := off) i (fun j t hj => by
     obtain ⟨c0,c1,_⟩ := HCX.out j t hj
     exact ⟨(HB9.out.cell (p := ⟨b,off + j * 2,none⟩) (World.block_lt_of_cell? w _ c0)).trans c0,(HB9.out.cell (p := ⟨b,off + j * 2 + 1,none⟩) (World.block_lt_of_cell? w _ c1)).trans c1⟩))
    have HON := Lib.hid (tcs_oneX (X := X.drop i) (fun t ht => (HRR.out t (List.mem_of_mem_drop ht)).one))
    go_wp2_with (at_builtin; refine wpList_append_lies _ rfl _ _ 22 rfl w.heap.size 37 i31 (.agg #[.string ByteArray.empty,.slice none 0 0]) 2 40 und31 hi31 hz31 hs31 hb31 rfl (by decide) _ _ _ rfl HO9.out ⟨b,off + i * 2,none⟩ (s.length - i) (cap - i) (tcs (X.drop i)) rfl ?u5 HSD.out HON.out ?u6 ?u7 ?u8 ?u9 _ rfl ?_)
    all_goals first
     | (rw [tcs_len,List.length_drop,HXL.out]; done)
     | (have := HLT.out; omega)
     | (have := HLT.out; have := HL.out; have := HI.out; unfold maxLen; omega)
     | (have := HLT.out; have := HL.out; have := HI.out; omega)
     | (have := HB9.out.size; simp; omega)
     | skip
    intro g8 cap8 w8 hown8 hgr8 hat8 hlt8
    have hbel8 := HB9.out.grown hgr8 (by have := HB9.out.size; simp; omega) (fun k hk => (HO9.out.lt k hk).1)
    have HO8 := Lib.hid hown8
    have HB8 := Lib.hid hbel8
    clear hown8 hgr8 hat8 hbel8
    go_wp2
    go_ret
    rw [← HPD.out]
    exact ⟨_,rfl,SR.of_own HO8.out HFL.out HFX.out (HRS.out _ HB8.out),HB8.out⟩

def DoR (D : List Tb × List Rw × Int) (w : World) (e : Ending) (w' : World) : Prop := ∃ va vr,e = .returned (.tuple #[va,vr,.int .i64 D.2.2]) ∧ SR w' va D.1 ∧ RR w' vr D.2.1 ∧ Below w.heap.size w w'
theorem rfindB (v : Value) (s : List Tb) (n : ByteArray) (F : Int) (hF : findN s n 0 = F) (hs : s.length ≤ 1000000) (w : World) (h : SR w v s) :
  Calls Tryz.prog 14 #[v,.string n] w fun e w' => e = .returned (.int .i64 F) ∧ Below w.heap.size w w' := by
 subst hF; exact rfind_any v s n w h hs
theorem rget_to (v : Value) (l : List Rw) (kd : Int) (n : ByteArray) (K V : Int) (kb : Bool) (G : List Rw) (hG : getR kb K l = G) (w : World) (h : RR w v l) (hl : l.length ≤ 1000000) :
  Calls Tryz.prog 56 #[v,.agg #[.int .i64 kd,.string n,.int .i64 K,.int .i64 V,.bool kb]] w (OwnP G w) := by
 subst hG
 exact rget_any v l kd n K V kb w h hl
theorem FS.srD {B : Nat} {w : World} {v : Value} {x : List Tv} {s : List Tb} (h : FS B w v x) (e : tbs x = s) : SR w v s := by subst e; exact h.sr
theorem rchg_to (v : Value) (l : List Rw) (kd : Int) (n : ByteArray) (K V : Int) (kb : Bool) (D : List Rw × Int) (hD : chgR kd K V kb l = D) (hp : RowsP l) (w : World) (h : RR w v l) :
  Calls Tryz.prog 57 #[v,.agg #[.int .i64 kd,.string n,.int .i64 K,.int .i64 V,.bool kb]] w (ChgQ v l D w) := by
 rw [← hD,← chgD_eq hp.up]
 exact rchange_any v l kd n K V kb w h (by have := hp.len; omega) (fun r hr => (hp.ins r hr).2)
theorem FS.chg {B gd cap : Nat} {w w1 : World} {x : List Tv} {i : Nat} {q : Tv} {u : Value} {l : List Rw} (h : FS B w (.slice (some ⟨gd,0,none⟩) x.length cap) x) (hi : x[i]? = some q) (hb : Below w.heap.size w w1)
  (hu : OR w.heap.size w1 u l ∨ (u = q.2.1 ∧ l = q.2.2)) (hB : B ≤ w.heap.size) : FS B (w1.setCell ⟨gd,i * 2 + 1,none⟩ u) (.slice (some ⟨gd,0,none⟩) x.length cap) (x.set i (q.1,u,l)) := by
 refine h.modk i q hi u l ?_ (fun k hk _ => hb.block k hk) (fun j p hj hp => ?_)
 ·rcases hu with hu | ⟨rfl,rfl⟩
  ·exact own_mono hu hB
  ·exact own_below (h.rows q (List.mem_of_getElem? hi)) hb
 ·rcases hu with hu | ⟨rfl,rfl⟩
  ·cases hpb : p.2.1.ownBlock with
   | none => exact .inl rfl
   | some k => exact .inr (fun e => by
     have h1 := ((h.rows p (List.mem_of_getElem? hp)).lt k hpb).2
     have h2 := (hu.lt k e.symm).1
     omega)
  ·exact h.apart j i p q hj hp hi
set_option maxHeartbeats 2000000 in
theorem rd_twice (v : Value) (s : List Tb) (n : ByteArray) (K V : Int) (kb : Bool) (D : List Tb × List Rw × Int) (w : World) (h : SR w v s) (hp : StateP s) (hn : n.size ≤ 1000000) (hf : 0 ≤ findN s n 0) (hD : D = (s,[],9)) :
  Calls Tryz.prog 18 #[v,.agg #[.int .i64 5,.string n,.int .i64 K,.int .i64 V,.bool kb]] w (DoR D w) := by
 skip
 have HDV := Lib.hid hD
 clear hD
 obtain ⟨F,hF⟩ : ∃ F,findN s n 0 = F := ⟨_,rfl⟩
 have HF0 := Lib.hid hF
 have lf : (0 : Int) ≤ F := by rw [← hF]; exact hf
 have lf2 : ¬ (F < 0) := by omega
 clear hf hF
 obtain ⟨W0,hW0⟩ : ∃ W0,w.alloc (.cells #[.int .i64 5,.string n,.int .i64 K,.int .i64 V,.bool kb] 24) = W0 := ⟨_,rfl⟩
 have hb0 : Below w.heap.size w W0 := by rw [← hW0]; exact (Below.refl _ _).alloc (Nat.le_refl _) _
 have hk0 : Blk W0 w.heap.size 24 (cmCells (5,n,K,V,kb)) := by rw [← hW0]; exact Blk.new _ _ _
 have HB0 := Lib.hid hb0
 have HH := Lib.hid (h.below hb0)
 have HP := Lib.hid hp
 have HN := Lib.hid hn
 have HF := Lib.hid hp.ok.few
 have HL : Hid (s.length ≤ 1000000) := Lib.hid hp.ok.few.1
 obtain ⟨a,cap,rfl⟩ := h.form
 have HK := Lib.hid hk0
 clear h hp hn hb0 hk0
 go_enter Tryz.func18,Tryz.ntmps18
 go_wp2_with fail
 clear hW0
 refine (rcopy_any _ s _ HH.out HF.out).mono ?_
 rintro e w2 ⟨vd,x,rfl,hfs,hts,hb2⟩
 have HB2 := Lib.hid (HB0.out.trans (hb2.mono HB0.out.size))
 have HFS2 := Lib.hid (hfs.mono HB0.out.size)
 have HTS := Lib.hid hts
 have HH2 := Lib.hid (HH.out.below hb2)
 have HK2 := Lib.hid (HK.out.below hb2 HK.out.lt)
 obtain ⟨y0,y1,y2,y3,y4⟩ := cm_results _ HK2.out
 clear hfs hts hb2
 go_wp2_with fail
 refine (rfindB _ s n _ HF0.out HL.out _ HH2.out).mono ?_
 rintro e w3 ⟨rfl,hb3⟩
 have HB3 := Lib.hid (HB2.out.trans (hb3.mono HB2.out.size))
 have HFS3 := Lib.hid (HFS2.out.below hb3)
 have HH3 := Lib.hid (HH2.out.below hb3)
 have HK3 := Lib.hid (HK2.out.below hb3 HK2.out.lt)
 clear hb3 y0 y1 y2 y3 y4
 obtain ⟨y0,y1,y2,y3,y4⟩ := cm_results _ HK3.out
 go_wp2
 go_ret3
 rw [HDV.out]
 exact ⟨_,_,rfl,FS.srD HFS3.out HTS.out,.inl ⟨_,_,rfl,rfl⟩,HB3.out⟩
set_option maxHeartbeats 2000000 in
theorem rd_full (v : Value) (s : List Tb) (n : ByteArray) (K V : Int) (kb : Bool) (D : List Tb × List Rw × Int) (w : World) (h : SR w v s) (hp : StateP s) (hn : n.size ≤ 1000000) (hf : findN s n 0 < 0) (h16 : 16 ≤ s.length) (hD : D = (s,[],11)) :
  Calls Tryz.prog 18 #[v,.agg #[.int .i64 5,.string n,.int .i64 K,.int .i64 V,.bool kb]] w (DoR D w) := by
 have l16 : (16 : Int) ≤ (s.length : Int) := by omega
 clear h16
 have HDV := Lib.hid hD
 clear hD
 obtain ⟨F,hF⟩ : ∃ F,findN s n 0 = F := ⟨_,rfl⟩
 have HF0 := Lib.hid hF
 have lf : ¬ ((0 : Int) ≤ F) := by rw [← hF]; omega
 have lf2 : F < 0 := by omega
 clear hf hF
 obtain ⟨W0,hW0⟩ : ∃ W0,w.alloc (.cells #[.int .i64 5,.string n,.int .i64 K,.int .i64 V,.bool kb] 24) = W0 := ⟨_,rfl⟩
 have hb0 : Below w.heap.size w W0 := by rw [← hW0]; exact (Below.refl _ _).alloc (Nat.le_refl _) _
 have hk0 : Blk W0 w.heap.size 24 (cmCells (5,n,K,V,kb)) := by rw [← hW0]; exact Blk.new _ _ _
 have HB0 := Lib.hid hb0
 have HH := Lib.hid (h.below hb0)
 have HP := Lib.hid hp
 have HN := Lib.hid hn
 have HF := Lib.hid hp.ok.few
 have HL : Hid (s.length ≤ 1000000) := Lib.hid hp.ok.few.1
 obtain ⟨a,cap,rfl⟩ := h.form
 have HK := Lib.hid hk0
 clear h hp hn hb0 hk0
 go_enter Tryz.func18,Tryz.ntmps18
 go_wp2_with fail
 clear hW0
 refine (rcopy_any _ s _ HH.out HF.out).mono ?_
 rintro e w2 ⟨vd,x,rfl,hfs,hts,hb2⟩
 have HB2 := Lib.hid (HB0.out.trans (hb2.mono HB0.out.size))
 have HFS2 := Lib.hid (hfs.mono HB0.out.size)
 have HTS := Lib.hid hts
 have HH2 := Lib.hid (HH.out.below hb2)
 have HK2 := Lib.hid (HK.out.below hb2 HK.out.lt)
 obtain ⟨y0,y1,y2,y3,y4⟩ := cm_results _ HK2.out
 clear hfs hts hb2
 go_wp2_with fail
 refine (rfindB _ s n _ HF0.out HL.out _ HH2.out).mono ?_
 rintro e w3 ⟨rfl,hb3⟩
 have HB3 := Lib.hid (HB2.out.trans (hb3.mono HB2.out.size))
 have HFS3 := Lib.hid (HFS2.out.below hb3)
 have HH3 := Lib.hid (HH2.out.below hb3)
 have HK3 := Lib.hid (HK2.out.below hb3 HK2.out.lt)
 clear hb3 y0 y1 y2 y3 y4
 obtain ⟨y0,y1,y2,y3,y4⟩ := cm_results _ HK3.out
 go_wp2
 go_ret3
 rw [HDV.out]
 exact ⟨_,_,rfl,FS.srD HFS3.out HTS.out,.inl ⟨_,_,rfl,rfl⟩,HB3.out⟩
set_option maxHeartbeats 2000000 in
theorem rd_made (v : Value) (s : List Tb) (n : ByteArray) (K V : Int) (kb : Bool) (D : List Tb × List Rw × Int) (w : World) (h : SR w v s) (hp : StateP s) (hn : n.size ≤ 1000000) (hf : findN s n 0 < 0) (h16 : ¬ 16 ≤ s.length) (hD : D = (madeS s n,[],0)) :
  Calls Tryz.prog 18 #[v,.agg #[.int .i64 5,.string n,.int .i64 K,.int .i64 V,.bool kb]] w (DoR D w) := by
 have l16 : ¬ ((16 : Int) ≤ (s.length : Int)) := by omega
 clear h16
 have HDV := Lib.hid hD
 clear hD
 obtain ⟨F,hF⟩ : ∃ F,findN s n 0 = F := ⟨_,rfl⟩
 have HF0 := Lib.hid hF
 have lf : ¬ ((0 : Int) ≤ F) := by rw [← hF]; omega
 have lf2 : F < 0 := by omega
 clear hf hF
 obtain ⟨W0,hW0⟩ : ∃ W0,w.alloc (.cells #[.int .i64 5,.string n,.int .i64 K,.int .i64 V,.bool kb] 24) = W0 := ⟨_,rfl⟩
 have hb0 : Below w.heap.size w W0 := by rw [← hW0]; exact (Below.refl _ _).alloc (Nat.le_refl _) _
 have hk0 : Blk W0 w.heap.size 24 (cmCells (5,n,K,V,kb)) := by rw [← hW0]; exact Blk.new _ _ _
 have HB0 := Lib.hid hb0
 have HH := Lib.hid (h.below hb0)
 have HP := Lib.hid hp
 have HN := Lib.hid hn
 have HF := Lib.hid hp.ok.few
 have HL : Hid (s.length ≤ 1000000) := Lib.hid hp.ok.few.1
 obtain ⟨a,cap,rfl⟩ := h.form
 have HK := Lib.hid hk0
 clear h hp hn hb0 hk0
 go_enter Tryz.func18,Tryz.ntmps18
 go_wp2_with fail
 clear hW0
 refine (rcopy_any _ s _ HH.out HF.out).mono ?_
 rintro e w2 ⟨vd,x,rfl,hfs,hts,hb2⟩
 have HB2 := Lib.hid (HB0.out.trans (hb2.mono HB0.out.size))
 have HFS2 := Lib.hid (hfs.mono HB0.out.size)
 have HTS := Lib.hid hts
 have HH2 := Lib.hid (HH.out.below hb2)
 have HK2 := Lib.hid (HK.out.below hb2 HK.out.lt)
 obtain ⟨y0,y1,y2,y3,y4⟩ := cm_results _ HK2.out
 clear hfs hts hb2
 go_wp2_with fail
 refine (rfindB _ s n _ HF0.out HL.out _ HH2.out).mono ?_
 rintro e w3 ⟨rfl,hb3⟩
 have HB3 := Lib.hid (HB2.out.trans (hb3.mono HB2.out.size))
 have HFS3 := Lib.hid (HFS2.out.below hb3)
 have HH3 := Lib.hid (HH2.out.below hb3)
 have HK3 := Lib.hid (HK2.out.below hb3 HK2.out.lt)
 clear hb3 y0 y1 y2 y3 y4
 obtain ⟨y0,y1,y2,y3,y4⟩ := cm_results _ HK3.out
 go_wp2_with fail
 refine (rmade_any _ s n _ (FS.srD HFS3.out HTS.out) HF.out HN.out).mono ?_
 rintro e w4 ⟨vm,rfl,hs4,hb4⟩
 have HB4 := Lib.hid (HB3.out.trans (hb4.mono HB3.out.size))
 have HS4 := Lib.hid hs4
 clear hs4 hb4
 go_wp2
 go_ret3
 rw [HDV.out]
 exact ⟨_,_,rfl,HS4.out,.inl ⟨_,_,rfl,rfl⟩,HB4.out⟩
set_option maxHeartbeats 2000000 in
theorem rd_none (v : Value) (s : List Tb) (kd : Int) (n : ByteArray) (K V : Int) (kb : Bool) (D : List Tb × List Rw × Int) (w : World) (h : SR w v s) (hp : StateP s) (hn : n.size ≤ 1000000) (hf : findN s n 0 < 0) (h5 : kd ≠ 5) (hD : D = (s,[],8)) :
  Calls Tryz.prog 18 #[v,.agg #[.int .i64 kd,.string n,.int .i64 K,.int .i64 V,.bool kb]] w (DoR D w) := by
 have n5 : (kd == 5) = false := beq_eq_false_iff_ne.2 h5
 have HDV := Lib.hid hD
 clear hD
 obtain ⟨F,hF⟩ : ∃ F,findN s n 0 = F := ⟨_,rfl⟩
 have HF0 := Lib.hid hF
 have lf : ¬ ((0 : Int) ≤ F) := by rw [← hF]; omega
 have lf2 : F < 0 := by omega
 clear hf hF
 obtain ⟨W0,hW0⟩ : ∃ W0,w.alloc (.cells #[.int .i64 kd,.string n,.int .i64 K,.int .i64 V,.bool kb] 24) = W0 := ⟨_,rfl⟩
 have hb0 : Below w.heap.size w W0 := by rw [← hW0]; exact (Below.refl _ _).alloc (Nat.le_refl _) _
 have hk0 : Blk W0 w.heap.size 24 (cmCells (kd,n,K,V,kb)) := by rw [← hW0]; exact Blk.new _ _ _
 have HB0 := Lib.hid hb0
 have HH := Lib.hid (h.below hb0)
 have HP := Lib.hid hp
 have HN := Lib.hid hn
 have HF := Lib.hid hp.ok.few
 have HL : Hid (s.length ≤ 1000000) := Lib.hid hp.ok.few.1
 obtain ⟨a,cap,rfl⟩ := h.form
 have HK := Lib.hid hk0
 clear h hp hn hb0 hk0
 go_enter Tryz.func18,Tryz.ntmps18
 go_wp2_with fail
 clear hW0
 refine (rcopy_any _ s _ HH.out HF.out).mono ?_
 rintro e w2 ⟨vd,x,rfl,hfs,hts,hb2⟩
 have HB2 := Lib.hid (HB0.out.trans (hb2.mono HB0.out.size))
 have HFS2 := Lib.hid (hfs.mono HB0.out.size)
 have HTS := Lib.hid hts
 have HH2 := Lib.hid (HH.out.below hb2)
 have HK2 := Lib.hid (HK.out.below hb2 HK.out.lt)
 obtain ⟨y0,y1,y2,y3,y4⟩ := cm_results _ HK2.out
 clear hfs hts hb2
 go_wp2_with fail
 refine (rfindB _ s n _ HF0.out HL.out _ HH2.out).mono ?_
 rintro e w3 ⟨rfl,hb3⟩
 have HB3 := Lib.hid (HB2.out.trans (hb3.mono HB2.out.size))
 have HFS3 := Lib.hid (HFS2.out.below hb3)
 have HH3 := Lib.hid (HH2.out.below hb3)
 have HK3 := Lib.hid (HK2.out.below hb3 HK2.out.lt)
 clear hb3 y0 y1 y2 y3 y4
 obtain ⟨y0,y1,y2,y3,y4⟩ := cm_results _ HK3.out
 go_wp2
 go_ret3
 rw [HDV.out]
 exact ⟨_,_,rfl,FS.srD HFS3.out HTS.out,.inl ⟨_,_,rfl,rfl⟩,HB3.out⟩
set_option maxHeartbeats 2000000 in
theorem rd_get (v : Value) (s : List Tb) (n : ByteArray) (K V : Int) (kb : Bool) (D : List Tb × List Rw × Int) (w : World) (h : SR w v s) (hp : StateP s) (hn : n.size ≤ 1000000) (k : Nat) (t : Tb) (hf : findN s n 0 = (k : Int)) (ht : s[k]? = some t) (hD : D = (s,getR kb K t.2,0)) :
  Calls Tryz.prog 18 #[v,.agg #[.int .i64 1,.string n,.int .i64 K,.int .i64 V,.bool kb]] w (DoR D w) := by
 skip
 have HDV := Lib.hid hD
 clear hD
 obtain ⟨F,hF⟩ : ∃ F,findN s n 0 = F := ⟨_,rfl⟩
 have HF0 := Lib.hid hF
 obtain rfl : F = (k : Int) := by rw [← hF]; exact hf
 have lf2 : ¬ ((k : Int) < 0) := by omega
 have lf3 : (0 : Int) ≤ (k : Int) := by omega
 clear hf hF
 obtain ⟨W0,hW0⟩ : ∃ W0,w.alloc (.cells #[.int .i64 1,.string n,.int .i64 K,.int .i64 V,.bool kb] 24) = W0 := ⟨_,rfl⟩
 have hb0 : Below w.heap.size w W0 := by rw [← hW0]; exact (Below.refl _ _).alloc (Nat.le_refl _) _
 have hk0 : Blk W0 w.heap.size 24 (cmCells (1,n,K,V,kb)) := by rw [← hW0]; exact Blk.new _ _ _
 have HB0 := Lib.hid hb0
 have HH := Lib.hid (h.below hb0)
 have HP := Lib.hid hp
 have HN := Lib.hid hn
 have HF := Lib.hid hp.ok.few
 have HL : Hid (s.length ≤ 1000000) := Lib.hid hp.ok.few.1
 obtain ⟨a,cap,rfl⟩ := h.form
 have HK := Lib.hid hk0
 clear h hp hn hb0 hk0
 go_enter Tryz.func18,Tryz.ntmps18
 go_wp2_with fail
 clear hW0
 refine (rcopy_any _ s _ HH.out HF.out).mono ?_
 rintro e w2 ⟨vd,x,rfl,hfs,hts,hb2⟩
 have HB2 := Lib.hid (HB0.out.trans (hb2.mono HB0.out.size))
 have HFS2 := Lib.hid (hfs.mono HB0.out.size)
 have HTS := Lib.hid hts
 have HH2 := Lib.hid (HH.out.below hb2)
 have HK2 := Lib.hid (HK.out.below hb2 HK.out.lt)
 obtain ⟨y0,y1,y2,y3,y4⟩ := cm_results _ HK2.out
 clear hfs hts hb2
 go_wp2_with fail
 refine (rfindB _ s n _ HF0.out HL.out _ HH2.out).mono ?_
 rintro e w3 ⟨rfl,hb3⟩
 have HB3 := Lib.hid (HB2.out.trans (hb3.mono HB2.out.size))
 have HFS3 := Lib.hid (HFS2.out.below hb3)
 have HH3 := Lib.hid (HH2.out.below hb3)
 have HK3 := Lib.hid (HK2.out.below hb3 HK2.out.lt)
 clear hb3 y0 y1 y2 y3 y4
 obtain ⟨y0,y1,y2,y3,y4⟩ := cm_results _ HK3.out
 obtain ⟨b,off,cp,he,hcp,hx⟩ := HH3.out.inv (by have := (List.getElem?_eq_some_iff.1 ht).1; omega)
 injection he with ea _ ec
 subst ea ec
 obtain ⟨_,u,x1,hu⟩ := hx k t ht
 have lk : (k : Int) < (s.length : Int) := by have := (List.getElem?_eq_some_iff.1 ht).1; omega
 have HT := Lib.hid ht
 have HU := Lib.hid hu
 have HX1 := Lib.hid x1
 have HXB := Lib.hid (World.block_lt_of_cell? _ _ x1)
 have HRW := Lib.hid (HP.out.each t (List.mem_of_getElem? ht)).2.2
 clear hx hcp ht hu x1
 go_wp2_with fail
 refine wp_region_held_drew (S := (fun w' => Below w3.heap.size w3 w')) (by kernel_rfl) ?_ (fun hS => ?_)
 ·exact (Below.refl _ _).drew
 try dsimp only at hS
 refine tkY 0 ?_ rfl hS ?_ ?_;rotate_left
 ·intro wz hSz;have x1z := bcl hSz HXB.out HX1.out;obtain ⟨y0,y1,y2,y3,y4⟩ := cm_results (1,n,K,V,kb) (HK3.out.below hSz (Blk.lt HK3.out));go_simp;all_goals with_reducible rfl
 (try simp only [Act.put,pu]);refine tkY 1 ?_ rfl hS ?_ ?_;rotate_left
 ·intro wz hSz;have x1z := bcl hSz HXB.out HX1.out;obtain ⟨y0,y1,y2,y3,y4⟩ := cm_results (1,n,K,V,kb) (HK3.out.below hSz (Blk.lt HK3.out));go_simp;all_goals with_reducible rfl
 (try simp only [Act.put,pu]);refine tkY 2 ?_ rfl hS ?_ ?_;rotate_left
 ·intro wz hSz;have x1z := bcl hSz HXB.out HX1.out;obtain ⟨y0,y1,y2,y3,y4⟩ := cm_results (1,n,K,V,kb) (HK3.out.below hSz (Blk.lt HK3.out));go_simp;all_goals with_reducible rfl
 (try simp only [Act.put,pu]);refine tkY 3 ?_ rfl hS ?_ ?_;rotate_left
 ·intro wz hSz;have x1z := bcl hSz HXB.out HX1.out;obtain ⟨y0,y1,y2,y3,y4⟩ := cm_results (1,n,K,V,kb) (HK3.out.below hSz (Blk.lt HK3.out));go_simp;all_goals with_reducible rfl
 (try simp only [Act.put,pu]);refine tkY 4 ?_ rfl hS ?_ ?_;rotate_left
 ·intro wz hSz;have x1z := bcl hSz HXB.out HX1.out;obtain ⟨y0,y1,y2,y3,y4⟩ := cm_results (1,n,K,V,kb) (HK3.out.below hSz (Blk.lt HK3.out));go_simp;all_goals with_reducible rfl
 (try simp only [Act.put,pu]);refine tkY 5 ?_ rfl hS ?_ ?_;rotate_left
 ·intro wz hSz;have x1z := bcl hSz HXB.out HX1.out;obtain ⟨y0,y1,y2,y3,y4⟩ := cm_results (1,n,K,V,kb) (HK3.out.below hSz (Blk.lt HK3.out));go_simp;all_goals with_reducible rfl
 (try simp only [Act.put,pu]);refine tkY 6 ?_ rfl hS ?_ ?_;rotate_left
 ·intro wz hSz;have x1z := bcl hSz HXB.out HX1.out;obtain ⟨y0,y1,y2,y3,y4⟩ := cm_results (1,n,K,V,kb) (HK3.out.below hSz (Blk.lt HK3.out));go_simp;all_goals with_reducible rfl
 try simp only [Act.put,pu]
 refine wpAnyH_ready (rs := [7]) (by kernel_rfl) (by simp) (AllReadyH.cons rfl (fun K' hK => ?_) AllReadyH.nil)
 go_simp
 refine (rget_to u t.2 1 n K V kb _ rfl _ (HU.out.below hS) (by have := HRW.out.len; omega)).mono ?_; rintro e w8 ⟨vg,rfl,hO,hbq⟩
 have HO8 := Lib.hid hO.rr
 clear hO
 refine hK.out _ _ ?_ (fun hSn => ?_)
 ·exact hS.trans (hbq.mono hS.size)
 clear hK K' hbq hS
 have hS := hSn
 clear hSn
 try dsimp only at hS
 (try simp only [Act.put,pu]);refine tkY 8 ?_ rfl hS ?_ ?_;rotate_left
 ·intro wz hSz;have x1z := bcl hSz HXB.out HX1.out;obtain ⟨y0,y1,y2,y3,y4⟩ := cm_results (1,n,K,V,kb) (HK3.out.below hSz (Blk.lt HK3.out));go_simp;all_goals with_reducible rfl
 (try simp only [Act.put,pu]);refine tkY 9 ?_ rfl hS ?_ ?_;rotate_left
 ·intro wz hSz;have x1z := bcl hSz HXB.out HX1.out;obtain ⟨y0,y1,y2,y3,y4⟩ := cm_results (1,n,K,V,kb) (HK3.out.below hSz (Blk.lt HK3.out));go_simp;all_goals with_reducible rfl
 (try simp only [Act.put,pu]);refine tkY 10 ?_ rfl hS ?_ ?_;rotate_left
 ·intro wz hSz;have x1z := bcl hSz HXB.out HX1.out;obtain ⟨y0,y1,y2,y3,y4⟩ := cm_results (1,n,K,V,kb) (HK3.out.below hSz (Blk.lt HK3.out));go_simp;all_goals with_reducible rfl
 try simp only [Act.put,pu]
 refine wpAnyH_done (by kernel_rfl) ?_ _
 go_wp2
 go_ret3
 rw [HDV.out]
 exact ⟨_,_,rfl,FS.srD (HFS3.out.below hS) HTS.out,HO8.out,HB3.out.trans (hS.mono HB3.out.size)⟩
set_option maxHeartbeats 2000000 in
theorem rd_chg (v : Value) (s : List Tb) (kd : Int) (n : ByteArray) (K V : Int) (kb : Bool) (D : List Tb × List Rw × Int) (w : World) (h : SR w v s) (hp : StateP s) (hn : n.size ≤ 1000000) (k : Nat) (t : Tb) (hf : findN s n 0 = (k : Int)) (ht : s[k]? = some t) (h1 : kd ≠ 1) (h5 : kd ≠ 5) (hD : D = (s.set k (t.1,(chgR kd K V kb t.2).1),[],(chgR kd K V kb t.2).2)) :
  Calls Tryz.prog 18 #[v,.agg #[.int .i64 kd,.string n,.int .i64 K,.int .i64 V,.bool kb]] w (DoR D w) := by
 have n5 : (kd == 5) = false := beq_eq_false_iff_ne.2 h5
 have n1 : (kd == 1) = false := beq_eq_false_iff_ne.2 h1
 have HDV := Lib.hid hD
 clear hD
 obtain ⟨F,hF⟩ : ∃ F,findN s n 0 = F := ⟨_,rfl⟩
 have HF0 := Lib.hid hF
 obtain rfl : F = (k : Int) := by rw [← hF]; exact hf
 have lf2 : ¬ ((k : Int) < 0) := by omega
 have lf3 : (0 : Int) ≤ (k : Int) := by omega
 clear hf hF
 obtain ⟨W0,hW0⟩ : ∃ W0,w.alloc (.cells #[.int .i64 kd,.string n,.int .i64 K,.int .i64 V,.bool kb] 24) = W0 := ⟨_,rfl⟩
 have hb0 : Below w.heap.size w W0 := by rw [← hW0]; exact (Below.refl _ _).alloc (Nat.le_refl _) _
 have hk0 : Blk W0 w.heap.size 24 (cmCells (kd,n,K,V,kb)) := by rw [← hW0]; exact Blk.new _ _ _
 have HB0 := Lib.hid hb0
 have HH := Lib.hid (h.below hb0)
 have HP := Lib.hid hp
 have HN := Lib.hid hn
 have HF := Lib.hid hp.ok.few
 have HL : Hid (s.length ≤ 1000000) := Lib.hid hp.ok.few.1
 obtain ⟨a,cap,rfl⟩ := h.form
 have HK := Lib.hid hk0
 clear h hp hn hb0 hk0
 go_enter Tryz.func18,Tryz.ntmps18
 go_wp2_with fail
 clear hW0
 refine (rcopy_any _ s _ HH.out HF.out).mono ?_
 rintro e w2 ⟨vd,x,rfl,hfs,hts,hb2⟩
 have HB2 := Lib.hid (HB0.out.trans (hb2.mono HB0.out.size))
 have HFS2 := Lib.hid (hfs.mono HB0.out.size)
 have HTS := Lib.hid hts
 have HH2 := Lib.hid (HH.out.below hb2)
 have HK2 := Lib.hid (HK.out.below hb2 HK.out.lt)
 obtain ⟨y0,y1,y2,y3,y4⟩ := cm_results _ HK2.out
 clear hfs hts hb2
 go_wp2_with fail
 refine (rfindB _ s n _ HF0.out HL.out _ HH2.out).mono ?_
 rintro e w3 ⟨rfl,hb3⟩
 have HB3 := Lib.hid (HB2.out.trans (hb3.mono HB2.out.size))
 have HFS3 := Lib.hid (HFS2.out.below hb3)
 have HH3 := Lib.hid (HH2.out.below hb3)
 have HK3 := Lib.hid (HK2.out.below hb3 HK2.out.lt)
 clear hb3 y0 y1 y2 y3 y4
 obtain ⟨y0,y1,y2,y3,y4⟩ := cm_results _ HK3.out
 obtain ⟨C,hC⟩ : ∃ C,chgR kd K V kb t.2 = C := ⟨_,rfl⟩
 have HC := Lib.hid hC
 rw [hC] at HDV
 have hxk : ∃ q : Tv,x[k]? = some q ∧ q.1 = t.1 ∧ q.2.2 = t.2 := by
  have h0 := HTS.out
  obtain ⟨u,hu⟩ := tbs_inv x k t (by rw [h0]; exact ht)
  exact ⟨_,hu,rfl,rfl⟩
 obtain ⟨q,hq,hq1,hq2⟩ := hxk
 have HRW := Lib.hid (HP.out.each t (List.mem_of_getElem? ht)).2.2
 have lk : (k : Int) < (x.length : Int) := by have := (List.getElem?_eq_some_iff.1 hq).1; omega
 obtain ⟨gd,dcap,rfl,hgB,hgl⟩ := HFS3.out.form (by have := (List.getElem?_eq_some_iff.1 hq).1; omega)
 have hx1 := (FS.at_ HFS3.out k q hq).2
 have hrr := (HFS3.out.rows q (List.mem_of_getElem? hq)).rr
 have HX1 := Lib.hid hx1
 have HXB := Lib.hid hgl
 have HQ := Lib.hid hq
 have HGB := Lib.hid hgB
 have HU := Lib.hid (show RR w3 q.2.1 t.2 by rw [← hq2]; exact hrr)
 have HQ1 := Lib.hid hq1
 have HQ2 := Lib.hid hq2
 have HT := Lib.hid ht
 obtain ⟨qa,qc,hqf⟩ := HU.out.form
 have HQF := Lib.hid hqf
 rw [hqf] at HX1
 clear hC hq hq1 hq2 hgB hgl hx1 hrr ht hqf
 go_wp2_with fail
 refine wp_region_held_drew (S := (fun w' => Below w3.heap.size w3 w')) (by kernel_rfl) ?_ (fun hS => ?_)
 ·exact (Below.refl _ _).drew
 try dsimp only at hS
 refine tkY 0 ?_ rfl hS ?_ ?_;rotate_left
 ·intro wz hSz;have x1z := bcl hSz HXB.out HX1.out;obtain ⟨y0,y1,y2,y3,y4⟩ := cm_results (kd,n,K,V,kb) (HK3.out.below hSz (Blk.lt HK3.out));go_simp;all_goals with_reducible rfl
 (try simp only [Act.put,pu]);refine tkY 1 ?_ rfl hS ?_ ?_;rotate_left
 ·intro wz hSz;have x1z := bcl hSz HXB.out HX1.out;obtain ⟨y0,y1,y2,y3,y4⟩ := cm_results (kd,n,K,V,kb) (HK3.out.below hSz (Blk.lt HK3.out));go_simp;all_goals with_reducible rfl
 (try simp only [Act.put,pu]);refine tkY 2 ?_ rfl hS ?_ ?_;rotate_left
 ·intro wz hSz;have x1z := bcl hSz HXB.out HX1.out;obtain ⟨y0,y1,y2,y3,y4⟩ := cm_results (kd,n,K,V,kb) (HK3.out.below hSz (Blk.lt HK3.out));go_simp;all_goals with_reducible rfl
 (try simp only [Act.put,pu]);refine tkY 3 ?_ rfl hS ?_ ?_;rotate_left
 ·intro wz hSz;have x1z := bcl hSz HXB.out HX1.out;obtain ⟨y0,y1,y2,y3,y4⟩ := cm_results (kd,n,K,V,kb) (HK3.out.below hSz (Blk.lt HK3.out));go_simp;all_goals with_reducible rfl
 (try simp only [Act.put,pu]);refine tkY 4 ?_ rfl hS ?_ ?_;rotate_left
 ·intro wz hSz;have x1z := bcl hSz HXB.out HX1.out;obtain ⟨y0,y1,y2,y3,y4⟩ := cm_results (kd,n,K,V,kb) (HK3.out.below hSz (Blk.lt HK3.out));go_simp;all_goals with_reducible rfl
 (try simp only [Act.put,pu]);refine tkY 5 ?_ rfl hS ?_ ?_;rotate_left
 ·intro wz hSz;have x1z := bcl hSz HXB.out HX1.out;obtain ⟨y0,y1,y2,y3,y4⟩ := cm_results (kd,n,K,V,kb) (HK3.out.below hSz (Blk.lt HK3.out));go_simp;all_goals with_reducible rfl
 try simp only [Act.put,pu]
 refine wpAnyH_ready (rs := [6]) (by kernel_rfl) (by simp) (AllReadyH.cons rfl (fun K' hK => ?_) AllReadyH.nil)
 go_simp
 refine (rchg_to (.slice qa t.2.length qc) t.2 kd n K V kb C HC.out HRW.out _ (by have := HU.out.below hS; rw [HQF.out] at this; exact this)).mono ?_; rintro e w8 ⟨u,rfl,hO,hbq⟩
 obtain ⟨ua,ul,uc,rfl⟩ : ∃ ua ul uc,u = .slice ua ul uc := by rcases hO with h | ⟨h,_⟩; (obtain ⟨_,_,h⟩ := own_sh2 h; exact ⟨_,_,_,h⟩); exact ⟨_,_,_,h⟩
 have HFSQ := Lib.hid (FS.chg (HFS3.out.below hS) HQ.out hbq (u := .slice ua ul uc) (l := C.1) (by rw [HQ2.out,HQF.out]; exact hO) (Nat.le_trans HB3.out.size hS.size))
 have hst := (HFS3.out.below hS).below hbq
 obtain ⟨_,e1⟩ := FS.at_ hst k q HQ.out
 have ff := World.ownsRow.frozenAt hst.own (k * 2 + 1)
 clear hst hO
 refine hK.out _ _ ?_ (fun hSn => ?_)
 ·exact hS.trans (hbq.mono hS.size)
 clear hK K' hbq hS
 have hS := hSn
 clear hSn
 try dsimp only at hS
 (try simp only [Act.put,pu]);refine tkY 7 ?_ rfl hS ?_ ?_;rotate_left
 ·intro wz hSz;have x1z := bcl hSz HXB.out HX1.out;obtain ⟨y0,y1,y2,y3,y4⟩ := cm_results (kd,n,K,V,kb) (HK3.out.below hSz (Blk.lt HK3.out));go_simp;all_goals with_reducible rfl
 (try simp only [Act.put,pu]);refine tkY 8 ?_ rfl hS ?_ ?_;rotate_left
 ·intro wz hSz;have x1z := bcl hSz HXB.out HX1.out;obtain ⟨y0,y1,y2,y3,y4⟩ := cm_results (kd,n,K,V,kb) (HK3.out.below hSz (Blk.lt HK3.out));go_simp;all_goals with_reducible rfl
 (try simp only [Act.put,pu]);refine tkY 9 ?_ rfl hS ?_ ?_;rotate_left
 ·intro wz hSz;have x1z := bcl hSz HXB.out HX1.out;obtain ⟨y0,y1,y2,y3,y4⟩ := cm_results (kd,n,K,V,kb) (HK3.out.below hSz (Blk.lt HK3.out));go_simp;all_goals with_reducible rfl
 (try simp only [Act.put,pu]);refine tkY 10 ?_ rfl hS ?_ ?_;rotate_left
 ·intro wz hSz;have x1z := bcl hSz HXB.out HX1.out;obtain ⟨y0,y1,y2,y3,y4⟩ := cm_results (kd,n,K,V,kb) (HK3.out.below hSz (Blk.lt HK3.out));go_simp;all_goals with_reducible rfl
 (try simp only [Act.put,pu]);refine tkY 11 ?_ rfl hS ?_ ?_;rotate_left
 ·intro wz hSz;have x1z := bcl hSz HXB.out HX1.out;obtain ⟨y0,y1,y2,y3,y4⟩ := cm_results (kd,n,K,V,kb) (HK3.out.below hSz (Blk.lt HK3.out));go_simp;all_goals with_reducible rfl
 try simp only [Act.put,pu]
 refine wpAnyH_done (by kernel_rfl) ?_ _
 have HS := Lib.hid hS
 clear hS
 go_wp2
 go_ret3
 rw [HDV.out]
 exact ⟨_,_,rfl,FS.srD HFSQ.out (by rw [tbs_set,HTS.out,HQ1.out]),.inl ⟨_,_,rfl,rfl⟩,(HB3.out.trans (HS.out.mono HB3.out.size)).setCell (p := ⟨gd,k * 2 + 1,none⟩) HGB.out _⟩
theorem rdo_any (v : Value) (s : List Tb) (kd : Int) (n : ByteArray) (K V : Int) (kb : Bool) (D : List Tb × List Rw × Int) (hD : doS s kd n K V kb = D) (hp : StateP s) (hn : n.size ≤ 1000000) (w : World) (h : SR w v s) :
  Calls Tryz.prog 18 #[v,.agg #[.int .i64 kd,.string n,.int .i64 K,.int .i64 V,.bool kb]] w (DoR D w) := by
 subst hD
 by_cases h5 : kd = 5
 ·subst h5
  by_cases hf : 0 ≤ findN s n 0
  ·exact rd_twice v s n K V kb _ w h hp hn hf (by unfold doS; rw [if_pos rfl,if_pos hf])
  ·by_cases h16 : 16 ≤ s.length
   ·exact rd_full v s n K V kb _ w h hp hn (by omega) h16 (by unfold doS; rw [if_pos rfl,if_neg hf,if_pos h16])
   ·exact rd_made v s n K V kb _ w h hp hn (by omega) h16 (by unfold doS; rw [if_pos rfl,if_neg hf,if_neg h16])
 ·rcases find_some s n 0 with ⟨hf,_⟩ | ⟨k,t,hf,ht,_⟩
  ·exact rd_none v s kd n K V kb _ w h hp hn (by rw [hf]; decide) h5 (by unfold doS; rw [if_neg h5,if_pos (by rw [hf]; decide)])
  ·rw [Nat.zero_add] at hf
   by_cases h1 : kd = 1
   ·subst h1
    exact rd_get v s n K V kb _ w h hp hn k t hf ht (by unfold doS; rw [if_neg h5,hf,if_neg (by omega),Int.toNat_natCast,ht]; rfl)
   ·exact rd_chg v s kd n K V kb _ w h hp hn k t hf ht h1 h5 (by unfold doS; rw [if_neg h5,hf,if_neg (by omega),Int.toNat_natCast,ht]; simp only; rw [if_neg h1])
end Go.Proofs.YtgdabkpahmlkpaaGreatDoor
