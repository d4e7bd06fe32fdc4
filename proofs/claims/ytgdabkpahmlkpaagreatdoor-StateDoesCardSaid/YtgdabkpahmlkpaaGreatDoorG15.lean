/- Dr Dws Dwb Dt Dwt Tes Seo Sep Seq Ser Ses Set -/
import Derived.Test.YtgdabkpahmlkpaaGreatDoorG14
import Derived.Test.YtgdabkpahmlkpaaGreatDoorG1
import Derived.Deep.Slices
import Derived.Deep.Fields
import Derived.ChangeSame
import Derived.Lib.SmallJoins
import Derived.Test.YtgdabkpahmlkpaaGreatDoorG7
import Derived.Test.YtgdabkpahmlkpaaGreatDoorG6
import Derived.Test.YtgdabkpahmlkpaaGreatDoorG9
import Derived.Test.YtgdabkpahmlkpaaGreatDoorG2
import Derived.Test.YtgdabkpahmlkpaaGreatDoorG13
import Derived.Test.YtgdabkpahmlkpaaGreatDoorG11
import Derived.Deep.RegionWith
import Derived.Deep.RegionHeld3
import Derived.Test.YtgdabkpahmlkpaaGreatDoorG12
import Derived.Deep.Upon
set_option linter.unusedSimpArgs false
set_option linter.unusedVariables false
namespace Go.Proofs.YtgdabkpahmlkpaaGreatDoor
set_option linter.unusedSimpArgs false
open Go.ChangeShapes Go.WideShapes Go.ChangeAt Go.RowKit
set_option maxRecDepth 100000
open Go.ChangeMaps (open_string shut_string)
open Go.Deep
set_option linter.unusedVariables false

theorem one_int : Tryz.prog.cellsOf 3 = 1 := by kernel_rfl
theorem one_bool : Tryz.prog.cellsOf 4 = 1 := by kernel_rfl
theorem one_str : Tryz.prog.cellsOf 9 = 1 := by kernel_rfl
theorem one_rows : Tryz.prog.cellsOf 30 = 1 := by kernel_rfl
def FitsC (W : World) (v : Value) : Prop := ∃ (kd : Int) (n : ByteArray) (K V : Int) (kb : Bool),v = .agg #[.int .i64 kd,.string n,.int .i64 K,.int .i64 V,.bool kb] ∧ i64B kd ∧ i64B K ∧ i64B V ∧ n.size ≤ 140737488351232
theorem i64_of (x : Int) (h : (Lit.int .i64 x).wf = true) : i64B x := by
 unfold i64B
 simp [Lit.wf,IntKind.min,IntKind.max,IntKind.signed,IntKind.bits] at h
 omega
theorem openedC {H : Type} {enc : TypeId × Value → H} {W : World} {base : Nat} {v : Value} {d : DataW H} {p : List MemPlace} (hv : Value.okWide Tryz.prog W .any base 24 v)
  (h : DataW.Trod enc Tryz.prog W 0 (fun _ => true) true 24 v d p) (hz : (DataW.weights Tryz.prog 24 d).all (· ≤ reachBytes) = true) : FitsC W v := by
 obtain ⟨cs,rfl,hsz⟩ := okWide_struct Tryz.underlying24 hv
 rw [show Tryz.prog.cellsOf 24 = 5 by kernel_rfl] at hsz
 obtain ⟨cs⟩ := cs
 obtain ⟨fuel,hf⟩ := h
 obtain ⟨xs,n,_,hx,_,hxl,hat⟩ := DataW.trod_struct Tryz.underlying24 hf
 match cs,hsz with
 | [c0,c1,c2,c3,c4],_ =>
 match xs,hxl with
 | [y0,y1,y2,y3,y4],_ =>
 simp only [Prod.mk.injEq] at hx
 have h0 : DataW.trod enc Tryz.prog W 0 (fun _ => true) true n 3 (List.take (Tryz.prog.cellsOf 3) (List.drop 0 [c0,c1,c2,c3,c4])) = some y0 := hat 0 _ rfl
 have h1 : DataW.trod enc Tryz.prog W 0 (fun _ => true) true n 9 (List.take (Tryz.prog.cellsOf 9) (List.drop 1 [c0,c1,c2,c3,c4])) = some y1 := hat 1 _ rfl
 have h2 : DataW.trod enc Tryz.prog W 0 (fun _ => true) true n 3 (List.take (Tryz.prog.cellsOf 3) (List.drop 2 [c0,c1,c2,c3,c4])) = some y2 := hat 2 _ rfl
 have h3 : DataW.trod enc Tryz.prog W 0 (fun _ => true) true n 3 (List.take (Tryz.prog.cellsOf 3) (List.drop 3 [c0,c1,c2,c3,c4])) = some y3 := hat 3 _ rfl
 have h4 : DataW.trod enc Tryz.prog W 0 (fun _ => true) true n 4 (List.take (Tryz.prog.cellsOf 4) (List.drop 4 [c0,c1,c2,c3,c4])) = some y4 := hat 4 _ rfl
 have hW : ∀ k ∈ DataW.weights Tryz.prog 9 y1.1,k ≤ reachBytes := by
  intro k hk
  refine of_decide_eq_true (List.all_eq_true.1 hz k ?_)
  rw [hx.1]
  simp only [DataW.weights,Tryz.underlying24]
  exact DataW.weights_mem_each (j := 1) (t := 9) (d := y1.1) rfl rfl k hk
 clear hat hf hv hz
 rw [one_int] at h0 h2 h3
 rw [one_str] at h1
 rw [one_bool] at h4
 obtain ⟨x0,e0,_,w0⟩ := DataW.trod_int Tryz.underlying3 h0
 obtain ⟨x1,e1,d1,_⟩ := DataW.trod_string Tryz.underlying9 h1
 obtain ⟨x2,e2,_,w2⟩ := DataW.trod_int Tryz.underlying3 h2
 obtain ⟨x3,e3,_,w3⟩ := DataW.trod_int Tryz.underlying3 h3
 obtain ⟨x4,e4,_⟩ := DataW.trod_bool Tryz.underlying4 h4
 injection e0 with e0 _
 injection e1 with e1 _
 injection e2 with e2 _
 injection e3 with e3 _
 injection e4 with e4 _
 subst e0 e1 e2 e3 e4
 refine ⟨x0,x1,x2,x3,x4,rfl,i64_of _ w0,i64_of _ w2,i64_of _ w3,?_⟩
 have := hW x1.data.toList.length (by rw [d1]; simp [DataW.weights])
 rw [← Lib.size_eq] at this
 exact this
section
variable {H : Type} {enc : TypeId × Value → H} {W : World}
theorem one_row_of {n : Nat} {cs : List Value} {x : DataW H × List MemPlace} (ht : DataW.trod enc Tryz.prog W 0 (fun _ => true) true n 39 cs = some x) :
  ∃ r : Rw,cs[0]? = some (.int .i64 r.1) ∧ cs[1]? = some (.int .i64 r.2) := by
 obtain ⟨xs,m,_,hx,hl,hxl,hf⟩ := DataW.trod_struct Tryz.underlying39 ht
 match xs,hxl with
 | [y0,y1],_ =>
  have h0 : DataW.trod enc Tryz.prog W 0 (fun _ => true) true m 3 (List.take (Tryz.prog.cellsOf 3) (List.drop 0 cs)) = some y0 := hf 0 _ rfl
  have h1 : DataW.trod enc Tryz.prog W 0 (fun _ => true) true m 3 (List.take (Tryz.prog.cellsOf 3) (List.drop 1 cs)) = some y1 := hf 1 _ rfl
  rw [one_int] at h0 h1
  obtain ⟨x,e0,_,w0⟩ := DataW.trod_int Tryz.underlying3 h0
  obtain ⟨z,e1,_,w1⟩ := DataW.trod_int Tryz.underlying3 h1
  refine ⟨(x,z),?_,?_⟩
  ·have := congrArg (·[0]?) e0
   simpa using this
  ·have := congrArg (·[0]?) e1
   simpa using this
theorem spot_none {ad : Addr} {x : Value} (h : W.cell? ad = some x) : ad.spot = none := by
 unfold World.cell? at h
 cases hs : ad.spot with
 | none => rfl
 | some q => rw [hs] at h; revert h; split <;> simp
theorem slice2 {α : Type} {ts te : TypeId} {Q : α → Value → Value → Prop} (hu : Tryz.prog.underlying ts = some (.slice te)) (hC : Tryz.prog.cellsOf te = 2)
  (one : ∀ {n : Nat} {cs : List Value} {x : DataW H × List MemPlace},DataW.trod enc Tryz.prog W 0 (fun _ => true) true n te cs = some x → ∃ (a : α) (v0 v1 : Value),cs[0]? = some v0 ∧ cs[1]? = some v1 ∧ Q a v0 v1)
  {fuel : Nat} {c : Value} {x : DataW H × List MemPlace} (h : DataW.trod enc Tryz.prog W 0 (fun _ => true) true fuel ts [c] = some x) :
  c = .slice none 0 0 ∨ ∃ (l : List α) (ad : Addr) (cap : Nat),c = .slice (some ad) l.length cap ∧ l.length ≤ cap ∧ ∀ (i : Nat) (a : α),l[i]? = some a → ∃ v0 v1,W.cell? (ad.add (i * 2)) = some v0 ∧ W.cell? ((ad.add (i * 2)).add 1) = some v1 ∧ Q a v0 v1 := by
 rcases open_slice hu h with ⟨e,_⟩ | ⟨ad,len,cap,m,n,D,Pl,hcs,hb,hl,hm,hmm,hx,hi⟩
 ·injection e with e _
  exact .inl e
 ·injection hcs with hcs _
  subst hcs
  rw [hC] at hi
  have hlm : len ≤ m := by rw [hmm]; simp; exact hl
  have key : ∀ j,j ≤ len → ∃ l : List α,l.length = j ∧ ∀ (i : Nat) (a : α),l[i]? = some a → ∃ v0 v1,W.cell? (ad.add (i * 2)) = some v0 ∧ W.cell? ((ad.add (i * 2)).add 1) = some v1 ∧ Q a v0 v1 := by
   intro j
   induction j with
   | zero => intro _; exact ⟨[],rfl,fun i x hi => by simp at hi⟩
   | succ j ih =>
    intro hj
    obtain ⟨l,h1,h2⟩ := ih (by omega)
    obtain ⟨cs',hc,ht⟩ := hi j (by omega)
    obtain ⟨_,hcl,hat⟩ := World.cells?_some hc
    obtain ⟨a,v0,v1,e0,e1,hq⟩ := one ht
    refine ⟨l ++ [a],by simp [h1],fun i x hx' => ?_⟩
    by_cases hij : i < l.length
    ·rw [List.getElem?_append_left hij] at hx'
     exact h2 i x hx'
    ·have hlt := (List.getElem?_eq_some_iff.1 hx').1
     have hie : i = j := by simp at hlt; omega
     subst hie
     rw [List.getElem?_append_right (by omega),h1,Nat.sub_self] at hx'
     simp at hx'
     subst hx'
     have a0 := hat 0 (by omega)
     have a1 := hat 1 (by omega)
     rw [e0] at a0
     rw [e1] at a1
     exact ⟨v0,v1,by simpa [Addr.add] using a0,a1,hq⟩
  obtain ⟨l,h1,h2⟩ := key len (Nat.le_refl _)
  exact .inr ⟨l,ad,cap,by rw [h1],by omega,h2⟩
theorem slice2_at {α : Type} {Q : α → Value → Value → Prop} {l : List α} {ad : Addr} (h2 : ∀ (i : Nat) (a : α),l[i]? = some a → ∃ v0 v1,W.cell? (ad.add (i * 2)) = some v0 ∧ W.cell? ((ad.add (i * 2)).add 1) = some v1 ∧ Q a v0 v1) (h0 : l ≠ []) :
  ∃ g off,ad = ⟨g,off,none⟩ ∧ ∀ (i : Nat) (a : α),l[i]? = some a → ∃ v0 v1,W.cell? ⟨g,off + i * 2,none⟩ = some v0 ∧ W.cell? ⟨g,off + i * 2 + 1,none⟩ = some v1 ∧ Q a v0 v1 := by
 obtain ⟨x,hx0⟩ : ∃ x,l[0]? = some x := ⟨l[0]'(by cases l; exact absurd rfl h0; simp),List.getElem?_eq_getElem _⟩
 obtain ⟨v0,_,c0,_⟩ := h2 0 x hx0
 have e : ad.add (0 * 2) = ad := by simp [Addr.add]
 rw [e] at c0
 have hsp := spot_none c0
 obtain ⟨bl,of,sp⟩ := ad
 simp only at hsp
 subst hsp
 refine ⟨bl,of,rfl,fun i y hy => ?_⟩
 obtain ⟨w0,w1,d0,d1,hq⟩ := h2 i y hy
 rw [Addr.add_lit] at d0 d1
 rw [Addr.add_lit] at d1
 exact ⟨w0,w1,d0,d1,hq⟩
theorem rows_of {fuel : Nat} {c : Value} {x : DataW H × List MemPlace} (h : DataW.trod enc Tryz.prog W 0 (fun _ => true) true fuel 30 [c] = some x) : ∃ l : List Rw,RR W c l := by
 rcases slice2 (α := Rw) (Q := fun r v0 v1 => v0 = .int .i64 r.1 ∧ v1 = .int .i64 r.2) Tryz.underlying30 (by kernel_rfl) (fun ht => by
  obtain ⟨r,h0,h1⟩ := one_row_of ht
  exact ⟨r,_,_,h0,h1,rfl,rfl⟩) h with rfl | ⟨l,ad,cap,rfl,hc,h2⟩
 ·exact ⟨[],.inl ⟨_,_,rfl,rfl⟩⟩
 ·refine ⟨l,?_⟩
  by_cases h0 : l = []
  ·subst h0; exact .inl ⟨_,_,rfl,rfl⟩
  ·obtain ⟨g,off,rfl,h3⟩ := slice2_at h2 h0
   refine .inr ⟨g,off,cap,rfl,hc,fun i r hr => ?_⟩
   obtain ⟨v0,v1,d0,d1,rfl,rfl⟩ := h3 i r hr
   exact ⟨d0,d1⟩
theorem one_tab_of {n : Nat} {cs : List Value} {x : DataW H × List MemPlace} (ht : DataW.trod enc Tryz.prog W 0 (fun _ => true) true n 37 cs = some x) :
  ∃ (t : Tb) (v0 v1 : Value),cs[0]? = some v0 ∧ cs[1]? = some v1 ∧ v0 = .string t.1 ∧ RR W v1 t.2 := by
 obtain ⟨xs,m,_,hx,hl,hxl,hf⟩ := DataW.trod_struct Tryz.underlying37 ht
 rw [show Tryz.prog.cellsOf 37 = 2 by kernel_rfl] at hl
 match cs,hl with
 | [c0,c1],_ =>
 match xs,hxl with
 | [y0,y1],_ =>
  have h0 : DataW.trod enc Tryz.prog W 0 (fun _ => true) true m 9 (List.take (Tryz.prog.cellsOf 9) (List.drop 0 [c0,c1])) = some y0 := hf 0 _ rfl
  have h1 : DataW.trod enc Tryz.prog W 0 (fun _ => true) true m 30 (List.take (Tryz.prog.cellsOf 30) (List.drop 1 [c0,c1])) = some y1 := hf 1 _ rfl
  rw [one_str] at h0
  rw [one_rows] at h1
  obtain ⟨z,e0,_,_⟩ := DataW.trod_string Tryz.underlying9 h0
  injection e0 with e0 _
  obtain ⟨l,hr⟩ := rows_of h1
  exact ⟨(z,l),c0,c1,rfl,rfl,e0,hr⟩
end
def FitsS (W : World) (v : Value) : Prop := ∃ s : List Tb,SR W v s
theorem openedS {H : Type} {enc : TypeId × Value → H} {W : World} {base : Nat} {v : Value} {d : DataW H} {p : List MemPlace} (hv : Value.okWide Tryz.prog W .any base 22 v)
  (h : DataW.Trod enc Tryz.prog W 0 (fun _ => true) true 22 v d p) (hz : (DataW.weights Tryz.prog 22 d).all (· ≤ reachBytes) = true) : FitsS W v := by
 obtain ⟨a,ln,cp,rfl⟩ := okWide_slice Tryz.underlying22 hv
 obtain ⟨fuel,hf⟩ := h
 rcases slice2 (α := Tb) (Q := fun t v0 v1 => v0 = .string t.1 ∧ RR W v1 t.2) Tryz.underlying22 (by kernel_rfl) (fun ht => one_tab_of ht) hf with e | ⟨l,ad,cap,e,hc,h2⟩
 ·rw [e]; exact ⟨[],.inl ⟨_,_,rfl,rfl⟩⟩
 ·rw [e]
  refine ⟨l,?_⟩
  by_cases h0 : l = []
  ·subst h0; exact .inl ⟨_,_,rfl,rfl⟩
  ·obtain ⟨g,off,rfl,h3⟩ := slice2_at h2 h0
   refine .inr ⟨g,off,cap,rfl,hc,fun i r hr => ?_⟩
   obtain ⟨v0,v1,d0,d1,rfl,hr1⟩ := h3 i r hr
   exact ⟨d0,v1,d1,hr1⟩

theorem FS.srT {B : Nat} {w : World} {v : Value} {x : List Tv} {s : List Tb} (h : FS B w v x) (e : tbs x = s) : SR w v s := by
 subst e; exact h.sr

theorem bb_emp (T : Tx) (h : T ≠ []) : (bb T).toList.isEmpty = false := by
 rw [emp_iff,decide_eq_false_iff_not,bb_size]
 exact fun e => h (List.eq_nil_of_length_eq_zero e)

theorem go_iff {q : Nat → Bool} {f : Nat → Nat → Bool} (h0 : ∀ i,f 0 i = true) (h1 : ∀ n i,f (n + 1) i = (q i && f n (i + 1))) : ∀ n i,f n i = true ↔ ∀ j,i ≤ j → j < i + n → q j = true
 | 0,i => by
  constructor
  ·intro _ j h2 h3; omega
  ·intro _; exact h0 i
 | n + 1,i => by
  rw [h1,Bool.and_eq_true,go_iff h0 h1 n (i + 1)]
  constructor
  ·rintro ⟨a,b⟩ j h2 h3
   rcases Nat.lt_or_ge i j with h | h
   ·exact b j (by omega) (by omega)
   ·have : j = i := by omega
    subst this; exact a
  ·intro h
   exact ⟨h i (Nat.le_refl _) (by omega),fun j h2 h3 => h j (by omega) (by omega)⟩
theorem inN_iff (n : Int) : inN n = true ↔ inI n := by unfold inN inI; exact decide_eq_true_iff
theorem rows_iff (l : List Rw) : rowsOk l = true ↔ RowsP l := by
 unfold rowsOk
 rw [Bool.and_eq_true,decide_eq_true_iff,go_iff (f := rowsGo l) (q := rowAt l) (fun _ => rfl) (fun _ _ => rfl)]
 constructor
 ·rintro ⟨h1,h2⟩
  refine ⟨h1,?_,fun r hr => ?_⟩
  ·refine up_step (R := fun a b : Rw => a.1 < b.1) (fun a b c h3 h4 => Int.lt_trans h3 h4) fun i a b ha hb => ?_
   have hl := (List.getElem?_eq_some_iff.1 hb).1
   have := h2 (i + 1) (Nat.zero_le _) (by omega)
   unfold rowAt at this
   rw [hb] at this
   simp only [Nat.add_sub_cancel,ha,Bool.and_eq_true,Bool.or_eq_true,beq_iff_eq,decide_eq_true_eq] at this
   rcases this.1 with h | h
   ·omega
   ·exact h
  ·obtain ⟨i,hi⟩ := List.getElem?_of_mem hr
   have hl := (List.getElem?_eq_some_iff.1 hi).1
   have := h2 i (Nat.zero_le _) (by omega)
   unfold rowAt at this
   rw [hi] at this
   simp only [Bool.and_eq_true] at this
   exact ⟨(inN_iff _).1 this.2.1,(inN_iff _).1 this.2.2⟩
 ·intro h
  refine ⟨h.len,fun j _ hj => ?_⟩
  unfold rowAt
  rw [List.getElem?_eq_getElem (by omega)]
  have hi := h.ins _ (List.getElem_mem (by omega : j < l.length))
  simp only [Bool.and_eq_true,Bool.or_eq_true,beq_iff_eq]
  refine ⟨?_,(inN_iff _).2 hi.1,(inN_iff _).2 hi.2⟩
  by_cases h0 : j = 0
  ·exact .inl h0
  ·right
   rw [List.getElem?_eq_getElem (by omega : j - 1 < l.length)]
   exact decide_eq_true (h.up (j - 1) j _ _ (by omega) (List.getElem?_eq_getElem (by omega)) (List.getElem?_eq_getElem (by omega)))
theorem right_iff (s : List Tb) : rightL s = true ↔ StateP s := by
 unfold rightL
 rw [Bool.and_eq_true,decide_eq_true_iff,go_iff (f := tabsGo s) (q := tabAt s) (fun _ => rfl) (fun _ _ => rfl)]
 constructor
 ·rintro ⟨h1,h2⟩
  refine ⟨h1,?_,fun t ht => ?_⟩
  ·refine up_step (R := fun a b : Tb => a.1.data.toList < b.1.data.toList) (fun a b c h3 h4 => List.lt_trans h3 h4) fun i a b ha hb => ?_
   have hl := (List.getElem?_eq_some_iff.1 hb).1
   have := h2 (i + 1) (Nat.zero_le _) (by omega)
   unfold tabAt at this
   rw [hb] at this
   simp only [Nat.add_sub_cancel,ha,Bool.and_eq_true,Bool.or_eq_true,beq_iff_eq,decide_eq_true_eq,Lib.toList_data] at this
   rcases this.1 with h | h
   ·omega
   ·exact h
  ·obtain ⟨i,hi⟩ := List.getElem?_of_mem ht
   have hl := (List.getElem?_eq_some_iff.1 hi).1
   have := h2 i (Nat.zero_le _) (by omega)
   unfold tabAt at this
   rw [hi] at this
   simp only [Bool.and_eq_true,decide_eq_true_eq] at this
   exact ⟨by have := this.2.1; omega,this.2.2.1,(rows_iff _).1 this.2.2.2⟩
 ·intro h
  refine ⟨h.len,fun j _ hj => ?_⟩
  unfold tabAt
  rw [List.getElem?_eq_getElem (by omega)]
  have hi := h.each _ (List.getElem_mem (by omega : j < s.length))
  simp only [Bool.and_eq_true,Bool.or_eq_true,beq_iff_eq,decide_eq_true_eq]
  refine ⟨?_,by have := hi.1; omega,hi.2.1,(rows_iff _).2 hi.2.2⟩
  by_cases h0 : j = 0
  ·exact .inl h0
  ·right
   rw [List.getElem?_eq_getElem (by omega : j - 1 < s.length)]
   simp only [decide_eq_true_eq,Lib.toList_data]
   exact h.up (j - 1) j _ _ (by omega) (List.getElem?_eq_getElem (by omega)) (List.getElem?_eq_getElem (by omega))
theorem self_emp : selfB ⟨#[]⟩ = false := by kernel_rfl
theorem txt_facts {kd : Int} {n : ByteArray} {K V : Int} {kb : Bool} (h : textC (kd,n,K,V,kb) ≠ []) : (1 ≤ kd ∧ kd ≤ 5) ∧ (0 < n.size ∧ n.size ≤ 30) ∧ inI K ∧ inI V ∧ nameB n = true ∧ ((kd = 2 ∨ kd = 3) → kb = true) := by
 obtain ⟨q,hq,h1,h2,hok,_⟩ := text_some _ h
 obtain ⟨⟨p1,p2,p3⟩,_⟩ := ok_parts _ hok
 simp only at h1 h2 p1 p2 p3
 have hn := p1
 unfold nameB at hn
 simp only [Bool.and_eq_true,decide_eq_true_eq] at hn
 refine ⟨?_,⟨?_,hn.1.1.1⟩,(inN_iff _).1 p2,(inN_iff _).1 p3,p1,?_⟩
 ·simp only [formsP,List.mem_cons,List.not_mem_nil,or_false] at hq
  rcases hq with rfl | rfl | rfl | rfl | rfl | rfl | rfl <;> simp only at h1 <;> omega
 ·rcases Nat.eq_zero_or_pos n.size with h0 | h0
  ·have : n = ⟨#[]⟩ := is_empty n h0
   rw [this,self_emp] at hn
   exact absurd hn.1.1.2 (by decide)
  ·exact h0
 ·simp only [formsP,List.mem_cons,List.not_mem_nil,or_false] at hq
  rcases hq with rfl | rfl | rfl | rfl | rfl | rfl | rfl <;> simp only at h1 h2 <;> (intro h3; first | exact h2 | omega)

theorem light8b (v : Value) (s : List Tb) (b : Bool) (hb : lightS s = b) (w : World) (h : SR w v s) :
  Calls Tryz.prog 9 #[v] w fun e w' => e = .returned (.bool b) ∧ Below w.heap.size w w' := by
 refine (light8_any v s w h).mono ?_
 rintro e w' ⟨he,n,rfl⟩
 exact ⟨by rw [he,hb],belN _ _ _⟩
theorem right8b (v : Value) (s : List Tb) (b : Bool) (hb : rightL s = b) (w : World) (h : SR w v s) :
  Calls Tryz.prog 11 #[v] w fun e w' => e = .returned (.bool b) ∧ Below w.heap.size w w' := by
 have := right_any v s w h
 rw [hb] at this
 exact this


def SRT (w : World) (v : Value) (d : List Tx) : Prop :=
 (∃ A cap,v = .slice A 0 cap ∧ d = []) ∨
 ∃ h off cap,v = .slice (some ⟨h,off,none⟩) d.length cap ∧ d.length ≤ cap ∧ ∀ (i : Nat) (x : Tx),d[i]? = some x → w.cell? ⟨h,off + i,none⟩ = some (sV x)
theorem SRT.own {w : World} {B : Nat} {v : Value} {d : List Tx} (h : w.ownsRow B 9 1 v d.length (d.map sV)) : SRT w v d := by
 rcases h.2 with ⟨rfl,hz⟩ | ⟨g,cap,cur,rfl,hb,hh,hc,hm,hs,ht⟩
 ·exact .inl ⟨none,0,rfl,List.eq_nil_of_length_eq_zero hz⟩
 ·refine .inr ⟨g,0,cap,rfl,hc,fun i x hi => ?_⟩
  have := h.cells (g := g) rfl i (sV x) (by rw [List.getElem?_map,hi]; rfl)
  rw [Addr.add_lit,Nat.zero_add] at this
  rw [Nat.zero_add]; exact this
theorem SRT.at_ {w : World} {v : Value} {d : List Tx} (h : SRT w v d) : ∃ a cap,v = .slice a d.length cap ∧ (d.length = 0 ∨ ∃ g off,a = some ⟨g,off,none⟩ ∧ d.length ≤ cap ∧ ∀ k (hk : k < d.length),w.cell? ⟨g,off + k,none⟩ = some (sV d[k])) := by
 rcases h with ⟨A,cap,rfl,rfl⟩ | ⟨g,off,cap,rfl,hc,hx⟩
 ·exact ⟨_,_,rfl,.inl rfl⟩
 ·exact ⟨_,_,rfl,.inr ⟨g,off,rfl,hc,fun k hk => hx k d[k] (List.getElem?_eq_getElem hk)⟩⟩
set_option maxHeartbeats 1000000 in
theorem rssign_any (v : Value) (l : List Tok) (i : Nat) (s : ByteArray) (w : World) (h : TR w v l) (hl : l.length ≤ 1099511627776) :
  Calls Tryz.prog 153 #[v,.int .i64 (i : Int),.string s] w fun e w' => e = .returned (.bool (isTok 5 [s.toList] l i)) ∧ w' = w := by
 obtain ⟨a,cap,rfl,hx⟩ := tr_at h
 clear h
 by_cases hi : i < l.length
 ·rcases hx with h0 | ⟨g,off,rfl,hcap,hx⟩
  ·omega
  ·obtain ⟨x1,x2⟩ := hx i hi
   have l0 : (0 : Int) ≤ (i : Int) := by omega
   have l1 : (i : Int) < (l.length : Int) := by omega
   rw [isTok_in 5 [s.toList] hi,one_text]
   generalize l[i] = t at *
   obtain ⟨kd,tx,ta⟩ := t
   simp only at x1 x2 ⊢
   clear hx hi
   by_cases hk : kd = 5
   ·subst hk
    obtain ⟨c,hc⟩ : ∃ c,(tx.toList == s.toList) = c := ⟨_,rfl⟩
    rw [hc]
    go_enter Tryz.func153,Tryz.ntmps153
    go_wp2
    go_ret
    exact ⟨rfl,rfl⟩
   ·have hk2 : (kd == (5 : Int)) = false := by rw [beq_eq_false_iff_ne]; exact hk
    rw [hk2]
    clear hk
    go_enter Tryz.func153,Tryz.ntmps153
    go_wp2
    go_ret
    exact ⟨rfl,rfl⟩
 ·have l1 : ¬ ((i : Int) < (l.length : Int)) := by omega
  rw [isTok_out 5 _ hi]
  clear hx hi
  go_enter Tryz.func153,Tryz.ntmps153
  go_wp2
  go_ret
  exact ⟨rfl,rfl⟩
set_option maxHeartbeats 1000000 in
theorem rword_any (v : Value) (l : List Tok) (i : Nat) (s : ByteArray) (w : World) (h : TR w v l) (hl : l.length ≤ 1099511627776) :
  Calls Tryz.prog 121 #[v,.int .i64 (i : Int),.string s] w fun e w' => e = .returned (.bool (isTok 1 [s.toList] l i)) ∧ w' = w := by
 obtain ⟨a,cap,rfl,hx⟩ := tr_at h
 clear h
 have l0 : (0 : Int) ≤ (i : Int) := by omega
 by_cases hi : i < l.length
 ·rcases hx with h0 | ⟨g,off,rfl,hcap,hx⟩
  ·omega
  ·obtain ⟨x1,x2⟩ := hx i hi
   have l1 : (i : Int) < (l.length : Int) := by omega
   rw [isTok_in 1 [s.toList] hi,one_text]
   generalize l[i] = t at *
   obtain ⟨kd,tx,ta⟩ := t
   simp only at x1 x2 ⊢
   clear hx hi
   by_cases hk : kd = 1
   ·subst hk
    obtain ⟨c,hc⟩ : ∃ c,(tx.toList == s.toList) = c := ⟨_,rfl⟩
    rw [hc]
    go_enter Tryz.func121,Tryz.ntmps121
    go_wp2
    go_ret
    exact ⟨rfl,rfl⟩
   ·have hk2 : (kd == (1 : Int)) = false := by rw [beq_eq_false_iff_ne]; exact hk
    rw [hk2]
    clear hk
    go_enter Tryz.func121,Tryz.ntmps121
    go_wp2
    go_ret
    exact ⟨rfl,rfl⟩
 ·have l1 : ¬ ((i : Int) < (l.length : Int)) := by omega
  rw [isTok_out 1 _ hi]
  clear hx hi
  go_enter Tryz.func121,Tryz.ntmps121
  go_wp2
  go_ret
  exact ⟨rfl,rfl⟩
theorem rword_neg (v s : Value) (w : World) :
  Calls Tryz.prog 121 #[v,.int .i64 (-1),s] w fun e w' => e = .returned (.bool false) ∧ w' = w := by
 go_enter Tryz.func121,Tryz.ntmps121
 go_wp2
 go_ret
 exact ⟨rfl,rfl⟩
theorem drop_contains {d : List Tx} {k : Nat} (hk : k < d.length) (x : Tx) : (d.drop k).contains x = (x == d[k] || (d.drop (k + 1)).contains x) := by
 rw [List.drop_eq_getElem_cons hk,List.contains_cons]
set_option maxHeartbeats 1000000 in
theorem rin_any (v : Value) (d : List Tx) (s : ByteArray) (w : World) (h : SRT w v d) (hl : d.length ≤ 1000000000000) :
  Calls Tryz.prog 150 #[v,.string s] w fun e w' => e = .returned (.bool (d.contains s.toList)) ∧ w' = w := by
 obtain ⟨a,cap,rfl,hx⟩ := h.at_
 obtain ⟨R,hR⟩ : ∃ R,d.contains s.toList = R := ⟨_,rfl⟩
 rw [hR]
 have HR := Lib.hid hR
 have HX := Lib.hid hx
 clear h hR hx
 go_enter Tryz.func150,Tryz.ntmps150
 go_wp2
 go_loopg [5] d.length (fun g u5 wx => ∃ k : Nat,u5 = .int .i64 (k : Int) ∧ k + g = d.length ∧ R = (d.drop k).contains s.toList ∧ wx = w)
 case atStart => exact ⟨0,rfl,by omega,by rw [List.drop_zero]; exact HR.out.symm,rfl⟩
 case round =>
  obtain ⟨k,rfl,hk,hv,rfl⟩ := hrel
  cases gk with
  | zero =>
   have hkl : k = d.length := by omega
   have hv2 : R = false := by rw [hv,hkl,List.drop_length]; rfl
   have l1 : ¬ ((k : Int) < (d.length : Int)) := by omega
   clear hv HX HR
   subst hv2
   go_wp2
   go_ret
   exact ⟨rfl,rfl⟩
  | succ g =>
   have hlt : k < d.length := by omega
   rcases HX.out with h0 | ⟨b,off,rfl,hcap,hx⟩
   ·omega
   ·have c1 := hx k hlt
    rw [drop_contains hlt] at hv
    have l0 : (0 : Int) ≤ (k : Int) := by omega
    have l1 : (k : Int) < (d.length : Int) := by omega
    obtain ⟨t,ht⟩ : ∃ t : ByteArray,(⟨d[k].toArray⟩ : ByteArray) = t := ⟨_,rfl⟩
    have htl : t.toList = d[k] := by rw [← ht,bytes_of]
    rw [← htl] at hv
    unfold sV at c1
    rw [ht] at c1
    obtain ⟨k1,hk1⟩ : ∃ k1,k + 1 = k1 := ⟨_,rfl⟩
    have wk : IntKind.i64.wrap ((k : Int) + 1) = (k1 : Int) := by rw [show (k : Int) + 1 = (k1 : Int) by omega]; exact wrap_nat (by omega)
    rw [hk1] at hv
    have hcm : (s.toList == t.toList) = (t.toList == s.toList) := by rw [Bool.eq_iff_iff,beq_iff_eq,beq_iff_eq]; exact ⟨Eq.symm,Eq.symm⟩
    rw [hcm] at hv
    have HK1 := Lib.hid hk1
    clear hx HX ht htl hk1 HR hcm
    obtain ⟨c,hc⟩ : ∃ c,(t.toList == s.toList) = c := ⟨_,rfl⟩
    rw [hc] at hv
    cases c
    ·have HV := Lib.hid hv
     clear hv
     go_wp2
     go_roundg g
     case measure => exact Nat.lt_succ_self _
     case rel => exact ⟨k1,rfl,by have := HK1.out; omega,by rw [HV.out,Bool.false_or],rfl⟩
    ·rw [Bool.true_or] at hv
     subst hv
     go_wp2
     go_ret
     exact ⟨rfl,rfl⟩

theorem new_texts (w : World) (d : List Tx) (e : TypeId) : SRT (w.alloc (.cells (d.map sV).toArray e)) (.slice (some ⟨w.heap.size,0,none⟩) d.length d.length) d := by
 refine .inr ⟨w.heap.size,0,d.length,rfl,Nat.le_refl _,fun i x hi => ?_⟩
 have hb : (w.alloc (.cells (d.map sV).toArray e)).heap[w.heap.size]? = some (.cells (d.map sV).toArray e) := by show (w.heap.push _)[w.heap.size]? = _; simp
 rw [World.cell?,hb]
 simp [hi]
theorem rkeys_any (w : World) : Calls Tryz.prog 191 #[] w fun e w' => ∃ v,e = .returned v ∧ SRT w' v keysL ∧ Below w.heap.size w w' := by
 go_enter Tryz.func191,Tryz.ntmps191
 go_wp2
 go_ret
 exact ⟨_,rfl,new_texts w keysL _,below_new _ _⟩
set_option maxHeartbeats 2000000 in
theorem rpart_any (v : Value) (l : List Tok) (i : Nat) (w : World) (h : TR w v l) (hl : l.length ≤ 1000000) :
  Calls Tryz.prog 152 #[v,.int .i64 (i : Int)] w fun e w' => e = .returned (.bool (partB l i)) ∧ Below w.heap.size w w' := by
 obtain ⟨a,cap,rfl,hx⟩ := tr_at h
 clear h
 have l0 : (0 : Int) ≤ (i : Int) := by omega
 by_cases hi : i < l.length
 ·rcases hx with h0 | ⟨g,off,rfl,hcap,hx⟩
  ·omega
  ·obtain ⟨x1,x2⟩ := hx i hi
   have l1 : (i : Int) < (l.length : Int) := by omega
   rw [partB_in hi]
   generalize l[i] = t at *
   obtain ⟨kd,tx,ta⟩ := t
   simp only at x1 x2 ⊢
   clear hx hi
   by_cases h2 : kd = 2
   ·subst h2
    go_enter Tryz.func152,Tryz.ntmps152
    go_wp2
    go_quiet (fail)
    go_wp2
    go_ret
    exact ⟨rfl,rfl,rfl,rfl,Nat.le_refl _,fun _ _ => rfl⟩
   ·have k2 : (kd == (2 : Int)) = false := by rw [beq_eq_false_iff_ne]; exact h2
    rw [k2]
    by_cases h1 : kd = 1
    ·subst h1
     clear h2 k2
     rw [Bool.false_or,show ((1 : Int) == 1) = true from rfl,Bool.true_and]
     obtain ⟨c,hc⟩ : ∃ c,keysL.contains tx.toList = c := ⟨_,rfl⟩
     have hin := fun vk W hk => rin_any vk keysL tx W hk (by decide)
     simp only [hc] at hin
     rw [hc]
     clear hc
     go_enter Tryz.func152,Tryz.ntmps152
     go_wp2
     refine wp_region_held_drew (S := (fun w' : World => w'.cell? ⟨g,off + i * 3,none⟩ = some (.int .i64 1) ∧ w'.cell? ⟨g,off + i * 3 + 1,none⟩ = some (.string tx) ∧ Below w.heap.size w w')) (by kernel_rfl) ?_ (fun hS => ?_)
     ·exact ⟨x1,x2,⟨rfl,rfl,rfl,Nat.le_refl _,fun _ _ => rfl⟩⟩
     try dsimp only at hS
     refine tkY 0 ?_ rfl hS ?_ ?_;rotate_left
     ·intro wz hSz;go_simp;all_goals with_reducible rfl
     (try simp only [Act.put,pu]);refine tkY 1 ?_ rfl hS ?_ ?_;rotate_left
     ·intro wz hSz;go_simp;all_goals with_reducible rfl
     (try simp only [Act.put,pu]);refine tkY 2 ?_ rfl hS ?_ ?_;rotate_left
     ·intro wz hSz;go_simp;all_goals with_reducible rfl
     (try simp only [Act.put,pu]);refine tkY 3 ?_ rfl hS ?_ ?_;rotate_left
     ·intro wz hSz;go_simp;all_goals with_reducible rfl
     (try simp only [Act.put,pu]);refine tkY 4 ?_ rfl hS ?_ ?_;rotate_left
     ·intro wz hSz;go_simp;all_goals with_reducible rfl
     (try simp only [Act.put,pu]);refine tkY 5 ?_ rfl hS ?_ ?_;rotate_left
     ·intro wz hSz;go_simp;all_goals with_reducible rfl
     (try simp only [Act.put,pu]);refine tkY 6 ?_ rfl hS ?_ ?_;rotate_left
     ·intro wz hSz;go_simp;all_goals with_reducible rfl
     (try simp only [Act.put,pu]);refine tkY 7 ?_ rfl hS ?_ ?_;rotate_left
     ·intro wz hSz;go_simp;all_goals with_reducible rfl
     (try simp only [Act.put,pu]);refine tkY 8 ?_ rfl hS ?_ ?_;rotate_left
     ·intro wz hSz;go_simp;all_goals with_reducible rfl
     (try simp only [Act.put,pu]);refine tkY 9 ?_ rfl hS ?_ ?_;rotate_left
     ·intro wz hSz;go_simp;all_goals with_reducible rfl
     (try simp only [Act.put,pu]);refine tkY 10 ?_ rfl hS ?_ ?_;rotate_left
     ·intro wz hSz;go_simp;all_goals with_reducible rfl
     (try simp only [Act.put,pu]);refine tkY 11 ?_ rfl hS ?_ ?_;rotate_left
     ·intro wz hSz;go_simp;all_goals with_reducible rfl
     (try simp only [Act.put,pu]);refine tkY 12 ?_ rfl hS ?_ ?_;rotate_left
     ·intro wz hSz;go_simp;all_goals with_reducible rfl
     (try simp only [Act.put,pu]);refine tkY 13 ?_ rfl hS ?_ ?_;rotate_left
     ·intro wz hSz;go_simp;all_goals with_reducible rfl
     (try simp only [Act.put,pu]);refine tkY 14 ?_ rfl hS ?_ ?_;rotate_left
     ·intro wz hSz;go_simp;all_goals with_reducible rfl
     (try simp only [Act.put,pu]);refine tkY 15 ?_ rfl hS ?_ ?_;rotate_left
     ·intro wz hSz;go_simp;all_goals with_reducible rfl
     (try simp only [Act.put,pu]);refine tkY 16 ?_ rfl hS ?_ ?_;rotate_left
     ·intro wz hSz;go_simp;all_goals with_reducible rfl
     (try simp only [Act.put,pu]);refine tkY 17 ?_ rfl hS ?_ ?_;rotate_left
     ·intro wz hSz;go_simp;all_goals with_reducible rfl
     (try simp only [Act.put,pu]);refine tkY 18 ?_ rfl hS ?_ ?_;rotate_left
     ·intro wz hSz;go_simp;all_goals with_reducible rfl
     (try simp only [Act.put,pu]);refine tkY 20 ?_ rfl hS ?_ ?_;rotate_left
     ·intro wz hSz;go_simp;all_goals with_reducible rfl
     (try simp only [Act.put,pu]);refine tkY 21 ?_ rfl hS ?_ ?_;rotate_left
     ·intro wz hSz;go_simp;all_goals with_reducible rfl
     (try simp only [Act.put,pu]);refine tkY 22 ?_ rfl hS ?_ ?_;rotate_left
     ·intro wz hSz;go_simp;all_goals with_reducible rfl
     (try simp only [Act.put,pu]);refine tkY 23 ?_ rfl hS ?_ ?_;rotate_left
     ·intro wz hSz;go_simp;all_goals with_reducible rfl
     (try simp only [Act.put,pu]);refine tkY 24 ?_ rfl hS ?_ ?_;rotate_left
     ·intro wz hSz;go_simp;all_goals with_reducible rfl
     try simp only [Act.put,pu]
     refine wpAnyH_ready (rs := [19]) (by kernel_rfl) (by simp) (AllReadyH.cons rfl (fun K hK => ?_) AllReadyH.nil)
     go_simp
     go_at_call 191; refine (rkeys_any _).mono ?_; rintro e w2 ⟨vk,rfl,hk2,hb2⟩
     refine hK.out _ _ ?_ (fun hSn => ?_)
     ·exact ⟨(hb2.cell (World.block_lt_of_cell? _ _ hS.1)).trans hS.1,(hb2.cell (World.block_lt_of_cell? _ _ hS.2.1)).trans hS.2.1,hS.2.2.trans (hb2.mono hS.2.2.size)⟩
     clear hK K hS
     have hS := hSn
     clear hSn
     try dsimp only at hS
     try simp only [Act.put,pu]
     refine wpAnyH_ready (rs := [25]) (by kernel_rfl) (by simp) (AllReadyH.cons rfl (fun K hK => ?_) AllReadyH.nil)
     go_simp
     go_at_call 150; refine (hin vk _ hk2).mono ?_; rintro e w3 ⟨rfl,rfl⟩
     refine hK.out _ _ ?_ (fun hSn => ?_)
     ·exact hS
     clear hK K hS
     have hS := hSn
     clear hSn
     try dsimp only at hS
     (try simp only [Act.put,pu]);refine tkY 26 ?_ rfl hS ?_ ?_;rotate_left
     ·intro wz hSz;go_simp;all_goals with_reducible rfl
     (try simp only [Act.put,pu]);refine tkY 27 ?_ rfl hS ?_ ?_;rotate_left
     ·intro wz hSz;go_simp;all_goals with_reducible rfl
     (try simp only [Act.put,pu]);refine tkY 28 ?_ rfl hS ?_ ?_;rotate_left
     ·intro wz hSz;go_simp;all_goals with_reducible rfl
     (try simp only [Act.put,pu]);refine tkY 29 ?_ rfl hS ?_ ?_;rotate_left
     ·intro wz hSz;go_simp;all_goals with_reducible rfl
     (try simp only [Act.put,pu]);refine tkY 30 ?_ rfl hS ?_ ?_;rotate_left
     ·intro wz hSz;go_simp;all_goals with_reducible rfl
     try simp only [Act.put,pu]
     refine wpAnyH_done (by kernel_rfl) ?_ _
     go_wp2
     go_ret
     exact ⟨rfl,hS.2.2⟩
    ·have k1 : (kd == (1 : Int)) = false := by rw [beq_eq_false_iff_ne]; exact h1
     rw [k1]
     clear h1 h2
     go_enter Tryz.func152,Tryz.ntmps152
     go_wp2
     go_quiet (fail)
     go_wp2
     go_ret
     exact ⟨rfl,rfl,rfl,rfl,Nat.le_refl _,fun _ _ => rfl⟩
 ·have l1 : ¬ ((i : Int) < (l.length : Int)) := by omega
  have ld : decide (i < l.length) = false := by rw [decide_eq_false_iff_not]; exact hi
  rw [partB_out hi]
  clear hx hi
  go_enter Tryz.func152,Tryz.ntmps152
  go_wp2
  go_quiet (fail)
  go_wp2
  go_ret
  exact ⟨rfl,rfl,rfl,rfl,Nat.le_refl _,fun _ _ => rfl⟩

def NameP (l : List Tok) (i : Nat) (w : World) (e : Ending) (w' : World) : Prop :=
 (∃ s : ByteArray,e = .returned (.tuple #[.string s,.int .i64 ((i + nameW l i : Nat) : Int)]) ∧ (nameW l i ≠ 0 → s.toList = nameX l i)) ∧ Below w.heap.size w w'
set_option maxHeartbeats 2000000 in
theorem rname_any (v : Value) (l : List Tok) (i : Nat) (w : World) (h : TR w v l) (hl : l.length ≤ 1000000) (hi : i ≤ 1000000) (hz : ∀ t ∈ l,t.2.1.size ≤ 1000000000) :
  Calls Tryz.prog 151 #[v,.int .i64 (i : Int)] w (NameP l i w) := by
 have hp1 : ∀ W,Below w.heap.size w W → Calls Tryz.prog 152 #[v,.int .i64 (i : Int)] W fun e w' => e = .returned (.bool (partB l i)) ∧ Below w.heap.size w w' := fun W hW =>
  (rpart_any v l i W (h.below hW) hl).mono fun e w' h2 => ⟨h2.1,hW.trans (h2.2.mono hW.size)⟩
 obtain ⟨i1,hi1⟩ : ∃ i1,i + 1 = i1 := ⟨_,rfl⟩
 obtain ⟨i2,hi2⟩ : ∃ i2,i + 2 = i2 := ⟨_,rfl⟩
 obtain ⟨i3,hi3⟩ : ∃ i3,i + 3 = i3 := ⟨_,rfl⟩
 have hp2 : ∀ W,Below w.heap.size w W → Calls Tryz.prog 152 #[v,.int .i64 (i2 : Int)] W fun e w' => e = .returned (.bool (partB l i2)) ∧ Below w.heap.size w w' := fun W hW =>
  (rpart_any v l i2 W (h.below hW) hl).mono fun e w' h2 => ⟨h2.1,hW.trans (h2.2.mono hW.size)⟩
 have hs1 : ∀ W,Below w.heap.size w W → Calls Tryz.prog 153 #[v,.int .i64 (i1 : Int),.string ⟨#[46]⟩] W fun e w' => e = .returned (.bool (isTok 5 [[46]] l i1)) ∧ w' = W := fun W hW => by
  have := rssign_any v l i1 ⟨#[46]⟩ W (h.below hW) (by omega)
  rwa [show [(⟨#[46]⟩ : ByteArray).toList] = [[46]] by rw [Lib.toList_data]] at this
 have w1 : IntKind.i64.wrap ((i : Int) + 1) = (i1 : Int) := by rw [show (i : Int) + 1 = (i1 : Int) by omega]; exact wrap_nat (by omega)
 have w2 : IntKind.i64.wrap ((i : Int) + 2) = (i2 : Int) := by rw [show (i : Int) + 2 = (i2 : Int) by omega]; exact wrap_nat (by omega)
 have w3 : IntKind.i64.wrap ((i : Int) + 3) = (i3 : Int) := by rw [show (i : Int) + 3 = (i3 : Int) by omega]; exact wrap_nat (by omega)
 have hn : nameW l i = if partB l i = false then 0 else if (isTok 5 [[46]] l i1 && partB l i2) = true then 3 else 1 := by rw [← hi1,← hi2]; rfl
 have hx : nameX l i = if nameW l i = 3 then txtAt l i ++ [46] ++ txtAt l i2 else txtAt l i := by rw [← hi2]; rfl
 have hpi : partB l i = true → i < l.length := partB_lt
 have hpi2 : partB l i2 = true → i2 < l.length := partB_lt
 obtain ⟨a,cap,rfl,hcx⟩ := tr_at h
 have htx : ∀ k (hk : k < l.length),l[k].2.1.toList = txtAt l k := fun k hk => by unfold txtAt; rw [List.getElem?_eq_getElem hk]
 have hzz : ∀ k (hk : k < l.length),l[k].2.1.size ≤ 1000000000 := fun k hk => hz _ (List.getElem_mem hk)
 have hcell : ∀ k,k < l.length → ∃ s : ByteArray,s.toList = txtAt l k ∧ s.size ≤ 1000000000 ∧ ∃ g off,a = some ⟨g,off,none⟩ ∧ l.length ≤ cap ∧ ∀ W,Below w.heap.size w W → W.cell? ⟨g,off + k * 3 + 1,none⟩ = some (.string s) := fun k hk => by
  rcases hcx with h0 | ⟨g,off,e,hc,hx⟩
  ·omega
  ·refine ⟨_,htx k hk,hzz k hk,g,off,e,hc,fun W hW => ?_⟩
   have := (hx k hk).2
   exact (hW.cell (World.block_lt_of_cell? _ _ this)).trans this
 have HP1 := Lib.hid hp1
 have HP2 := Lib.hid hp2
 have HS1 := Lib.hid hs1
 have HCELL := Lib.hid hcell
 have HX := Lib.hid hx
 have HN := Lib.hid hn
 have H1 := Lib.hid (And.intro hi1 (And.intro hi2 hi3))
 have HPI := Lib.hid hpi
 have HPI2 := Lib.hid hpi2
 clear hp1 hp2 hs1 hcell hx hn hi1 hi2 hi3 hpi hpi2 htx hzz hcx h hz
 generalize partB l i = p at *
 generalize isTok 5 [[46]] l i1 = q at *
 generalize partB l i2 = r at *
 have l0 : (0 : Int) ≤ (i : Int) := by omega
 cases p
 ·have e0 : nameW l i = 0 := by rw [HN.out]; rfl
  unfold NameP
  rw [e0,Nat.add_zero]
  clear HX HN HPI
  go_enter Tryz.func151,Tryz.ntmps151
  go_wp2_with (go_at_call 152; (with_reducible refine (HP1.out _ (Below.refl _ _)).mono ?_); rintro e w4 ⟨rfl,hb4⟩)
  go_ret2
  exact ⟨⟨_,rfl,fun h => absurd rfl h⟩,hb4⟩
 ·obtain ⟨s,hs,hsz,g,off,rfl,hcap,hc⟩ := HCELL.out i (HPI.out rfl)
  have hil := HPI.out rfl
  have l1 : (i : Int) < (l.length : Int) := by omega
  have HC := Lib.hid hc
  have HSS := Lib.hid hs
  clear hc hs hil HPI
  cases q
  ·have e1 : nameW l i = 1 := by rw [HN.out]; rfl
   have ex : nameX l i = txtAt l i := by rw [HX.out,e1,if_neg (by decide)]
   unfold NameP
   rw [e1,ex]
   have ei : i + 1 = i1 := H1.out.1
   rw [ei]
   have HEI := Lib.hid ei
   clear HX HN HP2 HPI2 HCELL ei e1 ex H1
   go_enter Tryz.func151,Tryz.ntmps151
   go_wp2_with (first
    | (go_at_call 152; (with_reducible refine (HP1.out _ (Below.refl _ _)).mono ?_); rintro e w4 ⟨rfl,hb4⟩; have HB4 := Lib.hid hb4; have c4 := HC.out _ hb4; clear hb4)
    | (go_at_call 153; (with_reducible refine (HS1.out _ HB4.out).mono ?_); rintro e w5 ⟨rfl,rfl⟩))
   go_ret2
   exact ⟨⟨_,rfl,fun _ => HSS.out⟩,HB4.out⟩
  ·cases r
   ·have e1 : nameW l i = 1 := by rw [HN.out]; rfl
    have ex : nameX l i = txtAt l i := by rw [HX.out,e1,if_neg (by decide)]
    unfold NameP
    rw [e1,ex]
    have ei : i + 1 = i1 := H1.out.1
    rw [ei]
    have HEI := Lib.hid ei
    clear HX HN HPI2 HCELL ei e1 ex H1
    go_enter Tryz.func151,Tryz.ntmps151
    go_wp2_with (first
     | (go_at_call 152; (with_reducible refine (HP1.out _ (Below.refl _ _)).mono ?_); rintro e w4 ⟨rfl,hb4⟩; have HB4 := Lib.hid hb4; clear hb4)
     | (go_at_call 152; (with_reducible refine (HP2.out _ HB4.out).mono ?_); rintro e w6 ⟨rfl,hb6⟩; have HB6 := Lib.hid hb6; have c6 := HC.out _ hb6; clear hb6)
     | (go_at_call 153; (with_reducible refine (HS1.out _ HB4.out).mono ?_); rintro e w5 ⟨rfl,rfl⟩))
    go_ret2
    exact ⟨⟨_,rfl,fun _ => HSS.out⟩,HB6.out⟩
   ·have e1 : nameW l i = 3 := by rw [HN.out]; rfl
    have ex : nameX l i = txtAt l i ++ [46] ++ txtAt l i2 := by rw [HX.out,e1,if_pos rfl]
    obtain ⟨s2,hs2,hsz2,g2,off2,eg,_,hc2⟩ := HCELL.out i2 (HPI2.out rfl)
    injection eg with eg
    injection eg with eg1 eg2
    subst eg1 eg2
    have hil2 := HPI2.out rfl
    have l2 : (i2 : Int) < (l.length : Int) := by omega
    have l3 : (0 : Int) ≤ (i2 : Int) := by omega
    unfold NameP
    rw [e1,ex]
    have ei : i + 3 = i3 := H1.out.2.2
    rw [ei]
    have HC2 := Lib.hid hc2
    have HSS2 := Lib.hid hs2
    clear HX HN HPI2 HCELL ei e1 ex H1 hc2 hs2 hil2
    go_enter Tryz.func151,Tryz.ntmps151
    go_wp2_with (first
     | (go_at_call 152; (with_reducible refine (HP1.out _ (Below.refl _ _)).mono ?_); rintro e w4 ⟨rfl,hb4⟩; have HB4 := Lib.hid hb4; clear hb4)
     | (go_at_call 152; (with_reducible refine (HP2.out _ HB4.out).mono ?_); rintro e w6 ⟨rfl,hb6⟩; have HB6 := Lib.hid hb6; have c6 := HC.out _ hb6; have c7 := HC2.out _ hb6; clear hb6)
     | (go_at_call 153; (with_reducible refine (HS1.out _ HB4.out).mono ?_); rintro e w5 ⟨rfl,rfl⟩))
    go_quiet (fail)
    go_wp2
    go_ret2
    refine ⟨⟨_,rfl,fun _ => ?_⟩,HB6.out.trans ⟨rfl,rfl,rfl,Nat.le_refl _,fun _ _ => rfl⟩⟩
    simp only [Lib.toList_data,ByteArray.data_append,Array.toList_append] at *
    rw [← HSS.out,← HSS2.out]

structure NJ (w : World) (B : Nat) (d : List Tx) (vo : Value) (W : World) : Prop where
 bel : Below w.heap.size w W
 own : W.ownsRow B 9 1 vo d.length (d.map sV)
theorem NJ.step {w W W2 : World} {B : Nat} {d : List Tx} {vo : Value} (h : NJ w B d vo W) (b : Below W.heap.size W W2) : NJ w B d vo W2 := ⟨h.bel.trans (b.mono h.bel.size),ownsRow_below h.own b⟩
theorem NJ.form {w W : World} {B : Nat} {d : List Tx} {vo : Value} (h : NJ w B d vo W) : ∃ a cap,vo = .slice a d.length cap := by
 rcases h.own.2 with ⟨rfl,hz⟩ | ⟨g,cap,cur,rfl,_⟩
 ·exact ⟨none,0,by rw [hz]⟩
 ·exact ⟨_,_,rfl⟩
theorem NJ.push {w W W1 : World} {B g cap : Nat} {d : List Tx} {s : ByteArray} {vs : Value} {x : Tx} (h : NJ w B d vs W) (hB : w.heap.size ≤ B) (hs : s.toList = x)
  (hown : W1.ownsRow B 9 1 (.slice (some ⟨g,0,none⟩) (d.length + 1) cap) (d.length + 1) (d.map sV ++ [.string s])) (hg : W.grownBy W1 vs.ownBlock) :
  NJ w B (d ++ [x]) (.slice (some ⟨g,0,none⟩) (d.length + 1) cap) W1 := by
 refine ⟨h.bel.grown hg h.bel.size fun k hk => Nat.le_trans hB (World.ownsRow.lt h.own k hk).1,?_⟩
 have e1 : (d ++ [x]).map sV = d.map sV ++ [.string s] := by
  rw [List.map_append,List.map_cons,List.map_nil]
  have : (⟨x.toArray⟩ : ByteArray) = s := bytes_inj (by rw [bytes_of,hs])
  rw [← this]
 rw [List.length_append,List.length_singleton,e1]
 exact hown
theorem tok_two (l : List Tok) (i : Nat) (x y : Tx) : isTok 1 [x,y] l i = (isTok 1 [x] l i || isTok 1 [y] l i) := by
 unfold isTok
 split
 ·simp only [List.contains_cons,List.contains_nil,Bool.or_false,Bool.and_or_distrib_left]
 ·rfl
def FromP (w : World) (R : List Tx) (e : Ending) (w' : World) : Prop := ∃ vo,e = .returned vo ∧ NJ w w.heap.size R vo w'
set_option maxHeartbeats 8000000 in
theorem rfrom_any (v : Value) (l : List Tok) (i : Nat) (w : World) (h : TR w v l) (hl : l.length ≤ 900000) (hi : i ≤ l.length) (hz : ∀ t ∈ l,t.2.1.size ≤ 1000000000) :
  Calls Tryz.prog 123 #[v,.int .i64 (i : Int)] w (FromP w ((fromL l i).map (·.1))) := by
 obtain ⟨R,hR⟩ : ∃ R,(fromL l i).map (·.1) = R := ⟨_,rfl⟩
 rw [hR]
 obtain ⟨i0,hi0,hz0,hz1,hz2⟩ := info_parts info9
 have HH := Lib.hid h
 have HZ := Lib.hid hz
 have HR := Lib.hid hR
 have HS := Lib.hid (NJ.mk (Below.refl w.heap.size w) (World.ownsRow_nil w w.heap.size 9 1) : NJ w w.heap.size [] (.slice none 0 0) w)
 clear h hz hR
 go_enter Tryz.func123,Tryz.ntmps123
 go_wp2
 go_loopg [1,5] (l.length + 1) (fun g u1 u5 wx => ∃ (k : Nat) (d : List Tx),u1 = .int .i64 (k : Int) ∧ k ≤ l.length ∧ l.length - k + 1 ≤ g ∧ NJ w w.heap.size d u5 wx ∧ d.length + (l.length - k) ≤ l.length ∧ R = d ++ (fromL l k).map (·.1))
 case atStart => exact ⟨i,[],rfl,hi,by omega,HS.out,by simp,by rw [List.nil_append]; exact HR.out.symm⟩
 case round =>
  obtain ⟨k,d,rfl,hk,hg,hJ,hdk,hv⟩ := hrel
  obtain ⟨a5,c5,rfl⟩ := hJ.form
  have HJ := Lib.hid hJ
  have HV := Lib.hid hv
  have HDK := Lib.hid hdk
  have hT : ∀ W,Below w.heap.size w W → TR W v l := fun W hW => HH.out.below hW
  have HT := Lib.hid hT
  clear hJ hv hdk HR HS hT
  have hwo := rword_any v l k ⟨#[111,110,108,121]⟩ wr (HT.out _ HJ.out.bel) (by omega)
  have hwt := rword_any v l k ⟨#[116,97,98,108,101]⟩ wr (HT.out _ HJ.out.bel) (by omega)
  rw [show [(⟨#[111,110,108,121]⟩ : ByteArray).toList] = [w_only] by rw [Lib.toList_data]; rfl] at hwo
  rw [show [(⟨#[116,97,98,108,101]⟩ : ByteArray).toList] = [w_table] by rw [Lib.toList_data]; rfl] at hwt
  obtain ⟨j,hj⟩ : ∃ j,skipB l k = j := ⟨_,rfl⟩
  obtain ⟨n,hn⟩ : ∃ n,nameW l j = n := ⟨_,rfl⟩
  have hjk := skip_le l k
  rw [hj] at hjk
  have hjd : j = if (isTok 1 [w_only] l k || isTok 1 [w_table] l k) = true then k + 1 else k := by rw [← hj,skipB,tok_two]
  have hnm := rname_any v l j wr (HT.out _ HJ.out.bel) (by omega) (by omega) HZ.out
  unfold NameP at hnm
  have hE := fromL_eq l k
  obtain ⟨jn,hjn⟩ : ∃ jn,j + n = jn := ⟨_,rfl⟩
  rw [hn,hjn] at hnm
  rw [hj,hn,hjn] at hE
  have hjw : j = k + 1 → IntKind.i64.wrap ((k : Int) + 1) = (j : Int) := fun e => by rw [show (k : Int) + 1 = (j : Int) by omega]; exact wrap_nat (by omega)
  have hnw : n ≠ 0 → jn ≤ l.length ∧ 1 ≤ n := fun e => by have := nameW_lt (l := l) (i := j) (by rw [hn]; exact e); rw [hn] at this; omega
  generalize isTok 1 [w_only] l k = bo at *
  generalize isTok 1 [w_table] l k = bt at *
  have HWO := Lib.hid hwo
  have HWT := Lib.hid hwt
  have HNM := Lib.hid hnm
  have HE := Lib.hid hE
  have HJK := Lib.hid hjk
  have HJN := Lib.hid hjn
  clear hwo hwt hnm hE hjk hj hn
  by_cases hn0 : n = 0
  ·have hv2 : R = d := by rw [HV.out,HE.out,if_pos hn0]; simp
   have hjj : j = jn := by rw [← hjn,hn0,Nat.add_zero]
   clear hjn hnw
   subst hjj hn0
   have HV2 := Lib.hid hv2
   clear hv2 HE HV
   cases bo
   ·cases bt
    ·have hje : j = k := by rw [hjd]; rfl
     subst hje
     clear hjw hjd
     go_wp2_with (first
     | (go_at_call 121; (with_reducible refine HWO.out.mono ?_); rintro e w2 ⟨rfl,rfl⟩)
     | (go_at_call 121; (with_reducible refine HWT.out.mono ?_); rintro e w3 ⟨rfl,rfl⟩)
     | (go_at_call 151; (with_reducible refine HNM.out.mono ?_); rintro e w4 ⟨⟨s,rfl,hs⟩,hb4⟩; have HB4 := Lib.hid hb4; have HSX := Lib.hid hs; have HJ4 := Lib.hid (HJ.out.step hb4); clear hs hb4))
     go_ret
     exact ⟨_,rfl,by rw [HV2.out]; exact HJ4.out⟩
    ·have hje : j = k + 1 := by rw [hjd]; rfl
     have hw := hjw hje
     clear hjw hjd hje
     go_wp2_with (first
     | (go_at_call 121; (with_reducible refine HWO.out.mono ?_); rintro e w2 ⟨rfl,rfl⟩)
     | (go_at_call 121; (with_reducible refine HWT.out.mono ?_); rintro e w3 ⟨rfl,rfl⟩)
     | (go_at_call 151; (with_reducible refine HNM.out.mono ?_); rintro e w4 ⟨⟨s,rfl,hs⟩,hb4⟩; have HB4 := Lib.hid hb4; have HSX := Lib.hid hs; have HJ4 := Lib.hid (HJ.out.step hb4); clear hs hb4))
     go_ret
     exact ⟨_,rfl,by rw [HV2.out]; exact HJ4.out⟩
   ·have hje : j = k + 1 := by rw [hjd]; rfl
    have hw := hjw hje
    clear hjw hjd hje
    go_wp2_with (first
     | (go_at_call 121; (with_reducible refine HWO.out.mono ?_); rintro e w2 ⟨rfl,rfl⟩)
     | (go_at_call 121; (with_reducible refine HWT.out.mono ?_); rintro e w3 ⟨rfl,rfl⟩)
     | (go_at_call 151; (with_reducible refine HNM.out.mono ?_); rintro e w4 ⟨⟨s,rfl,hs⟩,hb4⟩; have HB4 := Lib.hid hb4; have HSX := Lib.hid hs; have HJ4 := Lib.hid (HJ.out.step hb4); clear hs hb4))
    go_ret
    exact ⟨_,rfl,by rw [HV2.out]; exact HJ4.out⟩
  ·have en : ((jn : Int) == (j : Int)) = false := by rw [beq_eq_false_iff_ne]; omega
   obtain ⟨hjl,hn1⟩ := hnw hn0
   have HJL := Lib.hid hjl
   obtain ⟨t,ht⟩ : ∃ t,asB l jn = t := ⟨_,rfl⟩
   obtain ⟨q,hq⟩ : ∃ q,aliasB l jn = q := ⟨_,rfl⟩
   obtain ⟨q1,hq1⟩ : ∃ q1,q + 1 = q1 := ⟨_,rfl⟩
   have htd : t = if isTok 1 [w_as] l jn = true then jn + 1 else jn := by rw [← ht]; rfl
   have hqd : q = if partB l t = true then t + 1 else t := by rw [← hq,← ht]; rfl
   have has : ∀ W,Below w.heap.size w W → Calls Tryz.prog 121 #[v,.int .i64 (jn : Int),.string ⟨#[97,115]⟩] W fun e w' => e = .returned (.bool (isTok 1 [w_as] l jn)) ∧ w' = W := fun W hW => by
    have := rword_any v l jn ⟨#[97,115]⟩ W (HT.out _ hW) (by omega)
    rwa [show [(⟨#[97,115]⟩ : ByteArray).toList] = [w_as] by rw [Lib.toList_data]; rfl] at this
   have hpt : ∀ W,Calls Tryz.prog 152 #[v,.int .i64 (t : Int)] W (fun e w' => e = .returned (.bool (partB l t)) ∧ Below W.heap.size W w') ∨ ¬ Below w.heap.size w W := fun W => by
    by_cases hW : Below w.heap.size w W
    ·exact .inl (rpart_any v l t W (HT.out _ hW) (by omega))
    ·exact .inr hW
   have hsg : ∀ W,Below w.heap.size w W → Calls Tryz.prog 153 #[v,.int .i64 (q : Int),.string ⟨#[44]⟩] W fun e w' => e = .returned (.bool (commaB l q)) ∧ w' = W := fun W hW => by
    have := rssign_any v l q ⟨#[44]⟩ W (HT.out _ hW) (by omega)
    rwa [show [(⟨#[44]⟩ : ByteArray).toList] = [[44]] by rw [Lib.toList_data]] at this
   have hqk := alias_le l jn
   rw [hq] at hqk
   have hv1 : R = d ++ nameX l j :: (if commaB l q = true then (fromL l q1).map (·.1) else []) := by
    rw [HV.out,HE.out,if_neg hn0,hq,hq1]
    cases commaB l q <;> simp
   have htw : t = jn + 1 → IntKind.i64.wrap ((jn : Int) + 1) = (t : Int) := fun e => by rw [show (jn : Int) + 1 = (t : Int) by omega]; exact wrap_nat (by omega)
   have hqw : q = t + 1 → IntKind.i64.wrap ((t : Int) + 1) = (q : Int) := fun e => by rw [show (t : Int) + 1 = (q : Int) by omega]; exact wrap_nat (by omega)
   have hq1w : IntKind.i64.wrap ((q : Int) + 1) = (q1 : Int) := by rw [show (q : Int) + 1 = (q1 : Int) by omega]; exact wrap_nat (by omega)
   have hcl : commaB l q = true → q < l.length := isTok_lt
   generalize isTok 1 [w_as] l jn = bas at *
   generalize partB l t = bp at *
   generalize commaB l q = bc at *
   have HAS := Lib.hid has
   have HPT := Lib.hid hpt
   have HSG := Lib.hid hsg
   have HV1 := Lib.hid hv1
   have HQK := Lib.hid hqk
   have HQ1 := Lib.hid hq1
   have HTD := Lib.hid htd
   have HQD := Lib.hid hqd
   have HTW := Lib.hid htw
   have HQW := Lib.hid hqw
   have HCL := Lib.hid hcl
   clear has hpt hsg hv1 hqk hq1 htd hqd htw hqw ht hq hcl HE HV
   cases bo
   ·cases bt
    ·have hje : j = k := by rw [hjd]; rfl
     subst hje
     clear hjw hjd
     go_wp2_with (first
     | (go_at_call 121; (with_reducible refine HWO.out.mono ?_); rintro e w2 ⟨rfl,rfl⟩)
     | (go_at_call 121; (with_reducible refine HWT.out.mono ?_); rintro e w3 ⟨rfl,rfl⟩)
     | (go_at_call 151; (with_reducible refine HNM.out.mono ?_); rintro e w4 ⟨⟨s,rfl,hs⟩,hb4⟩; have HB4 := Lib.hid hb4; have HSX := Lib.hid hs; have HJ4 := Lib.hid (HJ.out.step hb4); clear hs hb4)
     | (at_builtin; refine wpList_append_lies _ rfl _ _ 60 rfl w.heap.size 9 i0 (.string ByteArray.empty) 1 16 und26 hi0 hz0 hz1 hz2 rfl (by decide) _ d.length (d.map sV) rfl (HJ4.out.own.alloc _) ⟨w4.heap.size,0,none⟩ 1 1 [.string s] rfl rfl ?c1 ?c2 (by decide) ?c3 ?c4 ?c5 _ rfl ?_))
     case c1 =>
      intro j u hj
      match j,hj with
      | 0,hj => simp at hj; subst hj; simp [Addr.add]
     case c2 => intro u hu; simp at hu; subst hu; rfl
     case c3 => have := HDK.out; unfold maxLen; omega
     case c4 => have := HDK.out; omega
     case c5 => have := HJ4.out.bel.size; simp; omega
     intro g cap W1 hown hgrow hat hlt
     have hJ5 := NJ.push (HJ4.out.step (below_new _ _)) (Nat.le_refl _) (HSX.out (by omega)) hown hgrow
     have HJ5 := Lib.hid hJ5
     have HPT1 := Lib.hid ((HPT.out W1).resolve_right (fun h => h HJ5.out.bel))
     clear hJ5 hown hgrow hat hlt HPT
     cases bas
     ·obtain rfl : t = jn := by rw [HTD.out]; rfl
      clear HTW HTD
      cases bp
      ·obtain rfl : q = t := by rw [HQD.out]; rfl
       clear HQW HQD
       cases bc
       ·have hv6 := HV1.out
        have HV6 := Lib.hid hv6
        clear hv6 HV1
        go_wp2_with (first
         | (go_at_call 121; (with_reducible refine (HAS.out _ HJ5.out.bel).mono ?_); rintro e w6 ⟨rfl,rfl⟩)
         | (go_at_call 152; (with_reducible refine HPT1.out.mono ?_); rintro e w7 ⟨rfl,hb7⟩; have HJ7 := Lib.hid (HJ5.out.step hb7); clear hb7)
         | (go_at_call 153; (with_reducible refine (HSG.out _ HJ7.out.bel).mono ?_); rintro e w8 ⟨rfl,rfl⟩))
        go_ret
        exact ⟨_,rfl,by rw [HV6.out]; exact HJ7.out⟩
       ·have hv6 := HV1.out
        have HV6 := Lib.hid hv6
        clear hv6 HV1
        obtain ⟨g2,rfl⟩ : ∃ g2,gk = g2 + 1 := ⟨gk - 1,by omega⟩
        go_wp2_with (first
         | (go_at_call 121; (with_reducible refine (HAS.out _ HJ5.out.bel).mono ?_); rintro e w6 ⟨rfl,rfl⟩)
         | (go_at_call 152; (with_reducible refine HPT1.out.mono ?_); rintro e w7 ⟨rfl,hb7⟩; have HJ7 := Lib.hid (HJ5.out.step hb7); clear hb7)
         | (go_at_call 153; (with_reducible refine (HSG.out _ HJ7.out.bel).mono ?_); rintro e w8 ⟨rfl,rfl⟩))
        go_roundg g2
        case measure => exact Nat.lt_succ_self _
        case rel =>
         have r1 := HV6.out
         have r2 := HQK.out
         have r3 := HJN.out
         have r4 := HQ1.out
         have r5 := HJK.out
         have r6 := HDK.out
         have r7 := HCL.out (by first | rfl | trivial)
         clear HWO HWT HNM HAS HPT1 HSG
         refine ⟨q1,d ++ [nameX l j],rfl,by omega,by omega,by simpa using HJ7.out,by rw [List.length_append,List.length_singleton]; omega,?_⟩
         rw [r1]; simp
      ·have hw6 := HQW.out (by rw [HQD.out]; rfl)
       clear HQW HQD
       cases bc
       ·have hv6 := HV1.out
        have HV6 := Lib.hid hv6
        clear hv6 HV1
        go_wp2_with (first
         | (go_at_call 121; (with_reducible refine (HAS.out _ HJ5.out.bel).mono ?_); rintro e w6 ⟨rfl,rfl⟩)
         | (go_at_call 152; (with_reducible refine HPT1.out.mono ?_); rintro e w7 ⟨rfl,hb7⟩; have HJ7 := Lib.hid (HJ5.out.step hb7); clear hb7)
         | (go_at_call 153; (with_reducible refine (HSG.out _ HJ7.out.bel).mono ?_); rintro e w8 ⟨rfl,rfl⟩))
        go_ret
        exact ⟨_,rfl,by rw [HV6.out]; exact HJ7.out⟩
       ·have hv6 := HV1.out
        have HV6 := Lib.hid hv6
        clear hv6 HV1
        obtain ⟨g2,rfl⟩ : ∃ g2,gk = g2 + 1 := ⟨gk - 1,by omega⟩
        go_wp2_with (first
         | (go_at_call 121; (with_reducible refine (HAS.out _ HJ5.out.bel).mono ?_); rintro e w6 ⟨rfl,rfl⟩)
         | (go_at_call 152; (with_reducible refine HPT1.out.mono ?_); rintro e w7 ⟨rfl,hb7⟩; have HJ7 := Lib.hid (HJ5.out.step hb7); clear hb7)
         | (go_at_call 153; (with_reducible refine (HSG.out _ HJ7.out.bel).mono ?_); rintro e w8 ⟨rfl,rfl⟩))
        go_roundg g2
        case measure => exact Nat.lt_succ_self _
        case rel =>
         have r1 := HV6.out
         have r2 := HQK.out
         have r3 := HJN.out
         have r4 := HQ1.out
         have r5 := HJK.out
         have r6 := HDK.out
         have r7 := HCL.out (by first | rfl | trivial)
         clear HWO HWT HNM HAS HPT1 HSG
         refine ⟨q1,d ++ [nameX l j],rfl,by omega,by omega,by simpa using HJ7.out,by rw [List.length_append,List.length_singleton]; omega,?_⟩
         rw [r1]; simp
     ·have hw5 := HTW.out (by rw [HTD.out]; rfl)
      clear HTW HTD
      cases bp
      ·obtain rfl : q = t := by rw [HQD.out]; rfl
       clear HQW HQD
       cases bc
       ·have hv6 := HV1.out
        have HV6 := Lib.hid hv6
        clear hv6 HV1
        go_wp2_with (first
         | (go_at_call 121; (with_reducible refine (HAS.out _ HJ5.out.bel).mono ?_); rintro e w6 ⟨rfl,rfl⟩)
         | (go_at_call 152; (with_reducible refine HPT1.out.mono ?_); rintro e w7 ⟨rfl,hb7⟩; have HJ7 := Lib.hid (HJ5.out.step hb7); clear hb7)
         | (go_at_call 153; (with_reducible refine (HSG.out _ HJ7.out.bel).mono ?_); rintro e w8 ⟨rfl,rfl⟩))
        go_ret
        exact ⟨_,rfl,by rw [HV6.out]; exact HJ7.out⟩
       ·have hv6 := HV1.out
        have HV6 := Lib.hid hv6
        clear hv6 HV1
        obtain ⟨g2,rfl⟩ : ∃ g2,gk = g2 + 1 := ⟨gk - 1,by omega⟩
        go_wp2_with (first
         | (go_at_call 121; (with_reducible refine (HAS.out _ HJ5.out.bel).mono ?_); rintro e w6 ⟨rfl,rfl⟩)
         | (go_at_call 152; (with_reducible refine HPT1.out.mono ?_); rintro e w7 ⟨rfl,hb7⟩; have HJ7 := Lib.hid (HJ5.out.step hb7); clear hb7)
         | (go_at_call 153; (with_reducible refine (HSG.out _ HJ7.out.bel).mono ?_); rintro e w8 ⟨rfl,rfl⟩))
        go_roundg g2
        case measure => exact Nat.lt_succ_self _
        case rel =>
         have r1 := HV6.out
         have r2 := HQK.out
         have r3 := HJN.out
         have r4 := HQ1.out
         have r5 := HJK.out
         have r6 := HDK.out
         have r7 := HCL.out (by first | rfl | trivial)
         clear HWO HWT HNM HAS HPT1 HSG
         refine ⟨q1,d ++ [nameX l j],rfl,by omega,by omega,by simpa using HJ7.out,by rw [List.length_append,List.length_singleton]; omega,?_⟩
         rw [r1]; simp
      ·have hw6 := HQW.out (by rw [HQD.out]; rfl)
       clear HQW HQD
       cases bc
       ·have hv6 := HV1.out
        have HV6 := Lib.hid hv6
        clear hv6 HV1
        go_wp2_with (first
         | (go_at_call 121; (with_reducible refine (HAS.out _ HJ5.out.bel).mono ?_); rintro e w6 ⟨rfl,rfl⟩)
         | (go_at_call 152; (with_reducible refine HPT1.out.mono ?_); rintro e w7 ⟨rfl,hb7⟩; have HJ7 := Lib.hid (HJ5.out.step hb7); clear hb7)
         | (go_at_call 153; (with_reducible refine (HSG.out _ HJ7.out.bel).mono ?_); rintro e w8 ⟨rfl,rfl⟩))
        go_ret
        exact ⟨_,rfl,by rw [HV6.out]; exact HJ7.out⟩
       ·have hv6 := HV1.out
        have HV6 := Lib.hid hv6
        clear hv6 HV1
        obtain ⟨g2,rfl⟩ : ∃ g2,gk = g2 + 1 := ⟨gk - 1,by omega⟩
        go_wp2_with (first
         | (go_at_call 121; (with_reducible refine (HAS.out _ HJ5.out.bel).mono ?_); rintro e w6 ⟨rfl,rfl⟩)
         | (go_at_call 152; (with_reducible refine HPT1.out.mono ?_); rintro e w7 ⟨rfl,hb7⟩; have HJ7 := Lib.hid (HJ5.out.step hb7); clear hb7)
         | (go_at_call 153; (with_reducible refine (HSG.out _ HJ7.out.bel).mono ?_); rintro e w8 ⟨rfl,rfl⟩))
        go_roundg g2
        case measure => exact Nat.lt_succ_self _
        case rel =>
         have r1 := HV6.out
         have r2 := HQK.out
         have r3 := HJN.out
         have r4 := HQ1.out
         have r5 := HJK.out
         have r6 := HDK.out
         have r7 := HCL.out (by first | rfl | trivial)
         clear HWO HWT HNM HAS HPT1 HSG
         refine ⟨q1,d ++ [nameX l j],rfl,by omega,by omega,by simpa using HJ7.out,by rw [List.length_append,List.length_singleton]; omega,?_⟩
         rw [r1]; simp
    ·have hje : j = k + 1 := by rw [hjd]; rfl
     have hw := hjw hje
     clear hjw hjd hje
     go_wp2_with (first
     | (go_at_call 121; (with_reducible refine HWO.out.mono ?_); rintro e w2 ⟨rfl,rfl⟩)
     | (go_at_call 121; (with_reducible refine HWT.out.mono ?_); rintro e w3 ⟨rfl,rfl⟩)
     | (go_at_call 151; (with_reducible refine HNM.out.mono ?_); rintro e w4 ⟨⟨s,rfl,hs⟩,hb4⟩; have HB4 := Lib.hid hb4; have HSX := Lib.hid hs; have HJ4 := Lib.hid (HJ.out.step hb4); clear hs hb4)
     | (at_builtin; refine wpList_append_lies _ rfl _ _ 60 rfl w.heap.size 9 i0 (.string ByteArray.empty) 1 16 und26 hi0 hz0 hz1 hz2 rfl (by decide) _ d.length (d.map sV) rfl (HJ4.out.own.alloc _) ⟨w4.heap.size,0,none⟩ 1 1 [.string s] rfl rfl ?c1 ?c2 (by decide) ?c3 ?c4 ?c5 _ rfl ?_))
     case c1 =>
      intro j u hj
      match j,hj with
      | 0,hj => simp at hj; subst hj; simp [Addr.add]
     case c2 => intro u hu; simp at hu; subst hu; rfl
     case c3 => have := HDK.out; unfold maxLen; omega
     case c4 => have := HDK.out; omega
     case c5 => have := HJ4.out.bel.size; simp; omega
     intro g cap W1 hown hgrow hat hlt
     have hJ5 := NJ.push (HJ4.out.step (below_new _ _)) (Nat.le_refl _) (HSX.out (by omega)) hown hgrow
     have HJ5 := Lib.hid hJ5
     have HPT1 := Lib.hid ((HPT.out W1).resolve_right (fun h => h HJ5.out.bel))
     clear hJ5 hown hgrow hat hlt HPT
     cases bas
     ·obtain rfl : t = jn := by rw [HTD.out]; rfl
      clear HTW HTD
      cases bp
      ·obtain rfl : q = t := by rw [HQD.out]; rfl
       clear HQW HQD
       cases bc
       ·have hv6 := HV1.out
        have HV6 := Lib.hid hv6
        clear hv6 HV1
        go_wp2_with (first
         | (go_at_call 121; (with_reducible refine (HAS.out _ HJ5.out.bel).mono ?_); rintro e w6 ⟨rfl,rfl⟩)
         | (go_at_call 152; (with_reducible refine HPT1.out.mono ?_); rintro e w7 ⟨rfl,hb7⟩; have HJ7 := Lib.hid (HJ5.out.step hb7); clear hb7)
         | (go_at_call 153; (with_reducible refine (HSG.out _ HJ7.out.bel).mono ?_); rintro e w8 ⟨rfl,rfl⟩))
        go_ret
        exact ⟨_,rfl,by rw [HV6.out]; exact HJ7.out⟩
       ·have hv6 := HV1.out
        have HV6 := Lib.hid hv6
        clear hv6 HV1
        obtain ⟨g2,rfl⟩ : ∃ g2,gk = g2 + 1 := ⟨gk - 1,by omega⟩
        go_wp2_with (first
         | (go_at_call 121; (with_reducible refine (HAS.out _ HJ5.out.bel).mono ?_); rintro e w6 ⟨rfl,rfl⟩)
         | (go_at_call 152; (with_reducible refine HPT1.out.mono ?_); rintro e w7 ⟨rfl,hb7⟩; have HJ7 := Lib.hid (HJ5.out.step hb7); clear hb7)
         | (go_at_call 153; (with_reducible refine (HSG.out _ HJ7.out.bel).mono ?_); rintro e w8 ⟨rfl,rfl⟩))
        go_roundg g2
        case measure => exact Nat.lt_succ_self _
        case rel =>
         have r1 := HV6.out
         have r2 := HQK.out
         have r3 := HJN.out
         have r4 := HQ1.out
         have r5 := HJK.out
         have r6 := HDK.out
         have r7 := HCL.out (by first | rfl | trivial)
         clear HWO HWT HNM HAS HPT1 HSG
         refine ⟨q1,d ++ [nameX l j],rfl,by omega,by omega,by simpa using HJ7.out,by rw [List.length_append,List.length_singleton]; omega,?_⟩
         rw [r1]; simp
      ·have hw6 := HQW.out (by rw [HQD.out]; rfl)
       clear HQW HQD
       cases bc
       ·have hv6 := HV1.out
        have HV6 := Lib.hid hv6
        clear hv6 HV1
        go_wp2_with (first
         | (go_at_call 121; (with_reducible refine (HAS.out _ HJ5.out.bel).mono ?_); rintro e w6 ⟨rfl,rfl⟩)
         | (go_at_call 152; (with_reducible refine HPT1.out.mono ?_); rintro e w7 ⟨rfl,hb7⟩; have HJ7 := Lib.hid (HJ5.out.step hb7); clear hb7)
         | (go_at_call 153; (with_reducible refine (HSG.out _ HJ7.out.bel).mono ?_); rintro e w8 ⟨rfl,rfl⟩))
        go_ret
        exact ⟨_,rfl,by rw [HV6.out]; exact HJ7.out⟩
       ·have hv6 := HV1.out
        have HV6 := Lib.hid hv6
        clear hv6 HV1
        obtain ⟨g2,rfl⟩ : ∃ g2,gk = g2 + 1 := ⟨gk - 1,by omega⟩
        go_wp2_with (first
         | (go_at_call 121; (with_reducible refine (HAS.out _ HJ5.out.bel).mono ?_); rintro e w6 ⟨rfl,rfl⟩)
         | (go_at_call 152; (with_reducible refine HPT1.out.mono ?_); rintro e w7 ⟨rfl,hb7⟩; have HJ7 := Lib.hid (HJ5.out.step hb7); clear hb7)
         | (go_at_call 153; (with_reducible refine (HSG.out _ HJ7.out.bel).mono ?_); rintro e w8 ⟨rfl,rfl⟩))
        go_roundg g2
        case measure => exact Nat.lt_succ_self _
        case rel =>
         have r1 := HV6.out
         have r2 := HQK.out
         have r3 := HJN.out
         have r4 := HQ1.out
         have r5 := HJK.out
         have r6 := HDK.out
         have r7 := HCL.out (by first | rfl | trivial)
         clear HWO HWT HNM HAS HPT1 HSG
         refine ⟨q1,d ++ [nameX l j],rfl,by omega,by omega,by simpa using HJ7.out,by rw [List.length_append,List.length_singleton]; omega,?_⟩
         rw [r1]; simp
     ·have hw5 := HTW.out (by rw [HTD.out]; rfl)
      clear HTW HTD
      cases bp
      ·obtain rfl : q = t := by rw [HQD.out]; rfl
       clear HQW HQD
       cases bc
       ·have hv6 := HV1.out
        have HV6 := Lib.hid hv6
        clear hv6 HV1
        go_wp2_with (first
         | (go_at_call 121; (with_reducible refine (HAS.out _ HJ5.out.bel).mono ?_); rintro e w6 ⟨rfl,rfl⟩)
         | (go_at_call 152; (with_reducible refine HPT1.out.mono ?_); rintro e w7 ⟨rfl,hb7⟩; have HJ7 := Lib.hid (HJ5.out.step hb7); clear hb7)
         | (go_at_call 153; (with_reducible refine (HSG.out _ HJ7.out.bel).mono ?_); rintro e w8 ⟨rfl,rfl⟩))
        go_ret
        exact ⟨_,rfl,by rw [HV6.out]; exact HJ7.out⟩
       ·have hv6 := HV1.out
        have HV6 := Lib.hid hv6
        clear hv6 HV1
        obtain ⟨g2,rfl⟩ : ∃ g2,gk = g2 + 1 := ⟨gk - 1,by omega⟩
        go_wp2_with (first
         | (go_at_call 121; (with_reducible refine (HAS.out _ HJ5.out.bel).mono ?_); rintro e w6 ⟨rfl,rfl⟩)
         | (go_at_call 152; (with_reducible refine HPT1.out.mono ?_); rintro e w7 ⟨rfl,hb7⟩; have HJ7 := Lib.hid (HJ5.out.step hb7); clear hb7)
         | (go_at_call 153; (with_reducible refine (HSG.out _ HJ7.out.bel).mono ?_); rintro e w8 ⟨rfl,rfl⟩))
        go_roundg g2
        case measure => exact Nat.lt_succ_self _
        case rel =>
         have r1 := HV6.out
         have r2 := HQK.out
         have r3 := HJN.out
         have r4 := HQ1.out
         have r5 := HJK.out
         have r6 := HDK.out
         have r7 := HCL.out (by first | rfl | trivial)
         clear HWO HWT HNM HAS HPT1 HSG
         refine ⟨q1,d ++ [nameX l j],rfl,by omega,by omega,by simpa using HJ7.out,by rw [List.length_append,List.length_singleton]; omega,?_⟩
         rw [r1]; simp
      ·have hw6 := HQW.out (by rw [HQD.out]; rfl)
       clear HQW HQD
       cases bc
       ·have hv6 := HV1.out
        have HV6 := Lib.hid hv6
        clear hv6 HV1
        go_wp2_with (first
         | (go_at_call 121; (with_reducible refine (HAS.out _ HJ5.out.bel).mono ?_); rintro e w6 ⟨rfl,rfl⟩)
         | (go_at_call 152; (with_reducible refine HPT1.out.mono ?_); rintro e w7 ⟨rfl,hb7⟩; have HJ7 := Lib.hid (HJ5.out.step hb7); clear hb7)
         | (go_at_call 153; (with_reducible refine (HSG.out _ HJ7.out.bel).mono ?_); rintro e w8 ⟨rfl,rfl⟩))
        go_ret
        exact ⟨_,rfl,by rw [HV6.out]; exact HJ7.out⟩
       ·have hv6 := HV1.out
        have HV6 := Lib.hid hv6
        clear hv6 HV1
        obtain ⟨g2,rfl⟩ : ∃ g2,gk = g2 + 1 := ⟨gk - 1,by omega⟩
        go_wp2_with (first
         | (go_at_call 121; (with_reducible refine (HAS.out _ HJ5.out.bel).mono ?_); rintro e w6 ⟨rfl,rfl⟩)
         | (go_at_call 152; (with_reducible refine HPT1.out.mono ?_); rintro e w7 ⟨rfl,hb7⟩; have HJ7 := Lib.hid (HJ5.out.step hb7); clear hb7)
         | (go_at_call 153; (with_reducible refine (HSG.out _ HJ7.out.bel).mono ?_); rintro e w8 ⟨rfl,rfl⟩))
        go_roundg g2
        case measure => exact Nat.lt_succ_self _
        case rel =>
         have r1 := HV6.out
         have r2 := HQK.out
         have r3 := HJN.out
         have r4 := HQ1.out
         have r5 := HJK.out
         have r6 := HDK.out
         have r7 := HCL.out (by first | rfl | trivial)
         clear HWO HWT HNM HAS HPT1 HSG
         refine ⟨q1,d ++ [nameX l j],rfl,by omega,by omega,by simpa using HJ7.out,by rw [List.length_append,List.length_singleton]; omega,?_⟩
         rw [r1]; simp
   ·have hje : j = k + 1 := by rw [hjd]; rfl
    have hw := hjw hje
    clear hjw hjd hje
    go_wp2_with (first
     | (go_at_call 121; (with_reducible refine HWO.out.mono ?_); rintro e w2 ⟨rfl,rfl⟩)
     | (go_at_call 121; (with_reducible refine HWT.out.mono ?_); rintro e w3 ⟨rfl,rfl⟩)
     | (go_at_call 151; (with_reducible refine HNM.out.mono ?_); rintro e w4 ⟨⟨s,rfl,hs⟩,hb4⟩; have HB4 := Lib.hid hb4; have HSX := Lib.hid hs; have HJ4 := Lib.hid (HJ.out.step hb4); clear hs hb4)
     | (at_builtin; refine wpList_append_lies _ rfl _ _ 60 rfl w.heap.size 9 i0 (.string ByteArray.empty) 1 16 und26 hi0 hz0 hz1 hz2 rfl (by decide) _ d.length (d.map sV) rfl (HJ4.out.own.alloc _) ⟨w4.heap.size,0,none⟩ 1 1 [.string s] rfl rfl ?c1 ?c2 (by decide) ?c3 ?c4 ?c5 _ rfl ?_))
    case c1 =>
     intro j u hj
     match j,hj with
     | 0,hj => simp at hj; subst hj; simp [Addr.add]
    case c2 => intro u hu; simp at hu; subst hu; rfl
    case c3 => have := HDK.out; unfold maxLen; omega
    case c4 => have := HDK.out; omega
    case c5 => have := HJ4.out.bel.size; simp; omega
    intro g cap W1 hown hgrow hat hlt
    have hJ5 := NJ.push (HJ4.out.step (below_new _ _)) (Nat.le_refl _) (HSX.out (by omega)) hown hgrow
    have HJ5 := Lib.hid hJ5
    have HPT1 := Lib.hid ((HPT.out W1).resolve_right (fun h => h HJ5.out.bel))
    clear hJ5 hown hgrow hat hlt HPT
    cases bas
    ·obtain rfl : t = jn := by rw [HTD.out]; rfl
     clear HTW HTD
     cases bp
     ·obtain rfl : q = t := by rw [HQD.out]; rfl
      clear HQW HQD
      cases bc
      ·have hv6 := HV1.out
       have HV6 := Lib.hid hv6
       clear hv6 HV1
       go_wp2_with (first
        | (go_at_call 121; (with_reducible refine (HAS.out _ HJ5.out.bel).mono ?_); rintro e w6 ⟨rfl,rfl⟩)
        | (go_at_call 152; (with_reducible refine HPT1.out.mono ?_); rintro e w7 ⟨rfl,hb7⟩; have HJ7 := Lib.hid (HJ5.out.step hb7); clear hb7)
        | (go_at_call 153; (with_reducible refine (HSG.out _ HJ7.out.bel).mono ?_); rintro e w8 ⟨rfl,rfl⟩))
       go_ret
       exact ⟨_,rfl,by rw [HV6.out]; exact HJ7.out⟩
      ·have hv6 := HV1.out
       have HV6 := Lib.hid hv6
       clear hv6 HV1
       obtain ⟨g2,rfl⟩ : ∃ g2,gk = g2 + 1 := ⟨gk - 1,by omega⟩
       go_wp2_with (first
        | (go_at_call 121; (with_reducible refine (HAS.out _ HJ5.out.bel).mono ?_); rintro e w6 ⟨rfl,rfl⟩)
        | (go_at_call 152; (with_reducible refine HPT1.out.mono ?_); rintro e w7 ⟨rfl,hb7⟩; have HJ7 := Lib.hid (HJ5.out.step hb7); clear hb7)
        | (go_at_call 153; (with_reducible refine (HSG.out _ HJ7.out.bel).mono ?_); rintro e w8 ⟨rfl,rfl⟩))
       go_roundg g2
       case measure => exact Nat.lt_succ_self _
       case rel =>
        have r1 := HV6.out
        have r2 := HQK.out
        have r3 := HJN.out
        have r4 := HQ1.out
        have r5 := HJK.out
        have r6 := HDK.out
        have r7 := HCL.out (by first | rfl | trivial)
        clear HWO HWT HNM HAS HPT1 HSG
        refine ⟨q1,d ++ [nameX l j],rfl,by omega,by omega,by simpa using HJ7.out,by rw [List.length_append,List.length_singleton]; omega,?_⟩
        rw [r1]; simp
     ·have hw6 := HQW.out (by rw [HQD.out]; rfl)
      clear HQW HQD
      cases bc
      ·have hv6 := HV1.out
       have HV6 := Lib.hid hv6
       clear hv6 HV1
       go_wp2_with (first
        | (go_at_call 121; (with_reducible refine (HAS.out _ HJ5.out.bel).mono ?_); rintro e w6 ⟨rfl,rfl⟩)
        | (go_at_call 152; (with_reducible refine HPT1.out.mono ?_); rintro e w7 ⟨rfl,hb7⟩; have HJ7 := Lib.hid (HJ5.out.step hb7); clear hb7)
        | (go_at_call 153; (with_reducible refine (HSG.out _ HJ7.out.bel).mono ?_); rintro e w8 ⟨rfl,rfl⟩))
       go_ret
       exact ⟨_,rfl,by rw [HV6.out]; exact HJ7.out⟩
      ·have hv6 := HV1.out
       have HV6 := Lib.hid hv6
       clear hv6 HV1
       obtain ⟨g2,rfl⟩ : ∃ g2,gk = g2 + 1 := ⟨gk - 1,by omega⟩
       go_wp2_with (first
        | (go_at_call 121; (with_reducible refine (HAS.out _ HJ5.out.bel).mono ?_); rintro e w6 ⟨rfl,rfl⟩)
        | (go_at_call 152; (with_reducible refine HPT1.out.mono ?_); rintro e w7 ⟨rfl,hb7⟩; have HJ7 := Lib.hid (HJ5.out.step hb7); clear hb7)
        | (go_at_call 153; (with_reducible refine (HSG.out _ HJ7.out.bel).mono ?_); rintro e w8 ⟨rfl,rfl⟩))
       go_roundg g2
       case measure => exact Nat.lt_succ_self _
       case rel =>
        have r1 := HV6.out
        have r2 := HQK.out
        have r3 := HJN.out
        have r4 := HQ1.out
        have r5 := HJK.out
        have r6 := HDK.out
        have r7 := HCL.out (by first | rfl | trivial)
        clear HWO HWT HNM HAS HPT1 HSG
        refine ⟨q1,d ++ [nameX l j],rfl,by omega,by omega,by simpa using HJ7.out,by rw [List.length_append,List.length_singleton]; omega,?_⟩
        rw [r1]; simp
    ·have hw5 := HTW.out (by rw [HTD.out]; rfl)
     clear HTW HTD
     cases bp
     ·obtain rfl : q = t := by rw [HQD.out]; rfl
      clear HQW HQD
      cases bc
      ·have hv6 := HV1.out
       have HV6 := Lib.hid hv6
       clear hv6 HV1
       go_wp2_with (first
        | (go_at_call 121; (with_reducible refine (HAS.out _ HJ5.out.bel).mono ?_); rintro e w6 ⟨rfl,rfl⟩)
        | (go_at_call 152; (with_reducible refine HPT1.out.mono ?_); rintro e w7 ⟨rfl,hb7⟩; have HJ7 := Lib.hid (HJ5.out.step hb7); clear hb7)
        | (go_at_call 153; (with_reducible refine (HSG.out _ HJ7.out.bel).mono ?_); rintro e w8 ⟨rfl,rfl⟩))
       go_ret
       exact ⟨_,rfl,by rw [HV6.out]; exact HJ7.out⟩
      ·have hv6 := HV1.out
       have HV6 := Lib.hid hv6
       clear hv6 HV1
       obtain ⟨g2,rfl⟩ : ∃ g2,gk = g2 + 1 := ⟨gk - 1,by omega⟩
       go_wp2_with (first
        | (go_at_call 121; (with_reducible refine (HAS.out _ HJ5.out.bel).mono ?_); rintro e w6 ⟨rfl,rfl⟩)
        | (go_at_call 152; (with_reducible refine HPT1.out.mono ?_); rintro e w7 ⟨rfl,hb7⟩; have HJ7 := Lib.hid (HJ5.out.step hb7); clear hb7)
        | (go_at_call 153; (with_reducible refine (HSG.out _ HJ7.out.bel).mono ?_); rintro e w8 ⟨rfl,rfl⟩))
       go_roundg g2
       case measure => exact Nat.lt_succ_self _
       case rel =>
        have r1 := HV6.out
        have r2 := HQK.out
        have r3 := HJN.out
        have r4 := HQ1.out
        have r5 := HJK.out
        have r6 := HDK.out
        have r7 := HCL.out (by first | rfl | trivial)
        clear HWO HWT HNM HAS HPT1 HSG
        refine ⟨q1,d ++ [nameX l j],rfl,by omega,by omega,by simpa using HJ7.out,by rw [List.length_append,List.length_singleton]; omega,?_⟩
        rw [r1]; simp
     ·have hw6 := HQW.out (by rw [HQD.out]; rfl)
      clear HQW HQD
      cases bc
      ·have hv6 := HV1.out
       have HV6 := Lib.hid hv6
       clear hv6 HV1
       go_wp2_with (first
        | (go_at_call 121; (with_reducible refine (HAS.out _ HJ5.out.bel).mono ?_); rintro e w6 ⟨rfl,rfl⟩)
        | (go_at_call 152; (with_reducible refine HPT1.out.mono ?_); rintro e w7 ⟨rfl,hb7⟩; have HJ7 := Lib.hid (HJ5.out.step hb7); clear hb7)
        | (go_at_call 153; (with_reducible refine (HSG.out _ HJ7.out.bel).mono ?_); rintro e w8 ⟨rfl,rfl⟩))
       go_ret
       exact ⟨_,rfl,by rw [HV6.out]; exact HJ7.out⟩
      ·have hv6 := HV1.out
       have HV6 := Lib.hid hv6
       clear hv6 HV1
       obtain ⟨g2,rfl⟩ : ∃ g2,gk = g2 + 1 := ⟨gk - 1,by omega⟩
       go_wp2_with (first
        | (go_at_call 121; (with_reducible refine (HAS.out _ HJ5.out.bel).mono ?_); rintro e w6 ⟨rfl,rfl⟩)
        | (go_at_call 152; (with_reducible refine HPT1.out.mono ?_); rintro e w7 ⟨rfl,hb7⟩; have HJ7 := Lib.hid (HJ5.out.step hb7); clear hb7)
        | (go_at_call 153; (with_reducible refine (HSG.out _ HJ7.out.bel).mono ?_); rintro e w8 ⟨rfl,rfl⟩))
       go_roundg g2
       case measure => exact Nat.lt_succ_self _
       case rel =>
        have r1 := HV6.out
        have r2 := HQK.out
        have r3 := HJN.out
        have r4 := HQ1.out
        have r5 := HJK.out
        have r6 := HDK.out
        have r7 := HCL.out (by first | rfl | trivial)
        clear HWO HWT HNM HAS HPT1 HSG
        refine ⟨q1,d ++ [nameX l j],rfl,by omega,by omega,by simpa using HJ7.out,by rw [List.length_append,List.length_singleton]; omega,?_⟩
        rw [r1]; simp

theorem lt_both {x y : UInt8} {r t : Tx} : decide (x :: r < y :: t) = (if x = y then decide (r < t) else decide (x < y)) := by
 by_cases h : x = y
 ·subst h
  rw [if_pos rfl]
  rw [Bool.eq_iff_iff,decide_eq_true_eq,decide_eq_true_eq,List.cons_lt_cons_iff]
  exact ⟨fun h => h.elim (fun h => absurd h (UInt8.lt_irrefl _)) And.right,fun h => .inr ⟨rfl,h⟩⟩
 ·rw [if_neg h,Bool.eq_iff_iff,decide_eq_true_eq,decide_eq_true_eq,List.cons_lt_cons_iff]
  exact ⟨fun h2 => h2.elim id fun h3 => absurd h3.1 h,.inl⟩
theorem byte_dr (s : ByteArray) (i : Nat) (h : i < s.size) : s.toList.drop i = s[i] :: s.toList.drop (i + 1) := by
 rw [Lib.toList_data]
 have h2 : i < s.data.toList.length := by simpa using h
 rw [List.drop_eq_getElem_cons h2]
 congr 1
theorem drop_out (l : Tx) (k : Nat) (h : l.length ≤ k) : l.drop k = [] := by simp; omega
theorem len_dr (s : ByteArray) : s.toList.length = s.size := by rw [Lib.toList_data]; rfl
set_option maxHeartbeats 2000000 in
theorem rless_any (s t : ByteArray) (w : World) (hs : s.size ≤ 4000000000) (ht : t.size ≤ 4000000000) :
  Calls Tryz.prog 43 #[.string s,.string t] w fun e w' => e = .returned (.bool (decide (s.toList < t.toList))) ∧ ∃ n,w' = w.drewN n := by
 obtain ⟨R,hR⟩ : ∃ R,decide (s.toList < t.toList) = R := ⟨_,rfl⟩
 rw [hR]
 have HR := Lib.hid hR
 clear hR
 go_enter Tryz.func43,Tryz.ntmps43
 go_wp2
 go_loopg [5] s.size (fun g u5 wx => ∃ k : Nat,u5 = .int .i64 (k : Int) ∧ k + g = s.size ∧ k ≤ t.size ∧ R = decide (s.toList.drop k < t.toList.drop k) ∧ ∃ n,wx = w.drewN n)
 case atStart => exact ⟨0,rfl,by omega,Nat.zero_le _,HR.out.symm,0,rfl⟩
 case round =>
  obtain ⟨k,rfl,hk,hkt,hv,n0,rfl⟩ := hrel
  have HV := Lib.hid hv
  clear hv HR
  have ls := len_dr s
  have lt := len_dr t
  have HLS := Lib.hid ls
  have HLT := Lib.hid lt
  clear ls lt
  by_cases h1 : k < s.size
  ·have i1 : (k : Int) < (s.size : Int) := by omega
   by_cases h2 : k < t.size
   ·have i2 : (k : Int) < (t.size : Int) := by omega
    have l0 : (0 : Int) ≤ (k : Int) := by omega
    obtain ⟨g,rfl⟩ : ∃ g,gk = g + 1 := ⟨gk - 1,by omega⟩
    have hv2 := HV.out
    rw [byte_dr s k h1,byte_dr t k h2,lt_both] at hv2
    obtain ⟨z,hz⟩ : ∃ z : Int,((s[k]'h1).toNat : Int) = z := ⟨_,rfl⟩
    obtain ⟨y,hy⟩ : ∃ y : Int,((t[k]'h2).toNat : Int) = y := ⟨_,rfl⟩
    have heq : s[k] = t[k] ↔ z = y := by
     rw [← hz,← hy]
     exact ⟨fun h => by rw [h],fun h => UInt8.toNat_inj.1 (by omega)⟩
    have hlt : decide (s[k] < t[k]) = decide (z < y) := by
     rw [← hz,← hy,Bool.eq_iff_iff,decide_eq_true_eq,decide_eq_true_eq,UInt8.lt_iff_toNat_lt]; omega
    obtain ⟨k1,hk1⟩ : ∃ k1,k + 1 = k1 := ⟨_,rfl⟩
    have wk : IntKind.i64.wrap ((k : Int) + 1) = (k1 : Int) := by rw [show (k : Int) + 1 = (k1 : Int) by omega]; exact wrap_nat (by omega)
    rw [hk1] at hv2
    by_cases hzy : z = y
    ·rw [if_pos (heq.2 hzy)] at hv2
     have ne : (z != y) = false := by rw [bne_eq_false_iff_eq]; exact hzy
     have HV2 := Lib.hid hv2
     have HK1 := Lib.hid hk1
     have HH := Lib.hid h1
     have HH2 := Lib.hid h2
     subst hzy
     clear hv2 HV heq hlt hk1
     go_wp2
     go_quiet (fail)
     go_wp2
     go_roundg g
     case measure => exact Nat.lt_succ_self _
     case rel => exact ⟨k1,rfl,by have := HK1.out; omega,by have := HK1.out; have := HH2.out; omega,HV2.out,_,rfl⟩
    ·rw [if_neg (fun h => hzy (heq.1 h)),hlt] at hv2
     have ne : (z != y) = true := by rw [bne_iff_ne]; exact hzy
     subst hv2
     clear HV heq hlt hzy hk1
     go_wp2
     go_quiet (fail)
     go_wp2
     go_quiet (fail)
     go_wp2
     go_ret
     refine ⟨rfl,?_⟩
     rw [World.drewN_drewN,World.drewN_drewN]
     exact ⟨_,rfl⟩
   ·have i2 : ¬ ((k : Int) < (t.size : Int)) := by omega
    have hv2 : R = false := by
     rw [HV.out,decide_eq_false_iff_not,drop_out t.toList k (by rw [HLT.out]; omega)]
     exact List.not_lt_nil _
    have hsz : decide ((s.size : Int) < (t.size : Int)) = false := by rw [decide_eq_false_iff_not]; omega
    have hszn : decide (s.size < t.size) = false := by rw [decide_eq_false_iff_not]; omega
    subst hv2
    clear HV
    go_wp2
    go_ret
    exact ⟨by simp [hszn],_,rfl⟩
  ·have i1 : ¬ ((k : Int) < (s.size : Int)) := by omega
   have hks : k = s.size := by omega
   obtain ⟨c,hc⟩ : ∃ c,decide (s.size < t.size) = c := ⟨_,rfl⟩
   have hv2 : R = c := by
    rw [HV.out,← hc,drop_out s.toList k (by rw [HLS.out]; omega)]
    by_cases h3 : s.size < t.size
    ·rw [byte_dr t k (by omega),decide_eq_true h3]; simp
    ·rw [drop_out t.toList k (by rw [HLT.out]; omega),decide_eq_false h3]; simp
   subst hv2
   clear HV hks
   go_wp2
   go_ret
   exact ⟨by simp [hc],_,rfl⟩

theorem split_at {p : Tx → Bool} : ∀ (l : List Tx) (i : Nat),(∀ y ∈ l.take i,p y = true) → (∀ y,l[i]? = some y → p y = false) → l.takeWhile p = l.take i ∧ l.dropWhile p = l.drop i := by
 intro l
 induction l with
 | nil => intro i _ _; simp
 | cons x r ih =>
  intro i h1 h2
  cases i with
  | zero =>
   have := h2 x rfl
   rw [List.takeWhile_cons,List.dropWhile_cons,this]
   exact ⟨rfl,rfl⟩
  | succ i =>
   have := h1 x (by simp)
   obtain ⟨a,b⟩ := ih i (fun y hy => h1 y (by rw [List.take_succ_cons]; exact List.mem_cons_of_mem _ hy)) (fun y hy => h2 y (by simpa using hy))
   rw [List.takeWhile_cons,List.dropWhile_cons,this,List.take_succ_cons,List.drop_succ_cons]
   exact ⟨by simp only [if_true]; rw [a],by simp only [if_true]; exact b⟩
def PRT (w : World) (v : Value) (d : List Tx) : Prop :=
 (v = .slice none 0 0 ∧ d = []) ∨
 ∃ h off cap,v = .slice (some ⟨h,off,none⟩) d.length cap ∧ d.length ≤ cap ∧ ∀ (i : Nat) (x : Tx),d[i]? = some x → w.cell? ⟨h,off + i,none⟩ = some (sV x)
theorem PRT.sr {w : World} {v : Value} {d : List Tx} (h : PRT w v d) : SRT w v d := by
 rcases h with ⟨rfl,rfl⟩ | h
 ·exact .inl ⟨none,0,rfl,rfl⟩
 ·exact .inr h
theorem PRT.keep {w w' : World} {v : Value} {d : List Tx} (h : PRT w v d) (hk : ∀ p : Addr,(w.cell? p).isSome = true → w'.cell? p = w.cell? p) : PRT w' v d := by
 rcases h with h | ⟨h,off,cap,e,hc,hm⟩
 ·exact .inl h
 ·exact .inr ⟨h,off,cap,e,hc,fun i x hi => (hk _ (by rw [hm i x hi]; rfl)).trans (hm i x hi)⟩
theorem PRT.below {w w' : World} {v : Value} {d : List Tx} (h : PRT w v d) (hb : Below w.heap.size w w') : PRT w' v d :=
 h.keep fun p hp => by
  obtain ⟨u,hu⟩ := Option.isSome_iff_exists.1 hp
  exact hb.cell (World.block_lt_of_cell? w p hu)
theorem PRT.own {w : World} {B : Nat} {v : Value} {d : List Tx} (h : w.ownsRow B 9 1 v d.length (d.map sV)) : PRT w v d := by
 rcases h.2 with ⟨rfl,hz⟩ | ⟨g,cap,cur,rfl,hb,hh,hc,hm,hs,ht⟩
 ·exact .inl ⟨rfl,List.eq_nil_of_length_eq_zero hz⟩
 ·refine .inr ⟨g,0,cap,rfl,hc,fun i x hi => ?_⟩
  have := h.cells (g := g) rfl i (sV x) (by rw [List.getElem?_map,hi]; rfl)
  rw [Addr.add_lit,Nat.zero_add] at this
  rw [Nat.zero_add]; exact this
theorem PRT.at_ {w : World} {v : Value} {d : List Tx} (h : PRT w v d) : (v = .slice none 0 0 ∧ d = []) ∨ ∃ g off cap,v = .slice (some ⟨g,off,none⟩) d.length cap ∧ d.length ≤ cap ∧ ∀ k (hk : k < d.length),w.cell? ⟨g,off + k,none⟩ = some (sV d[k]) := by
 rcases h with h | ⟨g,off,cap,rfl,hc,hx⟩
 ·exact .inl h
 ·exact .inr ⟨g,off,cap,rfl,hc,fun k hk => hx k d[k] (List.getElem?_eq_getElem hk)⟩
theorem ins_len (l : List Tx) (s : Tx) : (insL l s).length ≤ l.length + 1 := by
 unfold insL
 split
 ·omega
 ·have : (l.takeWhile (fun x => decide (x < s)) ++ l.dropWhile (fun x => decide (x < s))).length = l.length := by rw [List.takeWhile_append_dropWhile]
  rw [List.length_append] at this
  rw [List.length_append,List.length_append,List.length_singleton]; omega
theorem bytes_ex (x : Tx) : ∃ s : ByteArray,sV x = .string s ∧ s.toList = x ∧ s.size = x.length := ⟨⟨x.toArray⟩,rfl,bytes_of x,by show x.toArray.size = _; simp⟩
theorem PRT.cells {w : World} {g off n c : Nat} {d : List Tx} (h : PRT w (.slice (some ⟨g,off,none⟩) n c) d) : ∀ k (hk : k < d.length),w.cell? ⟨g,off + k,none⟩ = some (sV d[k]) := by
 rcases h with ⟨e,_⟩ | ⟨g2,off2,c2,e,_,hx⟩
 ·cases e
 ·injection e with e1 e2 e3
  injection e1 with e1
  injection e1 with e1 e4
  subst e1 e4
  exact fun k hk => hx k d[k] (List.getElem?_eq_getElem hk)
theorem NJ.push2 {w W W1 : World} {B g cap n : Nat} {d : List Tx} {s : ByteArray} {vs : Value} {x : Tx} (h : NJ w B d vs W) (hB : w.heap.size ≤ B) (hs : s.toList = x) (hn : n = d.length)
  (hown : W1.ownsRow B 9 1 (.slice (some ⟨g,0,none⟩) (n + 1) cap) (n + 1) (d.map sV ++ [.string s])) (hg : W.grownBy W1 vs.ownBlock) : NJ w B (d ++ [x]) (.slice (some ⟨g,0,none⟩) (n + 1) cap) W1 := by
 subst hn; exact NJ.push h hB hs hown hg
theorem NJ.more {w W W1 : World} {B g cap n1 m : Nat} {d e : List Tx} {vs : Value} {xs : List Value} (h : NJ w B d vs W) (hB : w.heap.size ≤ B) (h1 : n1 = d.length) (h2 : xs = d.map sV) (h3 : m = e.length)
  (hown : W1.ownsRow B 9 1 (.slice (some ⟨g,0,none⟩) (n1 + m) cap) (n1 + m) (xs ++ e.map sV)) (hg : W.grownBy W1 vs.ownBlock) : NJ w B (d ++ e) (.slice (some ⟨g,0,none⟩) (n1 + m) cap) W1 := by
 refine ⟨h.bel.grown hg h.bel.size fun k hk => Nat.le_trans hB (World.ownsRow.lt h.own k hk).1,?_⟩
 rw [List.length_append,List.map_append,← h1,← h2,← h3]
 exact hown
theorem append_none (W : World) (g n cap : Nat) (h : n ≤ cap) (ty : TypeId) (a : Option Addr) (c : Nat) :
  (Builtin.append_ #[60,60] ty #[.slice (some ⟨g,0,none⟩) n cap,.slice a 0 c]).run Tryz.prog W = .ok (.slice (some ⟨g,0,none⟩) n cap) W := by
 obtain ⟨i0,hi,hz0,hz1,hz2⟩ := info_parts info9
 refine run_append_nothing W _ _ ty _ i0 und26 hi _ n cap h _ ?_
 cases a with
 | none => exact Src.ofNil W und26 c
 | some ad => exact Src.ofSlice W und26 ad 0 c [] (by simp) (fun j u hj => by simp at hj) (fun u hu => by cases hu)
end Go.Proofs.YtgdabkpahmlkpaaGreatDoor
