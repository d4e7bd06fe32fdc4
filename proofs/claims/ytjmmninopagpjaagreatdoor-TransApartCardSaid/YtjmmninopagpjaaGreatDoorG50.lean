/- Dr Tba Tbb Tbc -/
import Derived.Test.YtjmmninopagpjaaGreatDoorG49
import Derived.Test.YtjmmninopagpjaaGreatDoorG1
import Derived.Deep.Slices
import Derived.Deep.Fields
import Derived.ChangeSame
import Derived.Lib.SmallJoins
import Derived.Test.YtjmmninopagpjaaGreatDoorG47
set_option linter.unusedSimpArgs false
set_option linter.unusedVariables false
namespace Go.Proofs.YtjmmninopagpjaaGreatDoor
set_option linter.unusedSimpArgs false
open Go.ChangeShapes Go.WideShapes Go.ChangeAt Go.RowKit
set_option maxRecDepth 100000
open Go.ChangeMaps (open_string shut_string)
open Go.Deep
set_option linter.unusedVariables false

theorem one_int : Tryz.prog.cellsOf 3 = 1 := by kernel_rfl
theorem one_bool : Tryz.prog.cellsOf 4 = 1 := by kernel_rfl
theorem one_str : Tryz.prog.cellsOf 9 = 1 := by kernel_rfl
theorem one_rows : Tryz.prog.cellsOf 39 = 1 := by kernel_rfl
theorem i64_of (x : Int) (h : (Lit.int .i64 x).wf = true) : i64B x := by
 unfold i64B
 simp [Lit.wf,IntKind.min,IntKind.max,IntKind.signed,IntKind.bits] at h
 omega
section
variable {H : Type} {enc : TypeId × Value → H} {W : World}
theorem one_row_of {n : Nat} {cs : List Value} {x : DataW H × List MemPlace} (ht : DataW.trod enc Tryz.prog W 0 (fun _ => true) true n 65 cs = some x) :
  ∃ r : Rw,cs[0]? = some (.int .i64 r.1) ∧ cs[1]? = some (.int .i64 r.2) := by
 obtain ⟨xs,m,_,hx,hl,hxl,hf⟩ := DataW.trod_struct Tryz.underlying65 ht
 match xs,hxl with
 | [y0,y1],_ =>
  have h0 : DataW.trod enc Tryz.prog W 0 (fun _ => true) true m 3 (List.take (Tryz.prog.cellsOf 3) (List.drop 0 cs)) = some y0 := hf 0 _ rfl
  have h1 : DataW.trod enc Tryz.prog W 0 (fun _ => true) true m 3 (List.take (Tryz.prog.cellsOf 3) (List.drop 1 cs)) = some y1 := hf 1 _ rfl
  rw [one_int] at h0 h1
  obtain ⟨x,e0,_,w0⟩ := DataW.trod_int Tryz.underlying3 h0
  obtain ⟨z,e1,_,w1⟩ := DataW.trod_int Tryz.underlying3 h1
  refine ⟨(x,z),?_,?_⟩
  ·have := congrArg (·[0]?) e0
   simpa using this
  ·have := congrArg (·[0]?) e1
   simpa using this
theorem spot_none {ad : Addr} {x : Value} (h : W.cell? ad = some x) : ad.spot = none := by
 unfold World.cell? at h
 cases hs : ad.spot with
 | none => rfl
 | some q => rw [hs] at h; revert h; split <;> simp
theorem slice2 {α : Type} {ts te : TypeId} {Q : α → Value → Value → Prop} (hu : Tryz.prog.underlying ts = some (.slice te)) (hC : Tryz.prog.cellsOf te = 2)
  (one : ∀ {n : Nat} {cs : List Value} {x : DataW H × List MemPlace},DataW.trod enc Tryz.prog W 0 (fun _ => true) true n te cs = some x → ∃ (a : α) (v0 v1 : Value),cs[0]? = some v0 ∧ cs[1]? = some v1 ∧ Q a v0 v1)
  {fuel : Nat} {c : Value} {x : DataW H × List MemPlace} (h : DataW.trod enc Tryz.prog W 0 (fun _ => true) true fuel ts [c] = some x) :
  c = .slice none 0 0 ∨ ∃ (l : List α) (ad : Addr) (cap : Nat),c = .slice (some ad) l.length cap ∧ l.length ≤ cap ∧ ∀ (i : Nat) (a : α),l[i]? = some a → ∃ v0 v1,W.cell? (ad.add (i * 2)) = some v0 ∧ W.cell? ((ad.add (i * 2)).add 1) = some v1 ∧ Q a v0 v1 := by
 rcases open_slice hu h with ⟨e,_⟩ | ⟨ad,len,cap,m,n,D,Pl,hcs,hb,hl,hm,hmm,hx,hi⟩
 ·injection e with e _
  exact .inl e
 ·injection hcs with hcs _
  subst hcs
  rw [hC] at hi
  have hlm : len ≤ m := by rw [hmm]; simp; exact hl
  have key : ∀ j,j ≤ len → ∃ l : List α,l.length = j ∧ ∀ (i : Nat) (a : α),l[i]? = some a → ∃ v0 v1,W.cell? (ad.add (i * 2)) = some v0 ∧ W.cell? ((ad.add (i * 2)).add 1) = some v1 ∧ Q a v0 v1 := by
   intro j
   induction j with
   | zero => intro _; exact ⟨[],rfl,fun i x hi => by simp at hi⟩
   | succ j ih =>
    intro hj
    obtain ⟨l,h1,h2⟩ := ih (by omega)
    obtain ⟨cs',hc,ht⟩ := hi j (by omega)
    obtain ⟨_,hcl,hat⟩ := World.cells?_some hc
    obtain ⟨a,v0,v1,e0,e1,hq⟩ := one ht
    refine ⟨l ++ [a],by simp [h1],fun i x hx' => ?_⟩
    by_cases hij : i < l.length
    ·rw [List.getElem?_append_left hij] at hx'
     exact h2 i x hx'
    ·have hlt := (List.getElem?_eq_some_iff.1 hx').1
     have hie : i = j := by simp at hlt; omega
     subst hie
     rw [List.getElem?_append_right (by omega),h1,Nat.sub_self] at hx'
     simp at hx'
     subst hx'
     have a0 := hat 0 (by omega)
     have a1 := hat 1 (by omega)
     rw [e0] at a0
     rw [e1] at a1
     exact ⟨v0,v1,by simpa [Addr.add] using a0,a1,hq⟩
  obtain ⟨l,h1,h2⟩ := key len (Nat.le_refl _)
  exact .inr ⟨l,ad,cap,by rw [h1],by omega,h2⟩
theorem slice2_at {α : Type} {Q : α → Value → Value → Prop} {l : List α} {ad : Addr} (h2 : ∀ (i : Nat) (a : α),l[i]? = some a → ∃ v0 v1,W.cell? (ad.add (i * 2)) = some v0 ∧ W.cell? ((ad.add (i * 2)).add 1) = some v1 ∧ Q a v0 v1) (h0 : l ≠ []) :
  ∃ g off,ad = ⟨g,off,none⟩ ∧ ∀ (i : Nat) (a : α),l[i]? = some a → ∃ v0 v1,W.cell? ⟨g,off + i * 2,none⟩ = some v0 ∧ W.cell? ⟨g,off + i * 2 + 1,none⟩ = some v1 ∧ Q a v0 v1 := by
 obtain ⟨x,hx0⟩ : ∃ x,l[0]? = some x := ⟨l[0]'(by cases l; exact absurd rfl h0; simp),List.getElem?_eq_getElem _⟩
 obtain ⟨v0,_,c0,_⟩ := h2 0 x hx0
 have e : ad.add (0 * 2) = ad := by simp [Addr.add]
 rw [e] at c0
 have hsp := spot_none c0
 obtain ⟨bl,of,sp⟩ := ad
 simp only at hsp
 subst hsp
 refine ⟨bl,of,rfl,fun i y hy => ?_⟩
 obtain ⟨w0,w1,d0,d1,hq⟩ := h2 i y hy
 rw [Addr.add_lit] at d0 d1
 rw [Addr.add_lit] at d1
 exact ⟨w0,w1,d0,d1,hq⟩
theorem rows_of {fuel : Nat} {c : Value} {x : DataW H × List MemPlace} (h : DataW.trod enc Tryz.prog W 0 (fun _ => true) true fuel 39 [c] = some x) : ∃ l : List Rw,RR W c l := by
 rcases slice2 (α := Rw) (Q := fun r v0 v1 => v0 = .int .i64 r.1 ∧ v1 = .int .i64 r.2) Tryz.underlying39 (by kernel_rfl) (fun ht => by
  obtain ⟨r,h0,h1⟩ := one_row_of ht
  exact ⟨r,_,_,h0,h1,rfl,rfl⟩) h with rfl | ⟨l,ad,cap,rfl,hc,h2⟩
 ·exact ⟨[],.inl ⟨_,_,rfl,rfl⟩⟩
 ·refine ⟨l,?_⟩
  by_cases h0 : l = []
  ·subst h0; exact .inl ⟨_,_,rfl,rfl⟩
  ·obtain ⟨g,off,rfl,h3⟩ := slice2_at h2 h0
   refine .inr ⟨g,off,cap,rfl,hc,fun i r hr => ?_⟩
   obtain ⟨v0,v1,d0,d1,rfl,rfl⟩ := h3 i r hr
   exact ⟨d0,d1⟩
theorem one_tab_of {n : Nat} {cs : List Value} {x : DataW H × List MemPlace} (ht : DataW.trod enc Tryz.prog W 0 (fun _ => true) true n 63 cs = some x) :
  ∃ (t : Tb) (v0 v1 : Value),cs[0]? = some v0 ∧ cs[1]? = some v1 ∧ v0 = .string t.1 ∧ RR W v1 t.2 := by
 obtain ⟨xs,m,_,hx,hl,hxl,hf⟩ := DataW.trod_struct Tryz.underlying63 ht
 rw [show Tryz.prog.cellsOf 63 = 2 by kernel_rfl] at hl
 match cs,hl with
 | [c0,c1],_ =>
 match xs,hxl with
 | [y0,y1],_ =>
  have h0 : DataW.trod enc Tryz.prog W 0 (fun _ => true) true m 9 (List.take (Tryz.prog.cellsOf 9) (List.drop 0 [c0,c1])) = some y0 := hf 0 _ rfl
  have h1 : DataW.trod enc Tryz.prog W 0 (fun _ => true) true m 39 (List.take (Tryz.prog.cellsOf 39) (List.drop 1 [c0,c1])) = some y1 := hf 1 _ rfl
  rw [one_str] at h0
  rw [one_rows] at h1
  obtain ⟨z,e0,_,_⟩ := DataW.trod_string Tryz.underlying9 h0
  injection e0 with e0 _
  obtain ⟨l,hr⟩ := rows_of h1
  exact ⟨(z,l),c0,c1,rfl,rfl,e0,hr⟩
end
def FitsS (W : World) (v : Value) : Prop := ∃ s : List Tb,SR W v s
theorem openedS {H : Type} {enc : TypeId × Value → H} {W : World} {base : Nat} {v : Value} {d : DataW H} {p : List MemPlace} (hv : Value.okWide Tryz.prog W .any base 22 v)
  (h : DataW.Trod enc Tryz.prog W 0 (fun _ => true) true 22 v d p) (hz : (DataW.weights Tryz.prog 22 d).all (· ≤ reachBytes) = true) : FitsS W v := by
 obtain ⟨a,ln,cp,rfl⟩ := okWide_slice Tryz.underlying22 hv
 obtain ⟨fuel,hf⟩ := h
 rcases slice2 (α := Tb) (Q := fun t v0 v1 => v0 = .string t.1 ∧ RR W v1 t.2) Tryz.underlying22 (by kernel_rfl) (fun ht => one_tab_of ht) hf with e | ⟨l,ad,cap,e,hc,h2⟩
 ·rw [e]; exact ⟨[],.inl ⟨_,_,rfl,rfl⟩⟩
 ·rw [e]
  refine ⟨l,?_⟩
  by_cases h0 : l = []
  ·subst h0; exact .inl ⟨_,_,rfl,rfl⟩
  ·obtain ⟨g,off,rfl,h3⟩ := slice2_at h2 h0
   refine .inr ⟨g,off,cap,rfl,hc,fun i r hr => ?_⟩
   obtain ⟨v0,v1,d0,d1,rfl,hr1⟩ := h3 i r hr
   exact ⟨d0,v1,d1,hr1⟩
end Go.Proofs.YtjmmninopagpjaaGreatDoor
namespace Go.Proofs.YtjmmninopagpjaaGreatDoor
open Go.Deep Go.Maps
open Go.ChangeShapes Go.WideShapes Go.ChangeAt Go.RowKit Go.ChangeMaps
set_option maxRecDepth 100000
set_option linter.unusedVariables false
set_option linter.unusedSimpArgs false

section
variable {H : Type} {enc : TypeId × Value → H} {W : World}
theorem slice_any9 {α : Type} {ts te : TypeId} {m : Nat} {Q : α → List Value → Prop} (hu : Tryz.prog.underlying ts = some (.slice te)) (hC : Tryz.prog.cellsOf te = m)
  (one : ∀ {n : Nat} {cs : List Value} {x : DataW H × List MemPlace},DataW.trod enc Tryz.prog W 0 (fun _ => true) true n te cs = some x → ∃ a : α,Q a cs)
  {fuel : Nat} {c : Value} {x : DataW H × List MemPlace} (h : DataW.trod enc Tryz.prog W 0 (fun _ => true) true fuel ts [c] = some x) :
  c = .slice none 0 0 ∨ ∃ (l : List α) (ad : Addr) (cap : Nat),c = .slice (some ad) l.length cap ∧ l.length ≤ cap ∧ ∀ (i : Nat) (a : α),l[i]? = some a → ∃ cs,Q a cs ∧ cs.length = m ∧ ∀ j,j < m → W.cell? ((ad.add (i * m)).add j) = cs[j]? := by
 rcases open_slice hu h with ⟨e,_⟩ | ⟨ad,len,cap,k,n,D,Pl,hcs,hb,hl,hm,hmm,hx,hi⟩
 ·injection e with e _
  exact .inl e
 ·injection hcs with hcs _
  subst hcs
  rw [hC] at hi
  have hlm : len ≤ k := by rw [hmm]; simp; exact hl
  have key : ∀ j,j ≤ len → ∃ l : List α,l.length = j ∧ ∀ (i : Nat) (a : α),l[i]? = some a → ∃ cs,Q a cs ∧ cs.length = m ∧ ∀ j,j < m → W.cell? ((ad.add (i * m)).add j) = cs[j]? := by
   intro j
   induction j with
   | zero => intro _; exact ⟨[],rfl,fun i x hi => by simp at hi⟩
   | succ j ih =>
    intro hj
    obtain ⟨l,h1,h2⟩ := ih (by omega)
    obtain ⟨cs',hc,ht⟩ := hi j (by omega)
    obtain ⟨_,hcl,hat⟩ := World.cells?_some hc
    obtain ⟨a,hq⟩ := one ht
    refine ⟨l ++ [a],by simp [h1],fun i x hx' => ?_⟩
    by_cases hij : i < l.length
    ·rw [List.getElem?_append_left hij] at hx'
     exact h2 i x hx'
    ·have hlt := (List.getElem?_eq_some_iff.1 hx').1
     have hie : i = j := by simp at hlt; omega
     subst hie
     rw [List.getElem?_append_right (by omega),h1,Nat.sub_self] at hx'
     simp at hx'
     subst hx'
     exact ⟨cs',hq,hcl,fun q hq2 => hat q hq2⟩
  obtain ⟨l,h1,h2⟩ := key len (Nat.le_refl _)
  exact .inr ⟨l,ad,cap,by rw [h1],by omega,h2⟩

theorem one_cmdc9 : Tryz.prog.cellsOf 34 = 5 := by kernel_rfl
def cmB (c : Cm) : Prop := i64B c.1 ∧ i64B c.2.2.1 ∧ i64B c.2.2.2.1
theorem one_cmd9 {n : Nat} {cs : List Value} {x : DataW H × List MemPlace} (ht : DataW.trod enc Tryz.prog W 0 (fun _ => true) true n 34 cs = some x) :
  ∃ c : Cm,cs = [.int .i64 c.1,.string c.2.1,.int .i64 c.2.2.1,.int .i64 c.2.2.2.1,.bool c.2.2.2.2] ∧ cmB c := by
 obtain ⟨xs,m,_,hx,hl,hxl,hf⟩ := DataW.trod_struct Tryz.underlying34 ht
 rw [one_cmdc9] at hl
 match cs,hl with
 | [c0,c1,c2,c3,c4],_ =>
 match xs,hxl with
 | [y0,y1,y2,y3,y4],_ =>
  have h0 : DataW.trod enc Tryz.prog W 0 (fun _ => true) true m 3 (List.take (Tryz.prog.cellsOf 3) (List.drop 0 [c0,c1,c2,c3,c4])) = some y0 := hf 0 _ rfl
  have h1 : DataW.trod enc Tryz.prog W 0 (fun _ => true) true m 9 (List.take (Tryz.prog.cellsOf 9) (List.drop 1 [c0,c1,c2,c3,c4])) = some y1 := hf 1 _ rfl
  have h2 : DataW.trod enc Tryz.prog W 0 (fun _ => true) true m 3 (List.take (Tryz.prog.cellsOf 3) (List.drop 2 [c0,c1,c2,c3,c4])) = some y2 := hf 2 _ rfl
  have h3 : DataW.trod enc Tryz.prog W 0 (fun _ => true) true m 3 (List.take (Tryz.prog.cellsOf 3) (List.drop 3 [c0,c1,c2,c3,c4])) = some y3 := hf 3 _ rfl
  have h4 : DataW.trod enc Tryz.prog W 0 (fun _ => true) true m 4 (List.take (Tryz.prog.cellsOf 4) (List.drop 4 [c0,c1,c2,c3,c4])) = some y4 := hf 4 _ rfl
  rw [one_int] at h0 h2 h3
  rw [one_str] at h1
  rw [one_bool] at h4
  obtain ⟨x0,e0,_,w0⟩ := DataW.trod_int Tryz.underlying3 h0
  obtain ⟨x1,e1,_,_⟩ := DataW.trod_string Tryz.underlying9 h1
  obtain ⟨x2,e2,_,w2⟩ := DataW.trod_int Tryz.underlying3 h2
  obtain ⟨x3,e3,_,w3⟩ := DataW.trod_int Tryz.underlying3 h3
  obtain ⟨x4,e4,_⟩ := DataW.trod_bool Tryz.underlying4 h4
  injection e0 with e0 _
  injection e1 with e1 _
  injection e2 with e2 _
  injection e3 with e3 _
  injection e4 with e4 _
  subst e0 e1 e2 e3 e4
  exact ⟨(x0,x1,x2,x3,x4),rfl,i64_of _ w0,i64_of _ w2,i64_of _ w3⟩
abbrev Op9 : Type := Int × Int × Cm
def opB9 (o : Op9) : Prop := i64B o.1 ∧ i64B o.2.1 ∧ cmB o.2.2
theorem one_op9 {n : Nat} {cs : List Value} {x : DataW H × List MemPlace} (ht : DataW.trod enc Tryz.prog W 0 (fun _ => true) true n 36 cs = some x) :
  ∃ o : Op9,cs = [.int .i64 o.1,.int .i64 o.2.1,.int .i64 o.2.2.1,.string o.2.2.2.1,.int .i64 o.2.2.2.2.1,.int .i64 o.2.2.2.2.2.1,.bool o.2.2.2.2.2.2] ∧ opB9 o := by
 obtain ⟨xs,m,_,hx,hl,hxl,hf⟩ := DataW.trod_struct Tryz.underlying36 ht
 rw [show Tryz.prog.cellsOf 36 = 7 by kernel_rfl] at hl
 match cs,hl with
 | [c0,c1,c2,c3,c4,c5,c6],_ =>
 match xs,hxl with
 | [y0,y1,y2],_ =>
  have h0 : DataW.trod enc Tryz.prog W 0 (fun _ => true) true m 3 (List.take (Tryz.prog.cellsOf 3) (List.drop 0 [c0,c1,c2,c3,c4,c5,c6])) = some y0 := hf 0 _ rfl
  have h1 : DataW.trod enc Tryz.prog W 0 (fun _ => true) true m 3 (List.take (Tryz.prog.cellsOf 3) (List.drop 1 [c0,c1,c2,c3,c4,c5,c6])) = some y1 := hf 1 _ rfl
  have h2 : DataW.trod enc Tryz.prog W 0 (fun _ => true) true m 34 (List.take (Tryz.prog.cellsOf 34) (List.drop 2 [c0,c1,c2,c3,c4,c5,c6])) = some y2 := hf 2 _ rfl
  rw [one_int] at h0 h1
  rw [one_cmdc9] at h2
  obtain ⟨x0,e0,_,w0⟩ := DataW.trod_int Tryz.underlying3 h0
  obtain ⟨x1,e1,_,w1⟩ := DataW.trod_int Tryz.underlying3 h1
  obtain ⟨c,e2,hb⟩ := one_cmd9 h2
  injection e0 with e0 _
  injection e1 with e1 _
  injection e2 with f0 e2
  injection e2 with f1 e2
  injection e2 with f2 e2
  injection e2 with f3 e2
  injection e2 with f4 _
  subst e0 e1 f0 f1 f2 f3 f4
  exact ⟨(x0,x1,c),rfl,i64_of _ w0,i64_of _ w1,hb⟩
def CsR (w : World) (v : Value) (l : List Cm) : Prop :=
 (∃ a cap,l = [] ∧ v = .slice a 0 cap) ∨ ∃ g off cap,v = .slice (some ⟨g,off,none⟩) l.length cap ∧ l.length ≤ cap ∧ ∀ (i : Nat) (o : Cm),l[i]? = some o → cmB o ∧ w.cell? ⟨g,off + i * 5,none⟩ = some (.int .i64 o.1) ∧ w.cell? ⟨g,off + i * 5 + 1,none⟩ = some (.string o.2.1) ∧ w.cell? ⟨g,off + i * 5 + 2,none⟩ = some (.int .i64 o.2.2.1) ∧ w.cell? ⟨g,off + i * 5 + 3,none⟩ = some (.int .i64 o.2.2.2.1) ∧ w.cell? ⟨g,off + i * 5 + 4,none⟩ = some (.bool o.2.2.2.2)
def FitsCs (W : World) (v : Value) : Prop := ∃ l,CsR W v l
theorem openedCs {base : Nat} {v : Value} {d : DataW H} {p : List MemPlace} (hv : Value.okWide Tryz.prog W .any base 54 v)
  (h : DataW.Trod enc Tryz.prog W 0 (fun _ => true) true 54 v d p) (hz : (DataW.weights Tryz.prog 54 d).all (· ≤ reachBytes) = true) : FitsCs W v := by
 obtain ⟨a,ln,cp,rfl⟩ := okWide_slice Tryz.underlying54 hv
 obtain ⟨fuel,hf⟩ := h
 rcases slice_any9 (α := Cm) (m := 5) (Q := fun o cs => cs = [.int .i64 o.1,.string o.2.1,.int .i64 o.2.2.1,.int .i64 o.2.2.2.1,.bool o.2.2.2.2] ∧ cmB o) Tryz.underlying54 (by kernel_rfl) (fun ht => one_cmd9 ht) hf with e | ⟨l,ad,cap,e,hc,h2⟩
 ·rw [e]; exact ⟨[],.inl ⟨_,_,rfl,rfl⟩⟩
 ·rw [e]
  refine ⟨l,?_⟩
  by_cases h0 : l = []
  ·subst h0; exact .inl ⟨_,_,rfl,rfl⟩
  ·obtain ⟨x,hx0⟩ : ∃ x,l[0]? = some x := ⟨l[0]'(by cases l; exact absurd rfl h0; simp),List.getElem?_eq_getElem _⟩
   obtain ⟨cs,⟨rfl,_⟩,_,hat⟩ := h2 0 x hx0
   have c0 := hat 0 (by omega)
   have e0 : (ad.add (0 * 5)).add 0 = ad := by simp [Addr.add]
   rw [e0] at c0
   have hsp := spot_none c0
   obtain ⟨bl,of,sp⟩ := ad
   simp only at hsp
   subst hsp
   refine .inr ⟨bl,of,cap,rfl,hc,fun i o hy => ?_⟩
   obtain ⟨cs,⟨rfl,hb⟩,_,hat⟩ := h2 i o hy
   have a0 := hat 0 (by omega)
   have a1 := hat 1 (by omega)
   have a2 := hat 2 (by omega)
   have a3 := hat 3 (by omega)
   have a4 := hat 4 (by omega)
   simp only [Addr.add_lit,Nat.add_zero] at a0 a1 a2 a3 a4
   exact ⟨hb,a0,a1,a2,a3,a4⟩
theorem CsR.below {w w' : World} {v : Value} {l : List Cm} (h : CsR w v l) (hb : Below w.heap.size w w') : CsR w' v l := by
 have hk : ∀ (p : Addr) (u : Value),w.cell? p = some u → w'.cell? p = some u := fun p u hp => (hb.cell (World.block_lt_of_cell? w p hp)).trans hp
 rcases h with h | ⟨g,off,cap,e,hc,hx⟩
 ·exact .inl h
 ·exact .inr ⟨g,off,cap,e,hc,fun i o hi => by
   obtain ⟨h0,h1,h2,h3,h4,h5⟩ := hx i o hi
   exact ⟨h0,hk _ _ h1,hk _ _ h2,hk _ _ h3,hk _ _ h4,hk _ _ h5⟩⟩
theorem CsR.form {w : World} {v : Value} {l : List Cm} (h : CsR w v l) : ∃ a cap,v = .slice a l.length cap := by
 rcases h with ⟨a,cap,rfl,rfl⟩ | ⟨g,off,cap,rfl,_⟩
 ·exact ⟨_,_,rfl⟩
 ·exact ⟨_,_,rfl⟩
theorem CsR.inv {w : World} {v : Value} {l : List Cm} (h : CsR w v l) (hp : 0 < l.length) : ∃ g off cap,v = .slice (some ⟨g,off,none⟩) l.length cap ∧ l.length ≤ cap ∧ ∀ (i : Nat) (o : Cm),l[i]? = some o → cmB o ∧ w.cell? ⟨g,off + i * 5,none⟩ = some (.int .i64 o.1) ∧ w.cell? ⟨g,off + i * 5 + 1,none⟩ = some (.string o.2.1) ∧ w.cell? ⟨g,off + i * 5 + 2,none⟩ = some (.int .i64 o.2.2.1) ∧ w.cell? ⟨g,off + i * 5 + 3,none⟩ = some (.int .i64 o.2.2.2.1) ∧ w.cell? ⟨g,off + i * 5 + 4,none⟩ = some (.bool o.2.2.2.2) := by
 rcases h with ⟨a,cap,rfl,rfl⟩ | h
 ·simp at hp
 ·exact h
def OsR (w : World) (v : Value) (l : List Op9) : Prop :=
 (∃ a cap,l = [] ∧ v = .slice a 0 cap) ∨ ∃ g off cap,v = .slice (some ⟨g,off,none⟩) l.length cap ∧ l.length ≤ cap ∧ ∀ (i : Nat) (o : Op9),l[i]? = some o → opB9 o ∧ w.cell? ⟨g,off + i * 7,none⟩ = some (.int .i64 o.1) ∧ w.cell? ⟨g,off + i * 7 + 1,none⟩ = some (.int .i64 o.2.1) ∧ w.cell? ⟨g,off + i * 7 + 2,none⟩ = some (.int .i64 o.2.2.1) ∧ w.cell? ⟨g,off + i * 7 + 3,none⟩ = some (.string o.2.2.2.1) ∧ w.cell? ⟨g,off + i * 7 + 4,none⟩ = some (.int .i64 o.2.2.2.2.1) ∧ w.cell? ⟨g,off + i * 7 + 5,none⟩ = some (.int .i64 o.2.2.2.2.2.1) ∧ w.cell? ⟨g,off + i * 7 + 6,none⟩ = some (.bool o.2.2.2.2.2.2)
def FitsOs (W : World) (v : Value) : Prop := ∃ l,OsR W v l
theorem openedOs {base : Nat} {v : Value} {d : DataW H} {p : List MemPlace} (hv : Value.okWide Tryz.prog W .any base 23 v)
  (h : DataW.Trod enc Tryz.prog W 0 (fun _ => true) true 23 v d p) (hz : (DataW.weights Tryz.prog 23 d).all (· ≤ reachBytes) = true) : FitsOs W v := by
 obtain ⟨a,ln,cp,rfl⟩ := okWide_slice Tryz.underlying23 hv
 obtain ⟨fuel,hf⟩ := h
 rcases slice_any9 (α := Op9) (m := 7) (Q := fun o cs => cs = [.int .i64 o.1,.int .i64 o.2.1,.int .i64 o.2.2.1,.string o.2.2.2.1,.int .i64 o.2.2.2.2.1,.int .i64 o.2.2.2.2.2.1,.bool o.2.2.2.2.2.2] ∧ opB9 o) Tryz.underlying23 (by kernel_rfl) (fun ht => one_op9 ht) hf with e | ⟨l,ad,cap,e,hc,h2⟩
 ·rw [e]; exact ⟨[],.inl ⟨_,_,rfl,rfl⟩⟩
 ·rw [e]
  refine ⟨l,?_⟩
  by_cases h0 : l = []
  ·subst h0; exact .inl ⟨_,_,rfl,rfl⟩
  ·obtain ⟨x,hx0⟩ : ∃ x,l[0]? = some x := ⟨l[0]'(by cases l; exact absurd rfl h0; simp),List.getElem?_eq_getElem _⟩
   obtain ⟨cs,⟨rfl,_⟩,_,hat⟩ := h2 0 x hx0
   have c0 := hat 0 (by omega)
   have e0 : (ad.add (0 * 7)).add 0 = ad := by simp [Addr.add]
   rw [e0] at c0
   have hsp := spot_none c0
   obtain ⟨bl,of,sp⟩ := ad
   simp only at hsp
   subst hsp
   refine .inr ⟨bl,of,cap,rfl,hc,fun i o hy => ?_⟩
   obtain ⟨cs,⟨rfl,hb⟩,_,hat⟩ := h2 i o hy
   have a0 := hat 0 (by omega)
   have a1 := hat 1 (by omega)
   have a2 := hat 2 (by omega)
   have a3 := hat 3 (by omega)
   have a4 := hat 4 (by omega)
   have a5 := hat 5 (by omega)
   have a6 := hat 6 (by omega)
   simp only [Addr.add_lit,Nat.add_zero] at a0 a1 a2 a3 a4 a5 a6
   exact ⟨hb,a0,a1,a2,a3,a4,a5,a6⟩
theorem OsR.below {w w' : World} {v : Value} {l : List Op9} (h : OsR w v l) (hb : Below w.heap.size w w') : OsR w' v l := by
 have hk : ∀ (p : Addr) (u : Value),w.cell? p = some u → w'.cell? p = some u := fun p u hp => (hb.cell (World.block_lt_of_cell? w p hp)).trans hp
 rcases h with h | ⟨g,off,cap,e,hc,hx⟩
 ·exact .inl h
 ·exact .inr ⟨g,off,cap,e,hc,fun i o hi => by
   obtain ⟨h0,h1,h2,h3,h4,h5,h6,h7⟩ := hx i o hi
   exact ⟨h0,hk _ _ h1,hk _ _ h2,hk _ _ h3,hk _ _ h4,hk _ _ h5,hk _ _ h6,hk _ _ h7⟩⟩
theorem OsR.form {w : World} {v : Value} {l : List Op9} (h : OsR w v l) : ∃ a cap,v = .slice a l.length cap := by
 rcases h with ⟨a,cap,rfl,rfl⟩ | ⟨g,off,cap,rfl,_⟩
 ·exact ⟨_,_,rfl⟩
 ·exact ⟨_,_,rfl⟩
theorem OsR.inv {w : World} {v : Value} {l : List Op9} (h : OsR w v l) (hp : 0 < l.length) : ∃ g off cap,v = .slice (some ⟨g,off,none⟩) l.length cap ∧ l.length ≤ cap ∧ ∀ (i : Nat) (o : Op9),l[i]? = some o → opB9 o ∧ w.cell? ⟨g,off + i * 7,none⟩ = some (.int .i64 o.1) ∧ w.cell? ⟨g,off + i * 7 + 1,none⟩ = some (.int .i64 o.2.1) ∧ w.cell? ⟨g,off + i * 7 + 2,none⟩ = some (.int .i64 o.2.2.1) ∧ w.cell? ⟨g,off + i * 7 + 3,none⟩ = some (.string o.2.2.2.1) ∧ w.cell? ⟨g,off + i * 7 + 4,none⟩ = some (.int .i64 o.2.2.2.2.1) ∧ w.cell? ⟨g,off + i * 7 + 5,none⟩ = some (.int .i64 o.2.2.2.2.2.1) ∧ w.cell? ⟨g,off + i * 7 + 6,none⟩ = some (.bool o.2.2.2.2.2.2) := by
 rcases h with ⟨a,cap,rfl,rfl⟩ | h
 ·simp at hp
 ·exact h
theorem one_u89 {n : Nat} {cs : List Value} {x : DataW H × List MemPlace} (ht : DataW.trod enc Tryz.prog W 0 (fun _ => true) true n 5 cs = some x) : ∃ o : Int,cs = [.int .u8 o] ∧ (0 ≤ o ∧ o ≤ 255) := by
 obtain ⟨x,e,_,wx⟩ := DataW.trod_int Tryz.underlying5 ht
 refine ⟨x,e,?_⟩
 simp [Lit.wf,IntKind.min,IntKind.max,IntKind.signed,IntKind.bits] at wx
 omega
def UsR (w : World) (v : Value) (l : List Int) : Prop :=
 (∃ a cap,l = [] ∧ v = .slice a 0 cap) ∨ ∃ g off cap,v = .slice (some ⟨g,off,none⟩) l.length cap ∧ l.length ≤ cap ∧ ∀ (i : Nat) (o : Int),l[i]? = some o → (0 ≤ o ∧ o ≤ 255) ∧ w.cell? ⟨g,off + i,none⟩ = some (.int .u8 o)
def FitsU9 (W : World) (v : Value) : Prop := ∃ l,UsR W v l
theorem openedU9 {base : Nat} {v : Value} {d : DataW H} {p : List MemPlace} (hv : Value.okWide Tryz.prog W .any base 60 v)
  (h : DataW.Trod enc Tryz.prog W 0 (fun _ => true) true 60 v d p) (hz : (DataW.weights Tryz.prog 60 d).all (· ≤ reachBytes) = true) : FitsU9 W v := by
 obtain ⟨a,ln,cp,rfl⟩ := okWide_slice Tryz.underlying60 hv
 obtain ⟨fuel,hf⟩ := h
 rcases slice_any9 (α := Int) (m := 1) (Q := fun o cs => cs = [.int .u8 o] ∧ (0 ≤ o ∧ o ≤ 255)) Tryz.underlying60 (by kernel_rfl) (fun ht => one_u89 ht) hf with e | ⟨l,ad,cap,e,hc,h2⟩
 ·rw [e]; exact ⟨[],.inl ⟨_,_,rfl,rfl⟩⟩
 ·rw [e]
  refine ⟨l,?_⟩
  by_cases h0 : l = []
  ·subst h0; exact .inl ⟨_,_,rfl,rfl⟩
  ·obtain ⟨x,hx0⟩ : ∃ x,l[0]? = some x := ⟨l[0]'(by cases l; exact absurd rfl h0; simp),List.getElem?_eq_getElem _⟩
   obtain ⟨cs,⟨rfl,_⟩,_,hat⟩ := h2 0 x hx0
   have c0 := hat 0 (by omega)
   have e0 : (ad.add (0 * 1)).add 0 = ad := by simp [Addr.add]
   rw [e0] at c0
   have hsp := spot_none c0
   obtain ⟨bl,of,sp⟩ := ad
   simp only at hsp
   subst hsp
   refine .inr ⟨bl,of,cap,rfl,hc,fun i o hy => ?_⟩
   obtain ⟨cs,⟨rfl,hb⟩,_,hat⟩ := h2 i o hy
   have a0 := hat 0 (by omega)
   simp only [Addr.add_lit,Nat.add_zero,Nat.mul_one] at a0
   exact ⟨hb,a0⟩
theorem UsR.below {w w' : World} {v : Value} {l : List Int} (h : UsR w v l) (hb : Below w.heap.size w w') : UsR w' v l := by
 have hk : ∀ (p : Addr) (u : Value),w.cell? p = some u → w'.cell? p = some u := fun p u hp => (hb.cell (World.block_lt_of_cell? w p hp)).trans hp
 rcases h with h | ⟨g,off,cap,e,hc,hx⟩
 ·exact .inl h
 ·exact .inr ⟨g,off,cap,e,hc,fun i o hi => by
   obtain ⟨h0,h1⟩ := hx i o hi
   exact ⟨h0,hk _ _ h1⟩⟩
theorem UsR.form {w : World} {v : Value} {l : List Int} (h : UsR w v l) : ∃ a cap,v = .slice a l.length cap := by
 rcases h with ⟨a,cap,rfl,rfl⟩ | ⟨g,off,cap,rfl,_⟩
 ·exact ⟨_,_,rfl⟩
 ·exact ⟨_,_,rfl⟩
theorem UsR.inv {w : World} {v : Value} {l : List Int} (h : UsR w v l) (hp : 0 < l.length) : ∃ g off cap,v = .slice (some ⟨g,off,none⟩) l.length cap ∧ l.length ≤ cap ∧ ∀ (i : Nat) (o : Int),l[i]? = some o → (0 ≤ o ∧ o ≤ 255) ∧ w.cell? ⟨g,off + i,none⟩ = some (.int .u8 o) := by
 rcases h with ⟨a,cap,rfl,rfl⟩ | h
 ·simp at hp
 ·exact h
end

def idS (S : List Tb) (kd : Int) (n : ByteArray) (K V : Int) (kb tx : Bool) : List Tb × List Rw × Int :=
 if tx = true then (if (doS S kd n K V kb).2.2 = 0 then (if kd = 1 then (S,(doS S kd n K V kb).2.1,0) else (putS S (n,(lkT (doS S kd n K V kb).1 n).getD []),[],0)) else (S,[],(doS S kd n K V kb).2.2)) else (S,[],1)
def noO : Int → Ses := fun _ => none
theorem setO_no (id : Int) : setO noO id none = noO := funext fun x => by
 unfold setO noO
 split <;> rfl
theorem run_idle (S : List Tb) (id : Int) (hs : isS id = true) (kd : Int) (n : ByteArray) (K V : Int) (kb tx : Bool) :
  runP (S,noO) id 2 kd n K V kb tx = (((idS S kd n K V kb tx).1,noO),(idS S kd n K V kb tx).2.1,(idS S kd n K V kb tx).2.2) := by
 have hse : seenP (S,noO) id = S := rfl
 have hst : stO (noO id) ≠ 69 := show stO none ≠ 69 by decide
 unfold runP
 rw [if_pos hs]
 unfold runS
 rw [if_neg (by decide),if_neg (by decide),if_neg (by decide),if_neg hst,if_neg (by decide),if_pos (.inr (.inl rfl))]
 unfold idS
 cases tx with
 | false => simp
 | true =>
  simp only [if_true]
  unfold doP
  rw [hse]
  split
  ·split
   ·rfl
   ·rfl
  ·show ((S,setO noO id (failO (noO id))),_,_) = _
   have e : failO (noO id) = none := rfl
   rw [e,setO_no]
theorem stat_idle (S : List Tb) (id : Int) (hs : isS id = true) : statP (S,noO) id = 73 := by
 unfold statP
 rw [if_pos hs]; rfl
set_option maxHeartbeats 4000000 in
theorem idle_light (v l u : Value) (s : List Tb) (L : List Cm) (U : List Int) (m : Int) (w : World) (hm : Wq m w) (hs : SR w v s) (hL : CsR w l L) (hU : UsR w u U) (hl : lightS s = false) :
  Calls Tryz.prog 7 #[v,l,u] w fun e w' => e = .returned (.bool true) ∧ Below w.heap.size w w' := by
 have HM := Lib.hid hm
 have HS := Lib.hid hs
 have HCL := Lib.hid hL
 have HCU := Lib.hid hU
 obtain ⟨va,vc,rfl⟩ := hs.form
 obtain ⟨la,lc,rfl⟩ := hL.form
 obtain ⟨ua,uc,rfl⟩ := hU.form
 clear hm hs hL hU
 go_enter Tryz.func7,Tryz.ntmps7
 go_wp2_with fail
 refine (light9 _ s false hl w HS.out).mono ?_
 rintro e w1 ⟨rfl,hb⟩
 have HB := Lib.hid hb
 clear hb
 go_wp2_with fail
 refine (known9_any m _ (wq_bel HM.out HB.out)).mono ?_
 rintro e w9 ⟨rfl,hb⟩
 have HB := Lib.hid (HB.out.trans (hb.mono HB.out.size))
 clear hb
 go_wp2
 go_ret
 exact ⟨rfl,HB.out⟩
set_option maxHeartbeats 4000000 in
theorem idle_right (v l u : Value) (s : List Tb) (L : List Cm) (U : List Int) (m : Int) (w : World) (hm : Wq m w) (hs : SR w v s) (hL : CsR w l L) (hU : UsR w u U) (hl : lightS s = true) (hr : rightL s = false) :
  Calls Tryz.prog 7 #[v,l,u] w fun e w' => e = .returned (.bool true) ∧ Below w.heap.size w w' := by
 have HM := Lib.hid hm
 have HS := Lib.hid hs
 have HCL := Lib.hid hL
 have HCU := Lib.hid hU
 obtain ⟨va,vc,rfl⟩ := hs.form
 obtain ⟨la,lc,rfl⟩ := hL.form
 obtain ⟨ua,uc,rfl⟩ := hU.form
 clear hm hs hL hU
 go_enter Tryz.func7,Tryz.ntmps7
 go_wp2_with fail
 refine (light9 _ s true hl w HS.out).mono ?_
 rintro e w1 ⟨rfl,hb⟩
 have HB := Lib.hid hb
 clear hb
 go_wp2_with fail
 refine (rright9 _ s false hr (light_fewS hl) w1 (HS.out.below HB.out)).mono ?_
 rintro e w2 ⟨rfl,hb⟩
 have HB := Lib.hid (HB.out.trans (hb.mono HB.out.size))
 clear hb
 go_wp2_with fail
 refine (known9_any m _ (wq_bel HM.out HB.out)).mono ?_
 rintro e w9 ⟨rfl,hb⟩
 have HB := Lib.hid (HB.out.trans (hb.mono HB.out.size))
 clear hb
 go_wp2
 go_ret
 exact ⟨rfl,HB.out⟩
set_option maxHeartbeats 4000000 in
theorem idle_long (v l u : Value) (s : List Tb) (L : List Cm) (U : List Int) (m : Int) (w : World) (hm : Wq m w) (hs : SR w v s) (hL : CsR w l L) (hU : UsR w u U) (hl : lightS s = true) (hr : rightL s = true) (hn : 30 < L.length) :
  Calls Tryz.prog 7 #[v,l,u] w fun e w' => e = .returned (.bool true) ∧ Below w.heap.size w w' := by
 have HM := Lib.hid hm
 have HS := Lib.hid hs
 have HCL := Lib.hid hL
 have HCU := Lib.hid hU
 obtain ⟨va,vc,rfl⟩ := hs.form
 obtain ⟨la,lc,rfl⟩ := hL.form
 obtain ⟨ua,uc,rfl⟩ := hU.form
 have l1 : (30 : Int) < (L.length : Int) := by omega
 clear hm hs hL hU hn
 go_enter Tryz.func7,Tryz.ntmps7
 go_wp2_with fail
 refine (light9 _ s true hl w HS.out).mono ?_
 rintro e w1 ⟨rfl,hb⟩
 have HB := Lib.hid hb
 clear hb
 go_wp2_with fail
 refine (rright9 _ s true hr (light_fewS hl) w1 (HS.out.below HB.out)).mono ?_
 rintro e w2 ⟨rfl,hb⟩
 have HB := Lib.hid (HB.out.trans (hb.mono HB.out.size))
 clear hb
 go_wp2_with fail
 refine (known9_any m _ (wq_bel HM.out HB.out)).mono ?_
 rintro e w9 ⟨rfl,hb⟩
 have HB := Lib.hid (HB.out.trans (hb.mono HB.out.size))
 clear hb
 go_wp2
 go_ret
 exact ⟨rfl,HB.out⟩
theorem idS_rows {S : List Tb} {k : Nat} {kd : Int} {n : ByteArray} {K V : Int} {kb tx : Bool} {T : List Tb × List Rw × Int} (h : InvP (S,noO) k) (hT : idS S kd n K V kb tx = T) : T.2.1.length ≤ 1000000 := by
 have hp := h.st
 have hd : (doS S kd n K V kb).2.1.length ≤ 1000000 := by
  rcases do_cases S kd n K V kb with ⟨_,⟨_,e⟩ | ⟨_,_,e⟩ | ⟨_,_,e⟩⟩ | ⟨_,_,e⟩ | ⟨_,i,t,ht,_,e⟩ <;> rw [e]
  ·simp
  ·simp
  ·simp
  ·simp
  ·split
   ·have := (hp.each t (List.mem_of_getElem? ht)).2.2.len
    have h2 := List.length_filter_le (meantB kb K) t.2
    show (getR kb K t.2).length ≤ _
    unfold getR; omega
   ·simp
 rw [← hT]
 unfold idS
 split
 ·split
  ·split
   ·exact hd
   ·simp
  ·simp
 ·simp
theorem cells5_below {w w' : World} {g off cap : Nat} {L : List Cm} {i : Nat} {kd : Int} {nm : ByteArray} {K V : Int} {kb : Bool} (hb : Below w.heap.size w w') (h : CsR w (.slice (some ⟨g,off,none⟩) L.length cap) L) (hi : i < L.length) (hc : L[i]? = some (kd,nm,K,V,kb)) :
  w'.cell? ⟨g,off + i * 5,none⟩ = some (.int .i64 kd) ∧ w'.cell? ⟨g,off + i * 5 + 1,none⟩ = some (.string nm) ∧ w'.cell? ⟨g,off + i * 5 + 2,none⟩ = some (.int .i64 K) ∧ w'.cell? ⟨g,off + i * 5 + 3,none⟩ = some (.int .i64 V) ∧ w'.cell? ⟨g,off + i * 5 + 4,none⟩ = some (.bool kb) := by
 obtain ⟨g',o',c',he,_,hx⟩ := (h.below hb).inv (by omega)
 injection he with ea _ ec
 injection ea with ea
 injection ea with e1 e2 _
 subst e1 e2 ec
 exact (hx i _ hc).2
theorem LD2.mono2 {w0 w : World} {g n g2 m : Nat} {D D2 : Dbp} (h : LD2 w0 w g n D g2 n D2) (hm : n ≤ m) : LD2 w0 w g m D g2 m D2 := by
 obtain ⟨C,C2,h1,h2,h3,h4⟩ := h
 exact ⟨C,C2,h1.mono hm,h2.mono hm,h3,h4⟩
set_option maxHeartbeats 16000000 in
theorem idle_main (v l u : Value) (s : List Tb) (L : List Cm) (U : List Int) (m : Int) (w : World) (hm : Wq m w) (hs : SR w v s) (hL : CsR w l L) (hU : UsR w u U) (hl : lightS s = true) (hr : rightL s = true) (hn : L.length ≤ 30) :
  Calls Tryz.prog 7 #[v,l,u] w fun e w' => e = .returned (.bool true) ∧ Below w.heap.size w w' := by
 have HM := Lib.hid hm
 have HS := Lib.hid hs
 have HCL := Lib.hid hL
 have HCU := Lib.hid hU
 obtain ⟨va,vc,rfl⟩ := hs.form
 obtain ⟨la,lc,rfl⟩ := hL.form
 obtain ⟨ua,uc,rfl⟩ := hU.form
 have l1 : ¬ ((30 : Int) < (L.length : Int)) := by omega
 have HN := Lib.hid hn
 have HRT := Lib.hid hr
 clear hm hs hL hU hn
 go_enter Tryz.func7,Tryz.ntmps7
 go_wp2_with fail
 refine (light9 _ s true hl w HS.out).mono ?_
 rintro e w1 ⟨rfl,hb⟩
 have HB := Lib.hid hb
 clear hb
 go_wp2_with fail
 refine (rright9 _ s true hr (light_fewS hl) w1 (HS.out.below HB.out)).mono ?_
 rintro e w2 ⟨rfl,hb⟩
 have HB := Lib.hid (HB.out.trans (hb.mono HB.out.size))
 clear hb
 go_wp2_with fail
 refine (ld_new (w0 := w) _ s (HS.out.below HB.out) HRT.out HB.out).mono ?_
 rintro e w3 ⟨a,rfl,hl1,hb⟩
 have HB := Lib.hid (HB.out.trans (hb.mono HB.out.size))
 have HLA := Lib.hid hl1
 clear hb hl1
 go_wp2_with fail
 refine (ld2_new HLA.out _ s (HS.out.below HB.out) HRT.out).mono ?_
 rintro e w4 ⟨b,rfl,hl2,hb⟩
 have HLB := Lib.hid hl2.swap
 have HIV : Hid (InvP (s,noO) 0) := Lib.hid (inv_new HRT.out)
 have HLN := Lib.hid HN.out
 clear hb hl2 HLA HB HRT hl hr
 go_wp2
 go_loopg [11] L.length (fun gk u11 wr => ∃ (i : Nat) (S : List Tb),u11 = .int .i64 (i : Int) ∧ i + gk = L.length ∧ Hid (LD2 w wr a i (S,noO) b i (S,noO)) ∧ Hid (InvP (S,noO) i))
 case atStart => exact ⟨0,s,rfl,by omega,HLB,HIV⟩
 case round =>
  obtain ⟨i,S,rfl,hig,hld,hiv⟩ := hrel
  clear HLB HIV
  by_cases hil : i < L.length
  ·have l2 : (i : Int) < (L.length : Int) := by omega
   have l3 : (0 : Int) ≤ (i : Int) := by omega
   obtain ⟨i1,hi1⟩ : ∃ i1,i + 1 = i1 := ⟨_,rfl⟩
   have wk : IntKind.i64.wrap ((i : Int) + 1) = (i1 : Int) := by rw [show (i : Int) + 1 = (i1 : Int) by omega]; exact IntWalk.i64_in _ (by omega)
   have HGK : Hid (i1 + (gk - 1) = L.length ∧ gk - 1 < gk) := Lib.hid (by omega)
   have HI1 := Lib.hid hi1
   have HIL : Hid (i < L.length ∧ i ≤ 30) := Lib.hid (by have := HLN.out; omega)
   obtain ⟨c,hc⟩ : ∃ c,L[i]? = some c := ⟨L[i],List.getElem?_eq_getElem hil⟩
   obtain ⟨cg,co,cp,he,hcp,hx⟩ := (HCL.out.below hld.out.bel).inv (by omega)
   injection he with ea _ ec
   subst ea ec
   obtain ⟨kd,nm,K,V,kb⟩ := c
   obtain ⟨hcb,x0,x1,x2,x3,x4⟩ := hx i _ hc
   have HCB := Lib.hid hcb
   clear hx hcb hil hig hi1
   have HC9 := Lib.hid hc
   clear hc
   by_cases hiu : i < U.length
   ·have l4 : (i : Int) < (U.length : Int) := by omega
    obtain ⟨j,hj⟩ : ∃ j,U[i]? = some j := ⟨U[i],List.getElem?_eq_getElem hiu⟩
    obtain ⟨ug,uo,up,he2,hup,hux⟩ := (HCU.out.below hld.out.bel).inv (by omega)
    injection he2 with ea2 _ ec2
    subst ea2 ec2
    obtain ⟨hjb,z0⟩ := hux i j hj
    have HID : Hid (I9 j ∧ isS j = true) := Lib.hid ⟨by omega,by unfold isS; simp; omega⟩
    have wj : IntKind.i64.wrap j = j := IntWalk.i64_in _ (by omega)
    clear hux hj hjb hup hiu
    by_cases hlong : 60 < nm.size
    ·have l5 : (60 : Int) < (nm.size : Int) := by omega
     clear hlong
     go_wp2
     go_roundg (gk - 1)
     case measure => exact HGK.out.2
     case rel => exact ⟨i1,S,rfl,HGK.out.1,Lib.hid (by rw [← HI1.out]; exact (hld.out.mono2 (Nat.le_succ _))),Lib.hid (by rw [← HI1.out]; exact hiv.out.mono (Nat.le_succ _))⟩
    ·have l5 : ¬ ((60 : Int) < (nm.size : Int)) := by omega
     go_wp2_with fail
     refine (ld2_run hld.out (by have := HIL.out.2; omega) j HID.out.1 2 kd nm K V kb m (wq_bel HM.out hld.out.bel) (by omega) HCB.out.2.1 HCB.out.2.2 i hiv.out (by have := HIL.out.2; omega) _ (run_idle S j HID.out.2 kd nm K V kb _)).mono ?_
     rintro e w5 ⟨r5,rfl,hq,hl5,hk5⟩
     obtain ⟨T,hT⟩ : ∃ T,idS S kd nm K V kb (txB kd nm K V kb) = T := ⟨_,rfl⟩
     rw [hT] at hq hl5
     have hv2 := hiv.out.runT j 2 kd nm K V kb
     rw [run_idle S j HID.out.2 kd nm K V kb _,hT] at hv2
     have HT := Lib.hid hT
     have HV2 : Hid (InvP (T.1,noO) (i + 1)) := Lib.hid hv2
     have HLD := Lib.hid hl5.swap
     have HQ5 : Hid (RQ w5 r5 T.2.1) := Lib.hid hq
     have hrl : T.2.1.length ≤ 1000000 := idS_rows hiv.out hT
     have HRL := Lib.hid hrl
     obtain ⟨q1,q2,rfl⟩ := hq.form
     obtain ⟨y0,y1,y2,y3,y4⟩ := cells5_below hl5.bel (HCL.out) HIL.out.1 HC9.out
     clear hq hl5 hk5 x0 x1 x2 x3 x4 hv2 hrl
     rw [hT]
     clear hT hld
     go_wp2_with fail
     refine (ld2_run HLD.out (by have := HIL.out.2; omega) 500 (by decide) 2 kd nm K V kb m (wq_bel HM.out HLD.out.bel) (by omega) HCB.out.2.1 HCB.out.2.2 i hiv.out (by have := HIL.out.2; omega) _ (run_idle S 500 (by decide) kd nm K V kb _)).mono ?_
     rintro e w6 ⟨r6,rfl,hq,hl6,hk6⟩
     rw [HT.out] at hq hl6
     have HLD := Lib.hid hl6.swap
     have HQ5 := Lib.hid (HQ5.out.kt hk6.kt)
     have HQ6 : Hid (RQ w6 r6 T.2.1) := Lib.hid hq
     obtain ⟨q3,q4,rfl⟩ := hq.form
     clear hq hl6 hk6 y0 y1 y2 y3 y4
     rw [HT.out]
     go_wp2_with fail
     refine (rows9 _ _ T.2.1 T.2.1 true (decide_eq_true rfl) w6 HQ5.out.rr HQ6.out.rr HRL.out).mono ?_
     rintro e w7 ⟨rfl,hb⟩
     have HLD := Lib.hid (HLD.out.below hb)
     clear hb
     go_wp2_with fail
     refine (ld_stat HLD.out.left j HID.out.1 73 (stat_idle _ j HID.out.2)).mono ?_
     rintro e w' ⟨rfl,rfl⟩
     go_wp2
     go_roundg (gk - 1)
     case measure => exact HGK.out.2
     case rel => exact ⟨i1,T.1,rfl,HGK.out.1,by rw [← HI1.out]; exact HLD,by rw [← HI1.out]; exact HV2⟩
   ·have l4 : ¬ ((i : Int) < (U.length : Int)) := by omega
    have HID : Hid (I9 0 ∧ isS 0 = true) := Lib.hid (by decide)
    clear hiu
    by_cases hlong : 60 < nm.size
    ·have l5 : (60 : Int) < (nm.size : Int) := by omega
     clear hlong
     go_wp2
     go_roundg (gk - 1)
     case measure => exact HGK.out.2
     case rel => exact ⟨i1,S,rfl,HGK.out.1,Lib.hid (by rw [← HI1.out]; exact (hld.out.mono2 (Nat.le_succ _))),Lib.hid (by rw [← HI1.out]; exact hiv.out.mono (Nat.le_succ _))⟩
    ·have l5 : ¬ ((60 : Int) < (nm.size : Int)) := by omega
     go_wp2_with fail
     refine (ld2_run hld.out (by have := HIL.out.2; omega) 0 HID.out.1 2 kd nm K V kb m (wq_bel HM.out hld.out.bel) (by omega) HCB.out.2.1 HCB.out.2.2 i hiv.out (by have := HIL.out.2; omega) _ (run_idle S 0 HID.out.2 kd nm K V kb _)).mono ?_
     rintro e w5 ⟨r5,rfl,hq,hl5,hk5⟩
     obtain ⟨T,hT⟩ : ∃ T,idS S kd nm K V kb (txB kd nm K V kb) = T := ⟨_,rfl⟩
     rw [hT] at hq hl5
     have hv2 := hiv.out.runT 0 2 kd nm K V kb
     rw [run_idle S 0 HID.out.2 kd nm K V kb _,hT] at hv2
     have HT := Lib.hid hT
     have HV2 : Hid (InvP (T.1,noO) (i + 1)) := Lib.hid hv2
     have HLD := Lib.hid hl5.swap
     have HQ5 : Hid (RQ w5 r5 T.2.1) := Lib.hid hq
     have hrl : T.2.1.length ≤ 1000000 := idS_rows hiv.out hT
     have HRL := Lib.hid hrl
     obtain ⟨q1,q2,rfl⟩ := hq.form
     obtain ⟨y0,y1,y2,y3,y4⟩ := cells5_below hl5.bel (HCL.out) HIL.out.1 HC9.out
     clear hq hl5 hk5 x0 x1 x2 x3 x4 hv2 hrl
     rw [hT]
     clear hT hld
     go_wp2_with fail
     refine (ld2_run HLD.out (by have := HIL.out.2; omega) 500 (by decide) 2 kd nm K V kb m (wq_bel HM.out HLD.out.bel) (by omega) HCB.out.2.1 HCB.out.2.2 i hiv.out (by have := HIL.out.2; omega) _ (run_idle S 500 (by decide) kd nm K V kb _)).mono ?_
     rintro e w6 ⟨r6,rfl,hq,hl6,hk6⟩
     rw [HT.out] at hq hl6
     have HLD := Lib.hid hl6.swap
     have HQ5 := Lib.hid (HQ5.out.kt hk6.kt)
     have HQ6 : Hid (RQ w6 r6 T.2.1) := Lib.hid hq
     obtain ⟨q3,q4,rfl⟩ := hq.form
     clear hq hl6 hk6 y0 y1 y2 y3 y4
     rw [HT.out]
     go_wp2_with fail
     refine (rows9 _ _ T.2.1 T.2.1 true (decide_eq_true rfl) w6 HQ5.out.rr HQ6.out.rr HRL.out).mono ?_
     rintro e w7 ⟨rfl,hb⟩
     have HLD := Lib.hid (HLD.out.below hb)
     clear hb
     go_wp2_with fail
     refine (ld_stat HLD.out.left 0 HID.out.1 73 (stat_idle _ 0 HID.out.2)).mono ?_
     rintro e w' ⟨rfl,rfl⟩
     go_wp2
     go_roundg (gk - 1)
     case measure => exact HGK.out.2
     case rel => exact ⟨i1,T.1,rfl,HGK.out.1,by rw [← HI1.out]; exact HLD,by rw [← HI1.out]; exact HV2⟩
  ·have l2 : ¬ ((i : Int) < (L.length : Int)) := by omega
   have HFE := Lib.hid (hiv.out.st.tabs.ok (by have : S.length ≤ 16 := hiv.out.st.len; show S.length ≤ _; omega)).few
   clear hil hig
   go_wp2_with fail
   refine (ld_comm hld.out.left hiv.out S rfl).mono ?_
   rintro e w5 ⟨v5,rfl,hq,hb⟩
   have HLD := Lib.hid (hld.out.below hb)
   have HQ5 := Lib.hid hq
   obtain ⟨p1,p2,rfl⟩ := hq.form
   clear hq hb hld
   go_wp2_with fail
   refine (ld_comm HLD.out.right hiv.out S rfl).mono ?_
   rintro e w6 ⟨v6,rfl,hq,hb⟩
   have HLD := Lib.hid (HLD.out.below hb)
   have HQ5 := Lib.hid (HQ5.out.bel hb)
   have HQ6 := Lib.hid hq
   obtain ⟨p3,p4,rfl⟩ := hq.form
   clear hq hb
   go_wp2_with fail
   refine (same9 _ _ S S true (decide_eq_true rfl) HFE.out w6 HQ5.out.sr HQ6.out.sr).mono ?_
   rintro e w7 ⟨rfl,hb⟩
   have HB := Lib.hid (HLD.out.below hb).bel
   clear hb
   go_wp2_with fail
   refine (known9_any m _ (wq_bel HM.out HB.out)).mono ?_
   rintro e w9 ⟨rfl,hb⟩
   have HB := Lib.hid (HB.out.trans (hb.mono HB.out.size))
   clear hb
   go_wp2
   go_ret
   exact ⟨rfl,HB.out⟩
theorem idle_any (v l u : Value) (m : Int) (w : World) (hm : Wq m w) (hs : FitsS w v) (hl : FitsCs w l) (hu : FitsU9 w u) :
  Calls Tryz.prog 7 #[v,l,u] w fun e w' => e = .returned (.bool true) ∧ Below w.heap.size w w' := by
 obtain ⟨s,hs⟩ := hs
 obtain ⟨L,hL⟩ := hl
 obtain ⟨U,hU⟩ := hu
 cases h1 : lightS s with
 | false => exact idle_light v l u s L U m w hm hs hL hU h1
 | true =>
  cases h2 : rightL s with
  | false => exact idle_right v l u s L U m w hm hs hL hU h1 h2
  | true =>
   by_cases h3 : 30 < L.length
   ·exact idle_long v l u s L U m w hm hs hL hU h1 h2 h3
   ·exact idle_main v l u s L U m w hm hs hL hU h1 h2 (by omega)

set_option maxHeartbeats 4000000 in
theorem back_light (v l : Value) (b : Bool) (s : List Tb) (L : List Cm) (m : Int) (w : World) (hm : Wq m w) (hs : SR w v s) (hL : CsR w l L) (hl : lightS s = false) :
  Calls Tryz.prog 5 #[v,l,.bool b] w fun e w' => e = .returned (.bool true) ∧ Below w.heap.size w w' := by
 have HM := Lib.hid hm
 have HS := Lib.hid hs
 have HCL := Lib.hid hL
 obtain ⟨va,vc,rfl⟩ := hs.form
 obtain ⟨la,lc,rfl⟩ := hL.form
 clear hm hs hL
 go_enter Tryz.func5,Tryz.ntmps5
 go_wp2_with fail
 refine (light9 _ s false hl w HS.out).mono ?_
 rintro e w1 ⟨rfl,hb⟩
 have HB := Lib.hid hb
 clear hb
 go_wp2_with fail
 refine (known9_any m _ (wq_bel HM.out HB.out)).mono ?_
 rintro e w9 ⟨rfl,hb⟩
 have HB := Lib.hid (HB.out.trans (hb.mono HB.out.size))
 clear hb
 go_wp2
 go_ret
 exact ⟨rfl,HB.out⟩
set_option maxHeartbeats 4000000 in
theorem back_right (v l : Value) (b : Bool) (s : List Tb) (L : List Cm) (m : Int) (w : World) (hm : Wq m w) (hs : SR w v s) (hL : CsR w l L) (hl : lightS s = true) (hr : rightL s = false) :
  Calls Tryz.prog 5 #[v,l,.bool b] w fun e w' => e = .returned (.bool true) ∧ Below w.heap.size w w' := by
 have HM := Lib.hid hm
 have HS := Lib.hid hs
 have HCL := Lib.hid hL
 obtain ⟨va,vc,rfl⟩ := hs.form
 obtain ⟨la,lc,rfl⟩ := hL.form
 clear hm hs hL
 go_enter Tryz.func5,Tryz.ntmps5
 go_wp2_with fail
 refine (light9 _ s true hl w HS.out).mono ?_
 rintro e w1 ⟨rfl,hb⟩
 have HB := Lib.hid hb
 clear hb
 go_wp2_with fail
 refine (rright9 _ s false hr (light_fewS hl) w1 (HS.out.below HB.out)).mono ?_
 rintro e w2 ⟨rfl,hb⟩
 have HB := Lib.hid (HB.out.trans (hb.mono HB.out.size))
 clear hb
 go_wp2_with fail
 refine (known9_any m _ (wq_bel HM.out HB.out)).mono ?_
 rintro e w9 ⟨rfl,hb⟩
 have HB := Lib.hid (HB.out.trans (hb.mono HB.out.size))
 clear hb
 go_wp2
 go_ret
 exact ⟨rfl,HB.out⟩
set_option maxHeartbeats 4000000 in
theorem back_long (v l : Value) (b : Bool) (s : List Tb) (L : List Cm) (m : Int) (w : World) (hm : Wq m w) (hs : SR w v s) (hL : CsR w l L) (hl : lightS s = true) (hr : rightL s = true) (hn : 30 < L.length) :
  Calls Tryz.prog 5 #[v,l,.bool b] w fun e w' => e = .returned (.bool true) ∧ Below w.heap.size w w' := by
 have HM := Lib.hid hm
 have HS := Lib.hid hs
 have HCL := Lib.hid hL
 obtain ⟨va,vc,rfl⟩ := hs.form
 obtain ⟨la,lc,rfl⟩ := hL.form
 have l1 : (30 : Int) < (L.length : Int) := by omega
 clear hm hs hL hn
 go_enter Tryz.func5,Tryz.ntmps5
 go_wp2_with fail
 refine (light9 _ s true hl w HS.out).mono ?_
 rintro e w1 ⟨rfl,hb⟩
 have HB := Lib.hid hb
 clear hb
 go_wp2_with fail
 refine (rright9 _ s true hr (light_fewS hl) w1 (HS.out.below HB.out)).mono ?_
 rintro e w2 ⟨rfl,hb⟩
 have HB := Lib.hid (HB.out.trans (hb.mono HB.out.size))
 clear hb
 go_wp2_with fail
 refine (known9_any m _ (wq_bel HM.out HB.out)).mono ?_
 rintro e w9 ⟨rfl,hb⟩
 have HB := Lib.hid (HB.out.trans (hb.mono HB.out.size))
 clear hb
 go_wp2
 go_ret
 exact ⟨rfl,HB.out⟩
theorem back_begin (s : List Tb) : runP (s,noO) 7 3 0 ⟨#[]⟩ 0 0 false (txB 0 ⟨#[]⟩ 0 0 false) = ((s,setO noO 7 (some (false,[]))),[],0) := rfl
theorem back_write {D : Dbp} {s : List Tb} (h1 : D.1 = s) (h2 : ∃ p,D.2 7 = some p) (kd : Int) (nm : ByteArray) (K V : Int) (kb tx : Bool) :
  (runP D 7 2 kd nm K V kb tx).1.1 = s ∧ ∃ p,(runP D 7 2 kd nm K V kb tx).1.2 7 = some p := by
 obtain ⟨p,hp⟩ := h2
 refine ⟨(run_keeps (by rw [hp]; simp) (.inl (by decide))).trans h1,?_⟩
 unfold runP
 rw [if_pos (by decide)]
 unfold runS
 rw [if_neg (by decide),if_neg (by decide),if_neg (by decide)]
 have hf : ∃ p,(failP D 7).2 7 = some p := by
  unfold failP
  simp only [setO_at]
  rw [hp]
  exact ⟨_,rfl⟩
 split
 ·exact ⟨p,hp⟩
 ·rw [if_neg (by decide),if_pos (.inr (.inl rfl))]
  split
  ·unfold doP
   split
   ·split
    ·exact ⟨p,hp⟩
    ·unfold writeP
     simp only [hp]
     exact ⟨_,setO_at _ _ _⟩
   ·exact hf
  ·exact ⟨p,hp⟩
theorem stat_endP (D : Dbp) : statP (endP D 7) 7 = 73 := by
 have h : (endP D 7).2 7 = none := setO_at D.2 7 none
 unfold statP
 rw [if_pos (by decide)]
 unfold stO
 rw [h]
theorem own_endP (D : Dbp) : ownO ((endP D 7).2 7) = [] := by
 have h : (endP D 7).2 7 = none := setO_at D.2 7 none
 unfold ownO
 rw [h]
theorem back_roll {D : Dbp} (h2 : ∃ p,D.2 7 = some p) : runP D 7 5 0 ⟨#[]⟩ 0 0 false (txB 0 ⟨#[]⟩ 0 0 false) = (endP D 7,[],0) := by
 obtain ⟨p,hp⟩ := h2
 unfold runP
 rw [if_pos (by decide)]
 unfold runS
 rw [if_neg (by decide),if_neg (by decide),if_pos rfl]
 unfold rollP
 rw [hp]
set_option maxHeartbeats 16000000 in
theorem back_main (v l : Value) (b : Bool) (s : List Tb) (L : List Cm) (m : Int) (w : World) (hm : Wq m w) (hs : SR w v s) (hL : CsR w l L) (hl : lightS s = true) (hr : rightL s = true) (hn : L.length ≤ 30) :
  Calls Tryz.prog 5 #[v,l,.bool b] w fun e w' => e = .returned (.bool true) ∧ Below w.heap.size w w' := by
 have HM := Lib.hid hm
 have HS := Lib.hid hs
 have HCL := Lib.hid hL
 obtain ⟨va,vc,rfl⟩ := hs.form
 obtain ⟨la,lc,rfl⟩ := hL.form
 have l1 : ¬ ((30 : Int) < (L.length : Int)) := by omega
 have HN := Lib.hid hn
 have HRT := Lib.hid hr
 have HFE := Lib.hid (light_fewS hl)
 clear hm hs hL hn
 go_enter Tryz.func5,Tryz.ntmps5
 go_wp2_with fail
 refine (light9 _ s true hl w HS.out).mono ?_
 rintro e w1 ⟨rfl,hb⟩
 have HB := Lib.hid hb
 clear hb
 go_wp2_with fail
 refine (rright9 _ s true hr (light_fewS hl) w1 (HS.out.below HB.out)).mono ?_
 rintro e w2 ⟨rfl,hb⟩
 have HB := Lib.hid (HB.out.trans (hb.mono HB.out.size))
 clear hb
 go_wp2_with fail
 refine (ld_new (w0 := w) _ s (HS.out.below HB.out) HRT.out HB.out).mono ?_
 rintro e w3 ⟨a,rfl,hl1,hb⟩
 have HL := Lib.hid hl1
 clear hb hl1 HB
 go_wp2_with fail
 refine (ld_run HL.out (by decide) 7 (by decide) 3 0 ⟨#[]⟩ 0 0 false m (wq_bel HM.out HL.out.bel) (by decide) (by unfold i64B; decide) (by unfold i64B; decide) 0 (inv_new HRT.out) (by decide) _ (back_begin s)).mono ?_
 rintro e w4 ⟨r4,rfl,hq,hl4,hk⟩
 obtain ⟨p4,q4,rfl⟩ := hq.form
 have hl4 : LD w w4 a 1 (s,setO noO 7 (some (false,[]))) := hl4
 have HL4 := Lib.hid hl4
 have HIV : Hid (InvP (s,setO noO 7 (some (false,[]))) 1) := Lib.hid (by
  have := (inv_new HRT.out).runT 7 3 0 ⟨#[]⟩ 0 0 false
  rw [show ((s,fun _ => none) : Dbp) = (s,noO) from rfl,back_begin s] at this
  exact this)
 have HLN := Lib.hid HN.out
 clear hq hl4 hk HL HRT hl hr
 go_wp2
 go_loopg [11] L.length (fun gk u11 wr => ∃ (i : Nat) (D : Dbp),u11 = .int .i64 (i : Int) ∧ i + gk = L.length ∧ Hid (LD w wr a (i + 1) D) ∧ Hid (InvP D (i + 1)) ∧ Hid (D.1 = s ∧ ∃ p,D.2 7 = some p))
 case atStart => exact ⟨0,_,rfl,by omega,HL4,HIV,Lib.hid ⟨rfl,(false,[]),setO_at noO 7 _⟩⟩
 case round =>
  obtain ⟨i,D,rfl,hig,hld,hiv,hdd⟩ := hrel
  clear HL4 HIV
  by_cases hil : i < L.length
  ·have l2 : (i : Int) < (L.length : Int) := by omega
   have l3 : (0 : Int) ≤ (i : Int) := by omega
   obtain ⟨i1,hi1⟩ : ∃ i1,i + 1 = i1 := ⟨_,rfl⟩
   have wk : IntKind.i64.wrap ((i : Int) + 1) = (i1 : Int) := by rw [show (i : Int) + 1 = (i1 : Int) by omega]; exact IntWalk.i64_in _ (by omega)
   have HGK : Hid (i1 + (gk - 1) = L.length ∧ gk - 1 < gk) := Lib.hid (by omega)
   have HI1 := Lib.hid hi1
   have HIL : Hid (i ≤ 30) := Lib.hid (by have := HLN.out; omega)
   obtain ⟨c,hc⟩ : ∃ c,L[i]? = some c := ⟨L[i],List.getElem?_eq_getElem hil⟩
   obtain ⟨cg,co,cp,he,hcp,hx⟩ := (HCL.out.below hld.out.bel).inv (by omega)
   injection he with ea _ ec
   subst ea ec
   obtain ⟨kd,nm,K,V,kb⟩ := c
   obtain ⟨hcb,x0,x1,x2,x3,x4⟩ := hx i _ hc
   have HCB := Lib.hid hcb
   clear hx hc hcb hil hig hi1
   by_cases hlong : nm.size ≤ 60
   ·have l5 : (nm.size : Int) ≤ 60 := by omega
    go_wp2_with fail
    refine (ld_run hld.out (by have := HIL.out; omega) 7 (by decide) 2 kd nm K V kb m (wq_bel HM.out hld.out.bel) (by omega) HCB.out.2.1 HCB.out.2.2 (i + 1) hiv.out (by have := HIL.out; omega) _ rfl).mono ?_
    rintro e w5 ⟨r5,rfl,hq,hl5,hk5⟩
    have HLD := Lib.hid hl5
    have HIV := Lib.hid (hiv.out.runT 7 2 kd nm K V kb)
    have HDD := Lib.hid (back_write hdd.out.1 hdd.out.2 kd nm K V kb (txB kd nm K V kb))
    obtain ⟨R,hR⟩ : ∃ R,runP D 7 2 kd nm K V kb (txB kd nm K V kb) = R := ⟨_,rfl⟩
    rw [hR] at hq HLD HIV HDD
    try rw [hR]
    obtain ⟨q1,q2,rfl⟩ := hq.form
    clear hq hl5 hk5 x0 x1 x2 x3 x4 hld hiv hdd hR
    go_wp2
    go_roundg (gk - 1)
    case measure => exact HGK.out.2
    case rel => exact ⟨i1,R.1,rfl,HGK.out.1,by rw [← HI1.out]; exact HLD,by rw [← HI1.out]; exact HIV,HDD⟩
   ·have l5 : ¬ ((nm.size : Int) ≤ 60) := by omega
    go_wp2
    go_roundg (gk - 1)
    case measure => exact HGK.out.2
    case rel => exact ⟨i1,D,rfl,HGK.out.1,Lib.hid (by rw [← HI1.out]; exact hld.out.mono (Nat.le_succ _)),Lib.hid (by rw [← HI1.out]; exact hiv.out.mono (Nat.le_succ _)),hdd⟩
  ·have l2 : ¬ ((i : Int) < (L.length : Int)) := by omega
   have HIL : Hid (i ≤ 30) := Lib.hid (by have := HLN.out; omega)
   clear hil hig
   cases b with
   | true =>
    go_wp2_with fail
    refine (ld_end hld.out 7 (by decide)).mono ?_
    rintro e w5 ⟨rfl,hl5,_⟩
    have HL5 : Hid (LD w w5 a (i + 2) (endP D 7)) := Lib.hid (hl5.mono (by omega))
    clear hl5 hld
    have HIV : Hid (InvP (endP D 7) (i + 1)) := Lib.hid (hiv.out.end_ 7)
    go_wp2_with fail
    refine (ld_comm HL5.out HIV.out s hdd.out.1).mono ?_
    rintro e w6 ⟨v6,rfl,hq,hb⟩
    have HL5 := Lib.hid (HL5.out.below hb)
    have HQ := Lib.hid hq
    obtain ⟨p1,p2,rfl⟩ := hq.form
    clear hq hb
    go_wp2_with fail
    refine (same9 _ _ s s true (decide_eq_true rfl) HFE.out w6 HQ.out.sr (HS.out.below HL5.out.bel)).mono ?_
    rintro e w7 ⟨rfl,hb⟩
    have HL5 := Lib.hid (HL5.out.below hb)
    clear hb
    go_wp2_with fail
    refine (ld_stat HL5.out 7 (by decide) 73 (stat_endP D)).mono ?_
    rintro e w' ⟨rfl,rfl⟩
    go_wp2_with fail
    refine (ld_writ HL5.out (by have := HIL.out; omega) HIV.out 7 (by decide) [] (by rw [own_endP]; rfl)).mono ?_
    rintro e w8 ⟨v8,rfl,ho,hb⟩
    have HB := Lib.hid (HL5.out.below hb).bel
    obtain ⟨p3,p4,rfl⟩ := OT.ln ho
    clear ho hb
    go_wp2_with fail
    refine (known9_any m _ (wq_bel HM.out HB.out)).mono ?_
    rintro e w9 ⟨rfl,hb⟩
    have HB := Lib.hid (HB.out.trans (hb.mono HB.out.size))
    clear hb
    go_wp2
    go_ret
    exact ⟨rfl,HB.out⟩
   | false =>
    go_wp2_with fail
    refine (ld_run hld.out (by have := HIL.out; omega) 7 (by decide) 5 0 ⟨#[]⟩ 0 0 false m (wq_bel HM.out hld.out.bel) (by decide) (by unfold i64B; decide) (by unfold i64B; decide) (i + 1) hiv.out (by have := HIL.out; omega) _ (back_roll hdd.out.2)).mono ?_
    rintro e w5 ⟨r5,rfl,hq,hl5,_⟩
    obtain ⟨q1,q2,rfl⟩ := hq.form
    have HL5 : Hid (LD w w5 a (i + 2) (endP D 7)) := Lib.hid hl5
    clear hl5 hld hq
    have HIV : Hid (InvP (endP D 7) (i + 1)) := Lib.hid (hiv.out.end_ 7)
    go_wp2_with fail
    refine (ld_comm HL5.out HIV.out s hdd.out.1).mono ?_
    rintro e w6 ⟨v6,rfl,hq,hb⟩
    have HL5 := Lib.hid (HL5.out.below hb)
    have HQ := Lib.hid hq
    obtain ⟨p1,p2,rfl⟩ := hq.form
    clear hq hb
    go_wp2_with fail
    refine (same9 _ _ s s true (decide_eq_true rfl) HFE.out w6 HQ.out.sr (HS.out.below HL5.out.bel)).mono ?_
    rintro e w7 ⟨rfl,hb⟩
    have HL5 := Lib.hid (HL5.out.below hb)
    clear hb
    go_wp2_with fail
    refine (ld_stat HL5.out 7 (by decide) 73 (stat_endP D)).mono ?_
    rintro e w' ⟨rfl,rfl⟩
    go_wp2_with fail
    refine (ld_writ HL5.out (by have := HIL.out; omega) HIV.out 7 (by decide) [] (by rw [own_endP]; rfl)).mono ?_
    rintro e w8 ⟨v8,rfl,ho,hb⟩
    have HB := Lib.hid (HL5.out.below hb).bel
    obtain ⟨p3,p4,rfl⟩ := OT.ln ho
    clear ho hb
    go_wp2_with fail
    refine (known9_any m _ (wq_bel HM.out HB.out)).mono ?_
    rintro e w9 ⟨rfl,hb⟩
    have HB := Lib.hid (HB.out.trans (hb.mono HB.out.size))
    clear hb
    go_wp2
    go_ret
    exact ⟨rfl,HB.out⟩
theorem back9_any (v l : Value) (b : Bool) (m : Int) (w : World) (hm : Wq m w) (hs : FitsS w v) (hl : FitsCs w l) :
  Calls Tryz.prog 5 #[v,l,.bool b] w fun e w' => e = .returned (.bool true) ∧ Below w.heap.size w w' := by
 obtain ⟨s,hs⟩ := hs
 obtain ⟨L,hL⟩ := hl
 cases h1 : lightS s with
 | false => exact back_light v l b s L m w hm hs hL h1
 | true =>
  cases h2 : rightL s with
  | false => exact back_right v l b s L m w hm hs hL h1 h2
  | true =>
   by_cases h3 : 30 < L.length
   ·exact back_long v l b s L m w hm hs hL h1 h2 h3
   ·exact back_main v l b s L m w hm hs hL h1 h2 (by omega)
end Go.Proofs.YtjmmninopagpjaaGreatDoor
