/- Sem -/
import Derived.Test.YtjmmninopagpjaaGreatDoorG29
import Derived.Test.YtjmmninopagpjaaGreatDoorG1
set_option linter.unusedSimpArgs false
set_option linter.unusedVariables false
namespace Go.Proofs.YtjmmninopagpjaaGreatDoor
open Go.ChangeShapes Go.WideShapes Go.ChangeAt Go.RowKit Go.Maps
set_option maxRecDepth 100000
set_option linter.unusedVariables false
set_option linter.unusedSimpArgs false

def RiseP (base : Nat) (W : World) (R : List Tx) (e : Ending) (W' : World) : Prop := ∃ v9,e = .returned v9 ∧ W'.ownsRow base 9 1 v9 R.length (R.map sV) ∧ Below base W W'
set_option maxHeartbeats 2000000 in
theorem rising_none (a : Option Addr) (cap base : Nat) (W : World) (hb : base ≤ W.heap.size) :
  Calls Tryz.prog 238 #[.slice a 0 cap] W (RiseP base W []) := by
 have hmm := @run_makeMap Tryz.prog
 have hs := fun w => Tryz.slices_Sort_string_none a cap w
 have HB := Lib.hid hb
 go_enter Tryz.func238,Tryz.ntmps238
 go_wp2
 refine wp_loop_rounds 1 ?_
 rw [rounds_succ]
 go_wp2_with (go_at_call 66; (with_reducible refine (hs _).mono ?_); rintro e w2 ⟨rfl,rfl⟩)
 refine wp_loop_rounds 1 ?_
 rw [rounds_succ]
 go_wp2
 go_ret
 exact ⟨_,rfl,World.ownsRow_nil _ _ _ _,(Below.refl _ _).alloc HB.out _⟩
theorem cell_own {W : World} {b g n cap : Nat} {d : List Tx} (h : W.ownsRow b 9 1 (.slice (some ⟨g,0,none⟩) n cap) n (d.map sV)) (k : Nat) (hk : k < d.length) : W.cell? ⟨g,k,none⟩ = some (sV d[k]) := by
 have := h.cells (g := g) rfl k (sV d[k]) (by rw [List.getElem?_map,List.getElem?_eq_getElem hk]; rfl)
 rwa [Addr.add_lit,Nat.zero_add] at this
theorem sort_step (W wr : World) (base g n cap M : Nat) (d : List Tx) (D : DataW Unit) (hn : n = d.length) (hl : n ≤ 2000000000) (hB : Below base W wr) (hbase : base ≤ W.heap.size) (hO : wr.ownsRow base 9 1 (.slice (some ⟨g,0,none⟩) n cap) n (d.map sV)) (hM : wr.ownsMap Tryz.prog 9 (unitElem (H := Unit)) M n D) :
  Calls Tryz.prog 66 #[.slice (some ⟨g,0,none⟩) n cap] wr fun e w' => e = .returned (.tuple #[]) ∧ w'.ownsRow base 9 1 (.slice (some ⟨g,0,none⟩) n cap) n ((d.mergeSort fun x y => decide (x ≤ y)).map sV) ∧ w'.ownsMap Tryz.prog 9 (unitElem (H := Unit)) M n D ∧ Below base W w' ∧ wr.heap.size ≤ w'.heap.size ∧ g < wr.heap.size ∧ M < wr.heap.size := by
 subst hn
 rcases hO.2 with ⟨hnil,_⟩ | ⟨g',cap',cur,e0,hb,hgg,h1,h2,h3,h4⟩
 ·cases hnil
 ·injection e0 with e1 e2 e3
  injection e1 with e1
  injection e1 with e1
  subst e1 e3
  have hg : g < wr.heap.size := (Array.getElem?_eq_some_iff.1 hgg).1
  have hm0 := hM.lt
  refine (Tryz.slices_Sort_string g 0 cap d wr (holds_of_block hgg (by simpa using h4)) hg (by omega)).mono ?_
  rintro e w' ⟨rfl,nn,os,rfl⟩
  refine ⟨rfl,ownsRow_sorted (by simp) hb hgg h1 h2 h3,hM.kept (grownBy_sorted _) ?_,hB.grown (grownBy_sorted _) (by have := hB.size; omega) (fun j hj => by cases hj; exact hb),(grownBy_sorted (w := wr) (g := g) (n := nn) (os := os) _).size,hg,hm0⟩
  intro e
  exact own_nomap hM hO (by rw [e]; rfl)
set_option maxHeartbeats 4000000 in
theorem rising_some (g n cap base : Nat) (d : List Tx) (W : World) (hb : base ≤ W.heap.size) (hv : W.ownsRow base 9 1 (.slice (some ⟨g,0,none⟩) n cap) n (d.map sV)) (hnd : n = d.length) (hn : n ≤ 2000000000) (hx : ∀ x ∈ d,x.length ≤ 2000000001) :
  Calls Tryz.prog 238 #[.slice (some ⟨g,0,none⟩) n cap] W (RiseP base W (riseL d)) := by
 have hmm := @run_makeMap Tryz.prog
 obtain ⟨R,hR⟩ : ∃ R,riseL d = R := ⟨_,rfl⟩
 rw [hR]
 obtain ⟨i0,hi,hz0,hz1,hz2⟩ := info_parts info9
 have HB := Lib.hid hb
 have HV := Lib.hid hv
 have HR := Lib.hid hR
 have HX := Lib.hid hx
 have HN := Lib.hid hnd
 clear hb hv hR hx hnd
 go_enter Tryz.func238,Tryz.ntmps238
 go_wp2
 go_loopg [14] n (fun gg u14 wr => ∃ k : Nat,u14 = .int .i64 (k : Int) ∧ k + gg = n ∧ MapI wr W.heap.size k (fun x => (d.take k).contains x) ∧ wr.ownsRow base 9 1 (.slice (some ⟨g,0,none⟩) n cap) n (d.map sV) ∧ Below base W wr ∧ W.heap.size < wr.heap.size)
 case atStart => exact ⟨0,rfl,by omega,MapI.made _,HV.out.alloc _,(Below.refl _ _).alloc HB.out _,by simp⟩
 case round =>
  obtain ⟨k,rfl,hk,hM,hO,hBl,hsz⟩ := hrel
  obtain ⟨D,hown,hhas⟩ := hM
  have HO := Lib.hid hO
  have HBL := Lib.hid hBl
  have HOWN := Lib.hid hown
  have HHAS := Lib.hid hhas
  have HSZ := Lib.hid hsz
  clear hown hhas hO hBl hsz
  cases gk with
  | succ gg =>
   have hkd : k < d.length := by rw [← HN.out]; omega
   have c1 := cell_own HO.out k hkd
   obtain ⟨x,hxe⟩ : ∃ x,d[k] = x := ⟨_,rfl⟩
   have hkey := keyS x (by rw [← hxe]; exact HX.out _ (List.getElem_mem hkd))
   have htk : ∀ y,(d.take (k + 1)).contains y = (y == x || (d.take k).contains y) := fun y => by
    rw [Bool.eq_iff_iff,List.contains_iff_mem,take_mem hkd,hxe,Bool.or_eq_true,List.contains_iff_mem,beq_iff_eq,Or.comm]
   rw [hxe] at c1
   obtain ⟨s,hse⟩ : ∃ s,(⟨x.toArray⟩ : ByteArray) = s := ⟨_,rfl⟩
   unfold sV at c1 hkey
   rw [hse] at c1 hkey
   have l0 : (0 : Int) ≤ (k : Int) := by omega
   have l1 : (k : Int) < (n : Int) := by omega
   obtain ⟨k1,hk1⟩ : ∃ k1,k + 1 = k1 := ⟨_,rfl⟩
   have wk : IntKind.i64.wrap ((k : Int) + 1) = (k1 : Int) := by rw [show (k : Int) + 1 = (k1 : Int) by omega]; exact wrap_nat (by omega)
   have HTK := Lib.hid htk
   have HK1 := Lib.hid hk1
   clear hse hxe htk hkd hk1
   go_wp2_with (first
    | (at_mapUpdate; refine wpList_mapUpdate_own _ rfl _ _ _ 297 rfl 9 165 lawS undM (unitElem (H := Unit)) W.heap.size k _ rfl HOWN.out (by unfold maxLen; omega) _ _ _ rfl rfl hkey _ [] unitElem_mk ?_; intro w1 hown1 hgrow1))
   go_roundg gg
   case measure => exact Nat.lt_succ_self _
   case rel =>
    refine ⟨k1,rfl,by have := HK1.out; omega,⟨_,by rw [← HK1.out]; exact hown1,fun y => ?_⟩,HO.out.kept hgrow1 (.inr (own_nomap HOWN.out HO.out)),HBL.out.grown hgrow1 (by have := HSZ.out; have := HB.out; omega) (fun j hj => by cases hj; exact HB.out),Nat.lt_of_lt_of_le HSZ.out hgrow1.size⟩
    rw [has_put HOWN.out.isMap,HHAS.out,← HK1.out]
    exact (HTK.out y).symm
  | zero =>
   have hkn : k = n := by omega
   subst hkn
   have hss := sort_step W wr base g k cap W.heap.size d D HN.out hn HBL.out HB.out HO.out HOWN.out
   have HSS := Lib.hid hss
   have hsi := sorted_is d
   have HSI := Lib.hid hsi
   have hlen : (d.mergeSort fun x y => decide (x ≤ y)).length = k := by rw [List.length_mergeSort,HN.out]
   have HLEN := Lib.hid hlen
   generalize (d.mergeSort fun x y => decide (x ≤ y)) = ss at *
   clear hss hsi hlen
   have l1 : ¬ ((k : Int) < (k : Int)) := by omega
   go_wp2_with (go_at_call 66; (with_reducible refine HSS.out.mono ?_); rintro e w2 ⟨rfl,hO2,hM2,hB2,hs2,hg2,hm2⟩; have HO2 := Lib.hid hO2; have HM2 := Lib.hid hM2; have HB2 := Lib.hid hB2; have HS2 := Lib.hid (And.intro hs2 (And.intro hg2 hm2)); clear hO2 hM2 hB2 hs2 hg2 hm2)
   have hhas2 : ∀ x,Maps.has D (Lit.string x) = d.contains x := fun x => by have := HHAS.out x; rwa [HN.out,List.take_length] at this
   have HHAS2 := Lib.hid hhas2
   clear hhas2 HHAS l1
   go_loopg [6,26] k (fun gg u6 u26 wx => ∃ (i : Nat) (T : List Tx) (E : DataW Unit),u26 = .int .i64 (i : Int) ∧ i + gg = k ∧ Told ss T i ∧ T.length ≤ i ∧ wx.ownsMap Tryz.prog 9 (unitElem (H := Unit)) W.heap.size k E ∧ (∀ x,Maps.has E (Lit.string x) = (d.contains x && !(ss.take i).contains x)) ∧
    wx.ownsRow base 9 1 (.slice (some ⟨g,0,none⟩) k cap) k (ss.map sV) ∧ wx.ownsRow w2.heap.size 9 1 u6 T.length (T.map sV) ∧ Below base W wx ∧ w2.heap.size ≤ wx.heap.size)
   case atStart => exact ⟨0,[],D,rfl,by omega,Told.start ss,Nat.zero_le _,HM2.out,fun x => by rw [HHAS2.out,List.take_zero]; simp,HO2.out,World.ownsRow_nil _ _ _ _,HB2.out,Nat.le_refl _⟩
   case round =>
    obtain ⟨i,T,E,rfl,hik,hT,hTl,hE,hEh,hOx,hVx,hBx,hsx⟩ := hrel
    have HT := Lib.hid hT
    have HE := Lib.hid hE
    have HEH := Lib.hid hEh
    have HOX := Lib.hid hOx
    have HBX := Lib.hid hBx
    have HSX := Lib.hid hsx
    clear hT hE hEh hOx hBx hsx HO HBL HOWN HSS HO2 HM2 HB2 HSZ
    cases gk with
    | zero =>
     have hin : i = k := by omega
     subst hin
     have hR2 : T = R := by
      have := HT.out
      rw [← HLEN.out] at this
      rw [← HR.out]; exact this.done HSI.out.2
     have l1 : ¬ ((i : Int) < (i : Int)) := by omega
     have HVX := Lib.hid hVx
     clear hVx
     go_wp2
     go_ret
     refine ⟨_,rfl,?_,HBX.out⟩
     rw [← hR2]
     exact ownsRow_base HVX.out (by have := HS2.out; have := HB.out; omega)
    | succ gg =>
     have hid : i < ss.length := by rw [HLEN.out]; omega
     have c1 := cell_own HOX.out i hid
     obtain ⟨x,hxe⟩ : ∃ x,ss[i] = x := ⟨_,rfl⟩
     have hxd : x ∈ d := HSI.out.2.mem_iff.1 (by rw [← hxe]; exact List.getElem_mem hid)
     have hkey := keyS x (HX.out _ hxd)
     have hEx : Maps.has E (Lit.string x) = !(ss.take i).contains x := by
      rw [HEH.out]
      have : d.contains x = true := List.contains_iff_mem.2 hxd
      rw [this,Bool.true_and]
     have hold : x ∈ ss.take i → Told ss T (i + 1) := fun h => HT.out.old hid (by rw [hxe]; exact h)
     have hnew : x ∉ ss.take i → Told ss (T ++ [x]) (i + 1) := fun h => by have := HT.out.new HSI.out.1 hid (by rw [hxe]; exact h); rwa [hxe] at this
     have htk : ∀ y,(ss.take (i + 1)).contains y = ((ss.take i).contains y || y == x) := fun y => by
      rw [Bool.eq_iff_iff,List.contains_iff_mem,take_mem hid,hxe,Bool.or_eq_true,List.contains_iff_mem,beq_iff_eq]
     rw [hxe] at c1
     obtain ⟨s,hse⟩ : ∃ s,(⟨x.toArray⟩ : ByteArray) = s := ⟨_,rfl⟩
     have hsv : sV x = .string s := by unfold sV; rw [hse]
     unfold sV at c1 hkey
     rw [hse] at c1 hkey
     have l0 : (0 : Int) ≤ (i : Int) := by omega
     have l1 : (i : Int) < (k : Int) := by omega
     obtain ⟨i1,hi1⟩ : ∃ i1,i + 1 = i1 := ⟨_,rfl⟩
     have wk : IntKind.i64.wrap ((i : Int) + 1) = (i1 : Int) := by rw [show (i : Int) + 1 = (i1 : Int) by omega]; exact wrap_nat (by omega)
     rw [hi1] at hold hnew htk
     have HTK := Lib.hid htk
     have HI1 := Lib.hid hi1
     have HSV := Lib.hid hsv
     have HVX := Lib.hid hVx
     obtain ⟨a3,c3,rfl⟩ : ∃ a3 c3,u6 = .slice a3 T.length c3 := by
      rcases hVx.2 with ⟨rfl,hz⟩ | ⟨g',cap',cur,rfl,_⟩
      ·exact ⟨none,0,by rw [hz]⟩
      ·exact ⟨_,_,rfl⟩
     clear hse hxe htk hid hi1 hsv hxd hVx
     by_cases hm : x ∈ ss.take i
     ·have hb : Maps.has E (Lit.string x) = false := by rw [hEx,List.contains_iff_mem.2 hm]; rfl
      have HT3 := Lib.hid (hold hm)
      clear hold hnew hEx
      have HM := Lib.hid hm
      clear hm
      go_wp2_with (at_lookup; refine wpList_lookup_own_unit _ rfl _ _ 297 rfl 9 165 lawS undM (zeroU _) W.heap.size k _ rfl HE.out _ _ rfl hkey ?_; rw [hb])
      go_roundg gg
      case measure => exact Nat.lt_succ_self _
      case rel =>
       refine ⟨i1,T,E,rfl,by have := HI1.out; omega,HT3.out,by have := HI1.out; omega,HE.out.alloc _,fun y => ?_,HOX.out.alloc _,HVX.out.alloc _,HBX.out.alloc (by have := HBX.out.size; have := HB.out; omega) _,by simp; have := HSX.out; omega⟩
       rw [HEH.out,HTK.out]
       by_cases hy : y = x
       ·subst hy; rw [List.contains_iff_mem.2 HM.out]; simp
       ·have : (y == x) = false := by rw [beq_eq_false_iff_ne]; exact hy
        rw [this,Bool.or_false]
     ·have hb : Maps.has E (Lit.string x) = true := by
       rw [hEx]
       have : (ss.take i).contains x = false := by
        cases h : (ss.take i).contains x with
        | false => rfl
        | true => exact absurd (List.contains_iff_mem.1 h) hm
       rw [this]; rfl
      have HT3 := Lib.hid (hnew hm)
      clear hold hnew hEx hm
      have HVB := Lib.hid ((HVX.out.alloc (.cells #[] 165)).alloc (.cells #[.string s] 9))
      have HOB := Lib.hid ((HOX.out.alloc (.cells #[] 165)).alloc (.cells #[.string s] 9))
      have HEB := Lib.hid ((HE.out.alloc (.cells #[] 165)).alloc (.cells #[.string s] 9))
      go_wp2_with (first
       | (at_lookup; refine wpList_lookup_own_unit _ rfl _ _ 297 rfl 9 165 lawS undM (zeroU _) W.heap.size k _ rfl HE.out _ _ rfl hkey ?_; rw [hb])
       | (at_builtin; refine wpList_append_lies _ rfl _ _ 50 rfl w2.heap.size 9 i0 (.string ByteArray.empty) 1 16 und26 hi hz0 hz1 hz2 rfl (by decide) _ T.length (T.map sV) rfl HVB.out ⟨wr.heap.size + 1,0,none⟩ 1 1 [.string s] rfl rfl ?c1 ?c2 (by decide) ?c3 ?c4 ?c5 _ rfl ?_))
      case c1 =>
       intro j u hj
       match j,hj with
       | 0,hj => simp at hj; subst hj; simp [Addr.add]
      case c2 => intro u hu; simp at hu; subst hu; rfl
      case c3 => unfold maxLen; omega
      case c4 => omega
      case c5 => have := HSX.out; simp; omega
      intro g3 cap3 w3 hown3 hgrow3 hat3 hlt3
      have hlow : ∀ q,(Value.slice a3 T.length c3).ownBlock = some q → w2.heap.size ≤ q := fun q hq => (World.ownsRow.lt HVX.out q hq).1
      have hE3 := HEB.out.kept hgrow3 (fun e => by have := hlow _ e.symm; have := HS2.out; omega)
      have hO3 := HOB.out.kept hgrow3 (.inr fun e => by
       have := hlow g (by rw [← e]; rfl)
       have := HS2.out; omega)
      have hB3 := ((HBX.out.alloc (by have := HBX.out.size; have := HB.out; omega) (.cells #[] 165)).alloc (by simp; have := HBX.out.size; have := HB.out; omega) (.cells #[.string s] 9)).grown hgrow3 (by simp; have := HBX.out.size; have := HB.out; omega) (fun q hq => by have := hlow q hq; have := HS2.out; have := HB.out; omega)
      have hs3 := hgrow3.size
      simp only [World.size_alloc] at hs3
      have HE3 := Lib.hid hE3
      have HO3 := Lib.hid hO3
      have HB3 := Lib.hid hB3
      have HOWN3 := Lib.hid hown3
      clear hE3 hO3 hB3 hown3 hlow hgrow3
      go_wp2_with (at_delete; refine wpList_delete_own _ rfl _ _ 297 9 rfl 165 lawS undM _ W.heap.size k E rfl HE3.out _ _ rfl hkey ?_; intro w4 hown4 hturn4)
      go_roundg gg
      case measure => exact Nat.lt_succ_self _
      case rel =>
       have hg4 := hturn4.grown
       have hs4 := hg4.size
       refine ⟨i1,T ++ [x],E.del (Lit.string x),rfl,by have := HI1.out; omega,HT3.out,by have := HI1.out; rw [List.length_append,List.length_singleton]; omega,hown4,fun y => ?_,HO3.out.kept hg4 (.inr (own_nomap HE3.out HO3.out)),?_,HB3.out.grown hg4 (by have := HSX.out; have := HS2.out; have := HB.out; omega) (fun q hq => by cases hq; exact HB.out),by have := HSX.out; omega⟩
       ·rw [has_del,HEH.out,HTK.out,Bool.not_or]
        have : (!(y == x)) = (y != x) := rfl
        rw [this]
        cases (y != x) <;> cases d.contains y <;> cases (ss.take i).contains y <;> rfl
       ·rw [List.length_append,List.length_singleton,List.map_append,List.map_cons,List.map_nil,HSV.out]
        exact HOWN3.out.kept hg4 (.inr (own_nomap HE3.out HOWN3.out))
theorem rising_any (v : Value) (base : Nat) (d : List Tx) (W : World) (hb : base ≤ W.heap.size) (hv : W.ownsRow base 9 1 v d.length (d.map sV)) (hn : d.length ≤ 2000000000) (hx : ∀ x ∈ d,x.length ≤ 2000000001) :
  Calls Tryz.prog 238 #[v] W (RiseP base W (riseL d)) := by
 rcases hv.2 with ⟨rfl,hz⟩ | ⟨g,cap,cur,rfl,_⟩
 ·obtain rfl := List.eq_nil_of_length_eq_zero hz
  exact rising_none none 0 base W hb
 ·exact rising_some g d.length cap base d W hb hv rfl hn hx
end Go.Proofs.YtjmmninopagpjaaGreatDoor
