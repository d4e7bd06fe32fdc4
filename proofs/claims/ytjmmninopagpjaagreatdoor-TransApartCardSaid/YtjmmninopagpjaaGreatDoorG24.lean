/- Tri Trj Trk Trl Trm Trn -/
import Derived.Test.YtjmmninopagpjaaGreatDoorG21
import Derived.Test.YtjmmninopagpjaaGreatDoorG23
import Derived.Laws.MakeOwn
import Derived.Laws.IdiomStrings
import Derived.Lib.BufferRead
import Derived.Defers
import Derived.Laws.Pointers
import Derived.Laws.LoneSync
import Derived.RegionTactic
import Derived.RegionCalls
import Derived.ChangeAlike
import Derived.Test.YtjmmninopagpjaaGreatDoorG1
set_option linter.unusedSimpArgs false
set_option linter.unusedVariables false
namespace Go.Proofs.YtjmmninopagpjaaGreatDoor
open Go.ChangeShapes Go.WideShapes Go.ChangeAt Go.RowKit
set_option maxRecDepth 100000
set_option linter.unusedVariables false
set_option linter.unusedSimpArgs false

theorem GP.below {w w' : World} {r : Nat} {a b c : ByteArray} (h : GP w r a b c) (hb : Below w.heap.size w w') : GP w' r a b c := by
 obtain ⟨tr,h1,N,T,x,k,l,h2,h3,h4,h5,h6,h7⟩ := h
 exact ⟨tr,Blk.below h1 hb h1.lt,N,T,x,k,l,Blk.below h2 hb h2.lt,Blk.below h3 hb h3.lt,Blk.below h4 hb h4.lt,Blk.below h5 hb h5.lt,Blk.below h6 hb h6.lt,Blk.below h7 hb h7.lt⟩
def holeB (a b c : ByteArray) (k : Nat) : ByteArray := if k = 0 then a else if k = 1 then b else c
theorem hole_bt (a b c : ByteArray) (k : Nat) : (holeB a b c k).data.toList = holeT a.data.toList b.data.toList c.data.toList k := by
 unfold holeB holeT
 split
 ·rfl
 ·split <;> rfl
theorem look_at (w : World) (r : Nat) (a b c : ByteArray) (h : GP w r a b c) (s : ByteArray) (k : Nat) (hk : k < 3) (h0 : 0 < s.size) (h1 : 1 < s.size) (e0 : (s[0]'h0).toNat = 36) (e1 : (s[1]'h1).toNat = 49 + k) :
  Calls Tryz.prog 311 #[nP r,.string s,.bool false] w fun e w' => e = .returned (.tuple #[.string (holeB a b c k),.int .i64 2,.bool true]) ∧ ∃ n,w' = w.drewN n := by
 obtain ⟨tr,g1,N,T,x,y,z,g2,g3,g4,g5,g6,g7⟩ := h
 match k,hk with
 | 0,_ => exact look_some r tr N T x 1 (.pointer none) (.pointer none) (.pointer none) a 6 s w g1 g2 g3 (g4.cell 1) g5 (by decide) (by decide) h0 h1 e0 (by rw [e1]; rfl)
 | 1,_ => exact look_some r tr N T y 2 (.pointer none) (.pointer none) (.pointer none) b 4 s w g1 g2 g3 (g4.cell 2) g6 (by decide) (by decide) h0 h1 e0 (by rw [e1]; rfl)
 | 2,_ => exact look_some r tr N T z 3 (.pointer none) (.pointer none) (.pointer none) c 2 s w g1 g2 g3 (g4.cell 3) g7 (by decide) (by decide) h0 h1 e0 (by rw [e1]; rfl)
theorem ext_list' (s : ByteArray) (i j : Nat) : (s.extract i j).data.toList = (s.data.toList.drop i).take (j - i) := by
 rw [ByteArray.data_extract,Array.toList_extract,List.extract_eq_take_drop]
theorem belN (B : Nat) (w : World) (n : Nat) : Below B w (w.drewN n) := ⟨(But.drewN (But.refl [] w) n).os,(But.drewN (But.refl [] w) n).tape,(But.drewN (But.refl [] w) n).output,Nat.le_refl _,fun _ _ => rfl⟩
structure WJ (A B C D R : Tx) (i last : Nat) (o : Tx) : Prop where
 le : last ≤ i
 ls : last ≤ D.length
 most : i ≤ D.length + 1
 mid : i ≤ D.length → o ++ (D.drop last).take (i - last) ++ replC A B C (D.drop i) = R ∧ wfT (D.drop i) = true
 fin : i = D.length + 1 → o ++ D.drop last = R
theorem WJ.start (A B C D : Tx) (h : wfT D = true) : WJ A B C D (replC A B C D) 0 0 [] :=
 ⟨Nat.le_refl _,Nat.zero_le _,Nat.zero_le _,fun _ => ⟨by simp,by simpa using h⟩,fun h => by omega⟩
theorem take_next (D : Tx) (i last : Nat) (h : i < D.length) (hl : last ≤ i) : (D.drop last).take (i + 1 - last) = (D.drop last).take (i - last) ++ [D[i]] := by
 rw [show i + 1 - last = (i - last) + 1 by omega,List.take_add_one]
 congr 1
 rw [List.getElem?_drop,show last + (i - last) = i by omega,List.getElem?_eq_getElem h]; rfl
theorem WJ.skip {A B C D R : Tx} {i last : Nat} {o : Tx} (h : WJ A B C D R i last o) (hi : i < D.length) (hx : D[i] ≠ 36) : WJ A B C D R (i + 1) last o := by
 obtain ⟨m1,m2⟩ := h.mid (by omega)
 rw [List.drop_eq_getElem_cons hi] at m1 m2
 obtain ⟨e1,e2⟩ := rep_ne A B C D[i] (D.drop (i + 1)) hx
 rw [e1] at m1
 rw [e2] at m2
 refine ⟨by have := h.le; omega,h.ls,by omega,fun _ => ⟨?_,m2⟩,fun h2 => by omega⟩
 rw [take_next D i last hi h.le,← m1]
 simp
theorem WJ.last {A B C D R : Tx} {last : Nat} {o : Tx} (h : WJ A B C D R D.length last o) : WJ A B C D R (D.length + 1) last o := by
 obtain ⟨m1,m2⟩ := h.mid (Nat.le_refl _)
 refine ⟨by have := h.le; omega,h.ls,Nat.le_refl _,fun h2 => by omega,fun _ => ?_⟩
 rw [← m1,List.drop_length,List.take_of_length_le (by simp)]
 simp [replC]
theorem WJ.hole {A B C D R : Tx} {i last : Nat} {o : Tx} (h : WJ A B C D R i last o) (hi : i < D.length) (hx : D[i] = 36) :
  ∃ k,∃ (h1 : i + 1 < D.length),k < 3 ∧ (D[i + 1]'h1).toNat = 49 + k ∧ WJ A B C D R (i + 2) (i + 2) (o ++ (D.drop last).take (i - last) ++ holeT A B C k) ∧ o.length + (i - last) + (holeT A B C k).length ≤ R.length := by
 obtain ⟨m1,m2⟩ := h.mid (by omega)
 rw [List.drop_eq_getElem_cons hi,hx] at m1 m2
 obtain ⟨k,t,hk,e,hw⟩ := wf_hole _ m2
 rw [e] at m1
 rw [rep_hole A B C k hk] at m1
 have h1 : i + 1 < D.length := by
  rcases Nat.lt_or_ge (i + 1) D.length with h1 | h1
  ·exact h1
  ·rw [List.drop_eq_nil_of_le h1] at e; cases e
 rw [List.drop_eq_getElem_cons h1] at e
 injection e with e1 e2
 have hl : ((D.drop last).take (i - last)).length = i - last := by rw [List.length_take,List.length_drop]; have := h.le; omega
 refine ⟨k,h1,hk,?_,⟨Nat.le_refl _,by omega,by omega,fun _ => ⟨?_,?_⟩,fun h2 => by omega⟩,?_⟩
 ·rw [e1]
  match k,hk with
  | 0,_ => rfl
  | 1,_ => rfl
  | 2,_ => rfl
 ·have e3 : D.drop (i + 2) = t := e2
  rw [e3,← m1]; simp
 ·have e3 : D.drop (i + 2) = t := e2
  rw [e3]; exact hw
 ·rw [← m1]; simp only [List.length_append,hl]; omega
set_option maxHeartbeats 4000000 in
theorem wstring_any (a b c s : ByteArray) (r buf : Nat) (w0 w : World) (hG : GP w0 r a b c) (hb : Below w0.heap.size w0 w) (hA : AW w0.heap.size buf [] w) (hwf : wfT s.data.toList = true) (hsz : s.size ≤ 1000) (R : Tx) (hR : replC a.data.toList b.data.toList c.data.toList s.data.toList = R) (hRl : R.length ≤ 1000000) :
  Calls Tryz.prog 309 #[nP r,aI buf,.string s] w fun e w' => (∃ v,e = .returned v) ∧ AW w0.heap.size buf R w' ∧ Below w0.heap.size w0 w' := by
 have hW := WJ.start a.data.toList b.data.toList c.data.toList s.data.toList hwf
 rw [hR] at hW
 have HW := Lib.hid hW
 have q0 := na_any buf
 have q00 := me_any buf
 have HG := Lib.hid hG
 have HB := Lib.hid hb
 have HA := Lib.hid hA
 have HR := Lib.hid hRl
 clear hW hG hb hA hwf hR hRl
 go_enter Tryz.func309,Tryz.ntmps309
 go_wp2_with (go_at_call 310; (with_reducible refine (gsw_any buf _).mono ?_); rintro e w1 ⟨rfl,hw⟩; obtain rfl := hw.symm)
 go_loopg [6,7,9,11,12] (s.size + 1) (fun gk u6 u7 u9 u11 u12 wx => ∃ (z : Int) (i last : Nat) (o : Tx),u6 = .int .i64 z ∧ u7 = .nilIface ∧ u9 = .int .i64 (last : Int) ∧ u11 = .bool false ∧ u12 = .int .i64 (i : Int) ∧ s.size + 1 - i ≤ gk ∧ WJ a.data.toList b.data.toList c.data.toList s.data.toList R i last o ∧ AW w0.heap.size buf o wx ∧ Below w0.heap.size w0 wx)
 case atStart => exact ⟨0,0,0,[],rfl,rfl,rfl,rfl,rfl,by omega,HW.out,HA.out,HB.out⟩
 case round =>
  obtain ⟨z,i,last,o,rfl,rfl,rfl,rfl,rfl,hgk,hW,hA,hB⟩ := hrel
  have hG := HG.out.below hB
  have HGR := Lib.hid hG
  have HWR := Lib.hid hW
  have HAR := Lib.hid hA
  have HBR := Lib.hid hB
  have HGK := Lib.hid hgk
  have hle := hW.le
  have hls : last ≤ s.size := hW.ls
  have hmost : i ≤ s.size + 1 := hW.most
  clear hgk hW hA hB
  obtain ⟨tr,g1,N,T,x,y,zz,g2,g3,g4,g5,g6,g7⟩ := hG
  have r1 : wr.cell? ⟨r,1,none⟩ = some (.int .i64 0) := (g1.cell 1).trans (gr_head _ 4 mapF 1 (by decide))
  have r4 : wr.cell? ⟨r,4,none⟩ = some (nT tr) := (g1.cell 4).trans (gr_head _ 4 mapF 4 (by decide))
  have r5 : wr.cell? ⟨r,5,none⟩ = some (.int .i64 4) := (g1.cell 5).trans (gr_head _ 4 mapF 5 (by decide))
  have t0 : wr.cell? ⟨tr,0,none⟩ = some (nP N) := g2.cell 0
  have t1 : wr.cell? ⟨tr,1,none⟩ = some (.pointer none) := g2.cell 1
  have t2 : wr.cell? ⟨tr,2,none⟩ = some (.pointer none) := g2.cell 2
  have t3 : wr.cell? ⟨tr,3,none⟩ = some (.pointer none) := g2.cell 3
  have p1 := pt_sn ⟨N,0,none⟩
  have p2 := pt_nn
  have HG1 := Lib.hid g1
  have hBs := Nat.le_trans (Nat.le_refl _) HBR.out.size
  rcases Nat.lt_or_ge i s.size with hlt | hge
  ·have b0 : (0 : Int) ≤ (i : Int) := by omega
   have b1 : (i : Int) ≤ (s.size : Int) := by omega
   have b2 : (i : Int) < (s.size : Int) := by omega
   have b3 : ((i : Int) != (s.size : Int)) = true := by rw [bne_iff_ne]; omega
   have hx : (s[i]'hlt).toNat < 256 := (s[i]'hlt).toNat_lt
   have m0 : wr.cell? ⟨r,6 + (s[i]'hlt).toNat,none⟩ = some (.int .u8 (mapF (s[i]'hlt).toNat)) := (g1.cell _).trans (gr_map _ 4 mapF _ hx)
   obtain ⟨i1,hi1⟩ : ∃ i1,i + 1 = i1 := ⟨_,rfl⟩
   have wk : IntKind.i64.wrap ((i : Int) + 1) = (i1 : Int) := by rw [show (i : Int) + 1 = (i1 : Int) by omega]; exact IntWalk.i64_in _ (by omega)
   have HI1 := Lib.hid hi1
   obtain ⟨be,hbe⟩ : ∃ be,(s[i]'hlt).toNat = be := ⟨_,rfl⟩
   have hskip : be ≠ 36 → WJ a.data.toList b.data.toList c.data.toList s.data.toList R i1 last o := fun h => by
    rw [← hi1]
    exact HWR.out.skip hlt (fun h2 => h (by rw [← hbe]; show (s.data.toList[i]).toNat = 36; rw [h2]; rfl))
   have HSK := Lib.hid hskip
   rw [hbe] at m0 hx
   have hbi : (be : Int) < 256 := by omega
   by_cases h36 : be = 36
   ·subst h36
    have m1 : wr.cell? ⟨r,42,none⟩ = some (.int .u8 0) := m0
    obtain ⟨k,h1,hk,e1,hW2,hbd⟩ := HWR.out.hole hlt (by
     have e : (s[i]'hlt) = 36 := UInt8.toNat_inj.1 hbe
     exact e)
    have h1' : i + 1 < s.size := h1
    have z0 : 0 < (s.extract i s.size).size := by rw [ByteArray.size_extract]; omega
    have z1 : 1 < (s.extract i s.size).size := by rw [ByteArray.size_extract]; omega
    have f0 : ((s.extract i s.size)[0]'z0).toNat = 36 := by
     rw [ByteArray.getElem_extract]; exact hbe
    have f1 : ((s.extract i s.size)[1]'z1).toNat = 49 + k := by
     rw [ByteArray.getElem_extract]; exact e1
    have hpt : (s.data.toList.drop last).take (i - last) = (s.extract last i).data.toList := (ext_list' s last i).symm
    rw [hpt,← hole_bt] at hW2
    rw [← hole_bt] at hbd
    have hpl : (s.extract last i).size = i - last := by rw [ByteArray.size_extract]; omega
    have hhl : (holeB a b c k).size = (holeB a b c k).data.toList.length := rfl
    have HBD : Hid (o.length + (s.extract last i).size + (holeB a b c k).size ≤ 1000000) := Lib.hid (by have := HR.out; omega)
    obtain ⟨val,hval⟩ : ∃ val,holeB a b c k = val := ⟨_,rfl⟩
    obtain ⟨i2,hi2⟩ : ∃ i2,i + 2 = i2 := ⟨_,rfl⟩
    have wk2 : IntKind.i64.wrap ((i : Int) + 2) = (i2 : Int) := by rw [show (i : Int) + 2 = (i2 : Int) by omega]; exact IntWalk.i64_in _ (by omega)
    have HLK := Lib.hid (fun W hGW => look_at W r a b c hGW (s.extract i s.size) k hk z0 z1 f0 f1)
    rw [hval] at hW2 HBD HLK
    rw [hi2] at hW2
    have HW2 := Lib.hid hW2
    have HI2 := Lib.hid hi2
    have l4 : (last : Int) ≤ (i : Int) := by omega
    have l5 : (0 : Int) ≤ (last : Int) := by omega
    clear m0 g1 g2 g3 g4 g5 g6 g7 hskip hi1 hx hle hls hmost hW2 hbd z0 z1 f0 f1 hpt hpl hhl hval hi2 h1 h1' e1 hk HSK
    go_wp2
    go_quiet (fail)
    go_wp2_with (go_at_call 311; (refine (HLK.out _ (HGR.out.below (belN _ _ _))).mono ?_); rintro e w2 ⟨rfl,nn,rfl⟩)
    have HA1 := Lib.hid (awrite_any w0.heap.size buf o (s.extract last i) (wr.drewN (nq + nn + 1)) (HAR.out.below (belN _ _ _)) (by have := HBD.out; omega) hBs)
    go_region_with (go_at_call 327; (refine HA1.out.mono ?_); rintro e w2 ⟨rfl,h2,hb2⟩; have H2 := Lib.hid h2; have HB2 := Lib.hid hb2; clear h2 hb2)
    all_goals
     have HBB := Lib.hid ((HBR.out.trans (belN _ _ (nq + nn + 1))).trans HB2.out)
     have HA2 := Lib.hid (fun W (e : W = w2) => awrite_any w0.heap.size buf (o ++ (s.extract last i).data.toList) val W (e ▸ H2.out) (by have := HBD.out; have e2 : (s.extract last i).size = (s.extract last i).data.toList.length := rfl; rw [List.length_append]; omega) (by rw [e]; exact Nat.le_trans (Nat.le_refl _) HBB.out.size))
     go_wp2_with (go_at_call 327; (refine (HA2.out _ rfl).mono ?_); rintro e w3 ⟨rfl,h3,hb3⟩; have H3 := Lib.hid h3; have HB3 := Lib.hid hb3; clear h3 hb3)
     go_roundg (gk - 1)
     case measure => have := HGK.out; omega
     case rel => exact ⟨_,i2,i2,_,rfl,rfl,rfl,rfl,rfl,by have := HGK.out; have := HI2.out; omega,HW2.out,H3.out,HBB.out.trans HB3.out⟩
   ·have HN36 := Lib.hid h36
    by_cases h49 : be = 49
    ·subst h49
     have m1 : wr.cell? ⟨r,55,none⟩ = some (.int .u8 1) := m0
     clear m0 g1 g2 g3 g4 g5 g6 g7 hskip hi1 hx hle hls hmost h36
     go_wp2
     go_quiet (fail)
     go_wp2
     go_roundg (gk - 1)
     case measure => have := HGK.out; omega
     case rel => exact ⟨z,i1,last,o,rfl,rfl,rfl,rfl,rfl,by have := HGK.out; have := HI1.out; omega,HSK.out HN36.out,HAR.out.below (belN _ _ _),HBR.out.trans (belN _ _ _)⟩
    ·by_cases h50 : be = 50
     ·subst h50
      have m1 : wr.cell? ⟨r,56,none⟩ = some (.int .u8 2) := m0
      clear m0 g1 g2 g3 g4 g5 g6 g7 hskip hi1 hx hle hls hmost h36
      go_wp2
      go_quiet (fail)
      go_wp2
      go_roundg (gk - 1)
      case measure => have := HGK.out; omega
      case rel => exact ⟨z,i1,last,o,rfl,rfl,rfl,rfl,rfl,by have := HGK.out; have := HI1.out; omega,HSK.out HN36.out,HAR.out.below (belN _ _ _),HBR.out.trans (belN _ _ _)⟩
     ·by_cases h51 : be = 51
      ·subst h51
       have m1 : wr.cell? ⟨r,57,none⟩ = some (.int .u8 3) := m0
       clear m0 g1 g2 g3 g4 g5 g6 g7 hskip hi1 hx hle hls hmost h36
       go_wp2
       go_quiet (fail)
       go_wp2
       go_roundg (gk - 1)
       case measure => have := HGK.out; omega
       case rel => exact ⟨z,i1,last,o,rfl,rfl,rfl,rfl,rfl,by have := HGK.out; have := HI1.out; omega,HSK.out HN36.out,HAR.out.below (belN _ _ _),HBR.out.trans (belN _ _ _)⟩
      ·skip
       have m1 : wr.cell? ⟨r,6 + be,none⟩ = some (.int .u8 4) := by rw [m0]; unfold mapF; rw [if_neg h36,if_neg h49,if_neg h50,if_neg h51]
       have HN36 := HN36
       clear m0 h49 h50 h51 g1 g2 g3 g4 g5 g6 g7 hskip hi1 hx hle hls hmost h36
       go_wp2
       go_quiet (fail)
       go_wp2
       go_roundg (gk - 1)
       case measure => have := HGK.out; omega
       case rel => exact ⟨z,i1,last,o,rfl,rfl,rfl,rfl,rfl,by have := HGK.out; have := HI1.out; omega,HSK.out HN36.out,HAR.out.below (belN _ _ _),HBR.out.trans (belN _ _ _)⟩
  ·rcases Nat.eq_or_lt_of_le hge with heq | hgt
   ·have b1 : (i : Int) ≤ (s.size : Int) := by omega
    have b0 : (0 : Int) ≤ (i : Int) := by omega
    have b3 : ((i : Int) != (s.size : Int)) = false := by rw [bne_eq_false_iff_eq]; omega
    have he : s.extract i s.size = ⟨#[]⟩ := by apply ByteArray.ext; rw [ByteArray.data_extract]; apply Array.eq_empty_of_size_eq_zero; simp; omega
    obtain ⟨i1,hi1⟩ : ∃ i1,i + 1 = i1 := ⟨_,rfl⟩
    have wk : IntKind.i64.wrap ((i : Int) + 1) = (i1 : Int) := by rw [show (i : Int) + 1 = (i1 : Int) by omega]; exact IntWalk.i64_in _ (by omega)
    have hW2 : WJ a.data.toList b.data.toList c.data.toList s.data.toList R i1 last o := by
     have := HWR.out
     rw [show i = s.data.toList.length from heq.symm] at this
     rw [show i1 = s.data.toList.length + 1 by rw [← hi1,← heq]; rfl]
     exact this.last
    have HW2 := Lib.hid hW2
    have HI1 := Lib.hid hi1
    clear g1 g2 g3 g4 g5 g6 g7 hi1 hle hls hmost hge heq hW2
    go_wp2_with (go_at_call 311; (refine (look_none r tr false _ HG1.out).mono ?_); rintro e w2 ⟨rfl,nn,rfl⟩)
    go_roundg (gk - 1)
    case measure => have := HGK.out; omega
    case rel => exact ⟨z,i1,last,o,rfl,rfl,rfl,rfl,rfl,by have := HGK.out; have := HI1.out; omega,HW2.out,HAR.out.below (belN _ _ _),HBR.out.trans (belN _ _ _)⟩
   ·have l1 : ¬ ((i : Int) ≤ (s.size : Int)) := by omega
    have hfin := HWR.out.fin (by show i = s.size + 1; omega)
    have HF := Lib.hid hfin
    by_cases hll : last = s.size
    ·have l2 : decide ((last : Int) = (s.size : Int)) = true := by rw [decide_eq_true_iff]; omega
     have l3 : ((last : Int) != (s.size : Int)) = false := by rw [bne_eq_false_iff_eq]; omega
     have hoR : o = R := by rw [← HF.out,hll,show s.data.toList.drop s.size = [] from List.drop_length,List.append_nil]
     have HO := Lib.hid hoR
     clear g1 g2 g3 g4 g5 g6 g7 hle hls hmost hge hgt hll hfin hoR
     go_wp2
     go_ret2
     exact ⟨⟨_,rfl⟩,HO.out ▸ HAR.out,HBR.out⟩
    ·have l2 : ((last : Int) != (s.size : Int)) = true := by rw [bne_iff_ne]; omega
     have l4 : (last : Int) ≤ (s.size : Int) := by omega
     have l5 : (0 : Int) ≤ (last : Int) := by omega
     have hoR : o ++ (s.extract last s.size).data.toList = R := by
      rw [← HF.out,ext_list']
      congr 1
      apply List.take_of_length_le
      rw [List.length_drop]; exact Nat.le_refl _
     have hoL : o.length + (s.extract last s.size).size ≤ 1000000 := by
      have h1 : (s.extract last s.size).size = (s.extract last s.size).data.toList.length := rfl
      have h2 := HR.out
      rw [← hoR,List.length_append] at h2
      rw [h1]; exact h2
     have HO := Lib.hid hoR
     have HA1 := Lib.hid (awrite_any w0.heap.size buf o (s.extract last s.size) wr.drew (HAR.out.below ((Below.refl _ _).drew)) (by omega) hBs)
     clear g1 g2 g3 g4 g5 g6 g7 hle hls hmost hge hgt hll hfin hoR hoL
     go_wp2
     go_region_with (go_at_call 327; (refine HA1.out.mono ?_); rintro e w2 ⟨rfl,h2,hb2⟩; have H2 := Lib.hid h2; have HB2 := Lib.hid hb2; clear h2 hb2)
     all_goals
      go_wp2
      go_ret2
      exact ⟨⟨_,rfl⟩,HO.out ▸ H2.out,(HBR.out.drew).trans HB2.out⟩

theorem conv_aw {w : World} {B n : Nat} {v : Value} {l : Tx} (h : w.ownsRow B 5 1 v n (Lib.byteCells l)) (hn : n = l.length) : (convert 339 9 v).run Tryz.prog w = .ok (.string ⟨l.toArray⟩) w := by
 subst hn
 rcases h.2 with ⟨rfl,h0⟩ | ⟨g,cap,cur,rfl,hB,hg,hn,_,_,htk⟩
 ·have : l = [] := List.length_eq_zero_iff.1 h0
  subst this
  exact Lib.run_convert_nil_bytes w _ _ 5 0 (by kernel_rfl) (by kernel_rfl) (by kernel_rfl)
 ·rw [Nat.mul_one] at htk
  exact run_convert_bytes_back (P := Tryz.prog) w _ _ 5 ⟨g,0,none⟩ cap l (by kernel_rfl) (by kernel_rfl) (by kernel_rfl) (Lib.bytes_of_row hg htk)
set_option maxHeartbeats 2000000 in
theorem grep_any (a b c s : ByteArray) (r : Nat) (w : World) (hG : GP w r a b c) (hwf : wfT s.data.toList = true) (hsz : s.size ≤ 1000) (R : Tx) (hR : replC a.data.toList b.data.toList c.data.toList s.data.toList = R) (hRl : R.length ≤ 1000000) :
  Calls Tryz.prog 308 #[nP r,.string s] w fun e w' => e = .returned (.string ⟨R.toArray⟩) ∧ Below w.heap.size w w' := by
 obtain ⟨i0,hi,hz0,hz1,hz2⟩ := info_parts aw_info
 obtain ⟨w1,hm,how,hgr⟩ := run_make_own (P := Tryz.prog) w w.heap.size 339 5 i0 (.int .u8 0) 1 (by kernel_rfl) hi hz0 hz1 .i64 .i64 s.size (by rw [hz2]; omega) (by unfold maxLen; omega) (Nat.le_refl _)
 have hb1 : Below w.heap.size w w1 := (Below.refl _ _).grown hgr (Nat.le_refl _) (fun k hk => by cases hk)
 have hlt1 : w.heap.size < w1.heap.size := by
  rcases how.2 with ⟨h,_⟩ | ⟨g,cap,cur,h,_,hg,_⟩
  ·cases h
  ·injection h with h1 h2 h3
   injection h1 with h1
   injection h1 with h1 _
   rw [h1]; exact (Array.getElem?_eq_some_iff.1 hg).1
 have hA : AW w.heap.size w1.heap.size [] (w1.alloc (.cells #[.slice (some ⟨w.heap.size,0,none⟩) 0 s.size] 339)) :=
  ⟨hb1.size,_,Blk.new _ _ _,how.alloc _,by simp [Value.ownBlock]; omega⟩
 have HB2 := Lib.hid (hb1.alloc hb1.size (.cells #[.slice (some ⟨w.heap.size,0,none⟩) 0 s.size] 339))
 have HW := Lib.hid (wstring_any a b c s r w1.heap.size w (w1.alloc (.cells #[.slice (some ⟨w.heap.size,0,none⟩) 0 s.size] 339)) hG HB2.out hA hwf hsz R hR hRl)
 clear how hgr hA hwf hsz hR hRl hG hi
 go_enter Tryz.func308,Tryz.ntmps308
 go_wp2_with (go_at_call 309; (refine HW.out.mono ?_); rintro e w2 ⟨⟨v,rfl⟩,h2,hb2⟩; obtain ⟨hB,v2,hbk,hown,hne⟩ := h2; have c0 : w2.cell? ⟨w1.heap.size,0,none⟩ = some v2 := hbk.cell 0; have hcv := conv_aw hown rfl; have HB3 := Lib.hid hb2; clear hb2)
 go_ret
 exact ⟨rfl,HB3.out⟩

theorem r_disable (w : World) : (callFunc 249 #[]).run Tryz.prog w = .ok (.value (.tuple #[])) w := run_call_mark0 Tryz.func249 (by kernel_rfl) (by kernel_rfl) (by kernel_rfl) .disable (by kernel_rfl) w
theorem r_enable (w : World) : (callFunc 251 #[]).run Tryz.prog w = .ok (.value (.tuple #[])) w := run_call_mark0 Tryz.func251 (by kernel_rfl) (by kernel_rfl) (by kernel_rfl) .enable (by kernel_rfl) w
theorem r_acquire (a : Addr) (w : World) : (callFunc 252 #[.pointer (some a)]).run Tryz.prog w = .ok (.value (.tuple #[])) w := run_call_marked Tryz.func252 (by kernel_rfl) (by kernel_rfl) (by kernel_rfl) .acquire (by kernel_rfl) a w
theorem r_release (a : Addr) (w : World) : (callFunc 254 #[.pointer (some a)]).run Tryz.prog w = .ok (.value (.tuple #[])) w := run_call_marked Tryz.func254 (by kernel_rfl) (by kernel_rfl) (by kernel_rfl) .releaseMerge (by kernel_rfl) a w
theorem lock_any (a : Addr) (w : World) (hc : w.cell? a = some (.int .i32 0)) (hz : w.frozen? a = false) :
  Calls Tryz.prog 198 #[.pointer (some a)] w fun e w' => e = .returned (.tuple #[]) ∧ w' = w.setCell a (.int .i32 1) := by
 have hd := r_disable
 have he := r_enable
 have ha := r_acquire
 have hcas := run_call_cas_hit (P := Tryz.prog) Tryz.func250 (by kernel_rfl) (by kernel_rfl) (by kernel_rfl) .i32 (by kernel_rfl) (y := 1) hc hz
 have hc' : (w.setCell a (.int .i32 1)).cell? a = some (.int .i32 1) := World.cell?_setCell_same w a _ hc
 have hcv := run_convert_to_unsafe (P := Tryz.prog) (src := 283) (dst := 287) Tryz.underlying283 Tryz.underlying287 (by kernel_rfl) hc'
 go_enter Tryz.func198,Tryz.ntmps198
 go_wp2
 first | go_end0 | (simp only [Exit.inBlock,Exit.then]; refine bodyPost_ret (results_none rfl _ _ _) rfl ?_) | refine bodyPost_ret (results_none rfl _ _ _) rfl ?_
 go_wp2
 go_end0
 exact ⟨rfl,rfl⟩
theorem store_d (a : Addr) (x : Value) (u : FrameMode) (w : World) (hc : w.cell? a = some x) (hz : w.frozen? a = false) :
  CallsD Tryz.prog 200 #[.pointer (some a),.bool true] u w fun e u' w' => u' = u ∧ (e = .returned (.tuple #[]) ∧ w' = w.drew.setCell a (.int .u32 1)) := by
 have hc' : w.drew.cell? a = some x := by go_simp
 have hz' : w.drew.frozen? a = false := by go_simp
 have hst := run_call_store (P := Tryz.prog) Tryz.func227 (by kernel_rfl) (by kernel_rfl) (by kernel_rfl) (by kernel_rfl) (k := .u32) (y := 1) hc' hz'
 go_enter_d Tryz.func200,Tryz.ntmps200
 go_wp2
 go_region_calls
 all_goals (go_end0; exact ⟨rfl,rfl⟩)
theorem unlock_d (a : Addr) (u : FrameMode) (w : World) (hc : w.cell? a = some (.int .i32 1)) (hz : w.frozen? a = false) :
  CallsD Tryz.prog 199 #[.pointer (some a)] u w fun e u' w' => u' = u ∧ (e = .returned (.tuple #[]) ∧ w' = w.setCell a (.int .i32 0)) := by
 have hd := r_disable
 have he := r_enable
 have hr := r_release
 have hadd := run_call_add (P := Tryz.prog) Tryz.func255 (by kernel_rfl) (by kernel_rfl) (by kernel_rfl) .i32 (by kernel_rfl) (y := -1) (s := 0) hc hz (by simp [go_sem]; rfl)
 have hcv := run_convert_to_unsafe (P := Tryz.prog) (src := 283) (dst := 287) Tryz.underlying283 Tryz.underlying287 (by kernel_rfl) hc
 go_enter_d Tryz.func199,Tryz.ntmps199
 go_wp2
 go_end0
 go_wp2
 go_end0
 exact ⟨rfl,rfl⟩

abbrev oS (o cap : Nat) : Value := .slice (some ⟨o,0,none⟩) 6 cap
abbrev gI (r : Nat) : Value := .iface 234 (nP r)
def RP (w : World) (p : Nat) (s0 s1 : Int) (rr on : Value) : Prop := Blk w p 179 #[.int .u32 s0,.int .i32 s1,.int .u32 0,rr,on]
theorem GP.far {w : World} {r p i : Nat} {a b c : ByteArray} {cs : Array Value} (h : GP w r a b c) (hp : Blk w p 179 cs) (u : Value) : GP (w.setCell ⟨p,i,none⟩ u) r a b c := by
 obtain ⟨tr,g1,N,T,x,k,l,g2,g3,g4,g5,g6,g7⟩ := h
 have hq : ∀ {g : Nat} {t : TypeId} {cs : Array Value},Blk w g t cs → t ≠ 179 → Blk (w.setCell ⟨p,i,none⟩ u) g t cs := fun hb ht => hb.far (Blk.ne_ hb hp ht) _
 exact ⟨tr,hq g1 (by decide),N,T,x,k,l,hq g2 (by decide),hq g3 (by decide),hq g4 (by decide),hq g5 (by decide),hq g6 (by decide),hq g7 (by decide)⟩
theorem build_any (p o cap : Nat) (a b c : ByteArray) (s0 s1 : Int) (rr : Value) (w : World) (h : RP w p s0 s1 rr (oS o cap)) (ho : ON w o a b c) :
  Calls Tryz.prog 170 #[nP p] w fun e w' => e = .returned (gI w.heap.size) ∧ GP w' w.heap.size a b c ∧ But [] w w' := by
 have c4 : w.cell? ⟨p,4,none⟩ = some (oS o cap) := h.cell 4
 have o0 : w.cell? ⟨o,0,none⟩ = some (.string ⟨#[36,49]⟩) := ho.2 0 (by decide)
 have HM := Lib.hid (made_any o cap a b c w ho)
 clear h ho
 go_enter Tryz.func170,Tryz.ntmps170
 go_wp2
 go_loopg [5] 1 (fun gk u5 wx => u5 = .int .i64 0 ∧ wx = w)
 case atStart => exact ⟨rfl,rfl⟩
 case round =>
  obtain ⟨rfl,rfl⟩ := hrel
  go_wp2_with (go_at_call 202; (refine HM.out.mono ?_); rintro e w' ⟨rfl,h1,h2⟩; have H1 := Lib.hid h1; have H2 := Lib.hid h2; clear h1 h2)
  go_ret
  exact ⟨rfl,H1.out,H2.out⟩
theorem once_any (p o cap : Nat) (a b c : ByteArray) (s0 s1 : Int) (w : World) (h : RP w p s0 s1 .nilIface (oS o cap)) (ho : ON w o a b c) :
  Calls Tryz.prog 128 #[nP p] w fun e w' => e = .returned (.tuple #[]) ∧ RP w' p s0 s1 (gI w.heap.size) (.slice none 0 0) ∧ GP w' w.heap.size a b c ∧ But [p] w w' := by
 have HB := Lib.hid (build_any p o cap a b c s0 s1 .nilIface w h ho)
 have hlt := h.lt
 have H := Lib.hid h
 clear h ho
 go_enter Tryz.func128,Tryz.ntmps128
 go_wp2_with (go_at_call 170; (refine HB.out.mono ?_); rintro e w1 ⟨rfl,h1,h2⟩; have h3 : RP w1 p s0 s1 .nilIface (oS o cap) := Blk.but H.out h2 (by simp); have c3 : w1.cell? ⟨p,3,none⟩ = some .nilIface := h3.cell 3; have c4 : w1.cell? ⟨p,4,none⟩ = some (oS o cap) := h3.cell 4; have f3 := h3.frozen 3; have f4 := h3.frozen 4; have H1 := Lib.hid h1; have H2 := Lib.hid h2; have H3 := Lib.hid h3; clear h1 h2 h3)
 go_end0
 exact ⟨rfl,(Blk.set_ H3.out 3 _).set_ 4 _,(H1.out.far H3.out _).far (Blk.set_ H3.out 3 _) _,((H2.out.trans (But.refl [p] w1) (by simp) (fun x hx _ => hx)).set _ _ (.inl (by simp))).set _ _ (.inl (by simp))⟩
set_option maxHeartbeats 1600000 in
theorem slow_any (p o cap : Nat) (a b c : ByteArray) (w : World) (h : RP w p 0 0 .nilIface (oS o cap)) (ho : ON w o a b c) (hne : o ≠ p) :
  Calls Tryz.prog 169 #[nP p,.func (.func 128) #[nP p] #[]] w fun e w' => e = .returned (.tuple #[]) ∧ (∃ r,RP w' p 1 0 (gI r) (.slice none 0 0) ∧ GP w' r a b c) ∧ But [p] w w' := by
 have c0 : w.cell? ⟨p,0,none⟩ = some (.int .u32 0) := h.cell 0
 have c1 : w.cell? ⟨p,1,none⟩ = some (.int .i32 0) := h.cell 1
 have f0 := h.frozen 0
 have f1 := h.frozen 1
 have hl := run_call_load (P := Tryz.prog) Tryz.func197 (by kernel_rfl) (by kernel_rfl) (by kernel_rfl) .u32 (by kernel_rfl) (w := w.setCell ⟨p,1,none⟩ (.int .i32 1)) (a := ⟨p,0,none⟩) (x := 0) ((World.cell?_setCell_other _ ⟨p,1,none⟩ ⟨p,0,none⟩ _ (by simp)).trans c0)
 have hnot : ∀ (x : Bool) (w : World),(Op.unary .not (.bool x)).run Tryz.prog w = .ok (.bool (!x)) w := fun _ _ => rfl
 have h1 : RP (w.setCell ⟨p,1,none⟩ (.int .i32 1)) p 0 1 .nilIface (oS o cap) := Blk.set_ h 1 _
 have ho1 : ON (w.setCell ⟨p,1,none⟩ (.int .i32 1)) o a b c := ho.but ((But.refl [p] w).set _ _ (.inl (by simp))) (by simpa using hne)
 have HO := Lib.hid (once_any p o cap a b c 0 1 _ h1 ho1)
 clear ho ho1
 go_enter_defers Tryz.func169,Tryz.ntmps169
 go_wp2_with (first
  | (go_at_call 198; refine (lock_any ⟨p,1,none⟩ _ (by go_simp) (by go_simp)).mono ?_; rintro e w' ⟨rfl,rfl⟩)
  | (go_at_call 168; go_in)
  | (go_at_call 128; refine HO.out.mono ?_; rintro e w1 ⟨rfl,g1,g2,g3⟩; have G1 := Lib.hid g1; have G2 := Lib.hid g2; have G3 := Lib.hid g3; clear g1 g2 g3))
 -- two deferred calls, the last laid first
 refine leaves_cons (f := 200) (args := #[.pointer (some ⟨p,0,none⟩),.bool true]) (by simp) (by simp [go_sem]) ?_
 refine (store_d ⟨p,0,none⟩ (.int .u32 0) .returning _ (Blk.cell G1.out 0) (Blk.frozen G1.out 0)).mono ?_
 rintro e u' w'' ⟨rfl,rfl,rfl⟩
 have h5 : RP (w1.drew.setCell ⟨p,0,none⟩ (.int .u32 1)) p 1 1 (gI (w.setCell ⟨p,1,none⟩ (.int .i32 1)).heap.size) (.slice none 0 0) := Blk.set_ (w := w1.drew) G1.out 0 _
 refine leaves_cons (f := 199) (args := #[.pointer (some ⟨p,1,none⟩)]) (by simp [settle]) (by simp [go_sem]) ?_
 refine (unlock_d ⟨p,1,none⟩ _ _ (h5.cell 1) (h5.frozen 1)).mono ?_
 rintro e u' w'' ⟨rfl,rfl,rfl⟩
 have h6 : RP ((w1.drew.setCell ⟨p,0,none⟩ (.int .u32 1)).setCell ⟨p,1,none⟩ (.int .i32 0)) p 1 0 (gI (w.setCell ⟨p,1,none⟩ (.int .i32 1)).heap.size) (.slice none 0 0) := h5.set_ 1 _
 have g5 : GP w1.drew (w.setCell ⟨p,1,none⟩ (.int .i32 1)).heap.size a b c := G2.out
 have g6 := (g5.far (i := 0) (w := w1.drew) G1.out (.int .u32 1)).far (i := 1) h5 (.int .i32 0)
 have g7 : But [p] w ((w1.drew.setCell ⟨p,0,none⟩ (.int .u32 1)).setCell ⟨p,1,none⟩ (.int .i32 0)) :=
  (((((But.refl [p] w).set ⟨p,1,none⟩ (.int .i32 1) (.inl (by simp))).trans G3.out (fun x hx => hx) (fun x hx _ => hx)).drewN 1).set _ _ (.inl (by simp))).set _ _ (.inl (by simp))
 have hfin : (∃ r,RP ((w1.drew.setCell ⟨p,0,none⟩ (.int .u32 1)).setCell ⟨p,1,none⟩ (.int .i32 0)) p 1 0 (gI r) (.slice none 0 0) ∧ GP ((w1.drew.setCell ⟨p,0,none⟩ (.int .u32 1)).setCell ⟨p,1,none⟩ (.int .i32 0)) r a b c) ∧ But [p] w ((w1.drew.setCell ⟨p,0,none⟩ (.int .u32 1)).setCell ⟨p,1,none⟩ (.int .i32 0)) := ⟨⟨_,h6,g6⟩,g7⟩
 generalize (w1.drew.setCell ⟨p,0,none⟩ (.int .u32 1)).setCell ⟨p,1,none⟩ (.int .i32 0) = W at hfin
 clear h5 h6 g5 g6 g7 G1 G2 G3
 simp [Leaves,settle,results,Tryz.results169]
 first | exact hfin | exact ⟨hfin.1,hfin.2⟩
theorem do_any (p o cap : Nat) (a b c : ByteArray) (w : World) (h : RP w p 0 0 .nilIface (oS o cap)) (ho : ON w o a b c) (hne : o ≠ p) :
  Calls Tryz.prog 127 #[nP p,.func (.func 128) #[nP p] #[]] w fun e w' => e = .returned (.tuple #[]) ∧ (∃ r,RP w' p 1 0 (gI r) (.slice none 0 0) ∧ GP w' r a b c) ∧ But [p] w w' := by
 have c0 : w.cell? ⟨p,0,none⟩ = some (.int .u32 0) := h.cell 0
 have hl := run_call_load (P := Tryz.prog) Tryz.func197 (by kernel_rfl) (by kernel_rfl) (by kernel_rfl) .u32 (by kernel_rfl) c0
 have hnot : ∀ (x : Bool) (w : World),(Op.unary .not (.bool x)).run Tryz.prog w = .ok (.bool (!x)) w := fun _ _ => rfl
 have HS := Lib.hid (slow_any p o cap a b c w h ho hne)
 clear h ho
 go_enter Tryz.func127,Tryz.ntmps127
 go_wp2_with (first | (go_at_call 169; refine HS.out.mono ?_; rintro e w' ⟨rfl,h1,h2⟩; have H1 := Lib.hid h1; have H2 := Lib.hid h2; clear h1 h2) | (go_at_call 168; go_in))
 go_end0
 exact ⟨rfl,H1.out,H2.out⟩

theorem mr_one (r m : Nat) (w : World) : (method (m + 1) 234 (nP r) "Replace").run Tryz.prog w = .ok (308, nP r) w := by kernel_rfl
theorem mr_any (r : Nat) (n : Nat) (h : 0 < n) (w : World) : (method n 234 (nP r) "Replace").run Tryz.prog w = .ok (308, nP r) w := by
 obtain ⟨m,rfl⟩ : ∃ m,n = m + 1 := ⟨n - 1,by omega⟩
 exact mr_one r m w
set_option maxHeartbeats 1600000 in
theorem rreplace_any (p o cap : Nat) (a b c s : ByteArray) (w : World) (h : RP w p 0 0 .nilIface (oS o cap)) (ho : ON w o a b c) (hne : o ≠ p) (B : Nat) (hB : B ≤ p) (hwf : wfT s.data.toList = true) (hsz : s.size ≤ 1000) (R : Tx) (hR : replC a.data.toList b.data.toList c.data.toList s.data.toList = R) (hRl : R.length ≤ 1000000) :
  Calls Tryz.prog 99 #[nP p,.string s] w fun e w' => e = .returned (.string ⟨R.toArray⟩) ∧ Below B w w' := by
 have HD := Lib.hid (do_any p o cap a b c w h ho hne)
 have HR := Lib.hid (fun W r hG => grep_any a b c s r W hG hwf hsz R hR hRl)
 have HM := mr_any
 have hlt := h.lt
 have hBw : B ≤ w.heap.size := by omega
 clear h ho hwf hsz hR hRl
 go_enter Tryz.func99,Tryz.ntmps99
 go_wp2_with (first
  | (go_at_call 127; refine HD.out.mono ?_; rintro e w1 ⟨rfl,⟨r,h1,h2⟩,h3⟩; have c3 : w1.cell? ⟨p,3,none⟩ = some (gI r) := h1.cell 3; have H2 := Lib.hid h2; have H3 := Lib.hid h3; clear h1 h2 h3)
  | (go_at_call 308; refine (HR.out _ _ H2.out).mono ?_; rintro e w2 ⟨rfl,hb⟩; have H4 := Lib.hid hb; clear hb))
 go_ret
 have hb1 : Below B w w1 := H3.out.below hBw (by simpa using hB)
 exact ⟨rfl,hb1.trans (H4.out.mono (Nat.le_trans hBw hb1.size))⟩

theorem st_info : (Tryz.prog.info? 9).map (fun i => (i.zero,i.size,i.bytes)) = some (some (.string ⟨#[]⟩),1,16) := by kernel_rfl
def NewP (a b c : ByteArray) (w : World) (e : Ending) (w' : World) : Prop := ∃ p o cap,e = .returned (nP p) ∧ RP w' p 0 0 .nilIface (oS o cap) ∧ ON w' o a b c ∧ o ≠ p ∧ w.heap.size ≤ p ∧ Below w.heap.size w w'
set_option maxHeartbeats 1600000 in
theorem new_any (x : Nat) (a b c : ByteArray) (w : World) (h : Blk w x 9 (onV a b c)) :
  Calls Tryz.prog 97 #[.slice (some ⟨x,0,none⟩) 6 6] w (NewP a b c w) := by
 obtain ⟨i0,hi,hz0,hz1,hz2⟩ := info_parts st_info
 have HX := Lib.hid h
 clear h
 go_enter Tryz.func97,Tryz.ntmps97
 go_wp2_with (at_builtin; refine wpList_append_own _ rfl _ _ 50 rfl w.heap.size 9 i0 (.string ⟨#[]⟩) 1 16 Tryz.underlying50 hi hz0 hz1 hz2 rfl (by decide) (.slice none 0 0) 0 [] rfl (World.ownsRow_nil _ _ _ _) ⟨x,0,none⟩ 6 6 (onV a b c).toList rfl rfl ?c1 ?c2 ?c3 ?c4 ?c5 ?_)
 case c1 =>
  intro j u hj
  have e : (⟨x,0,none⟩ : Addr).add j = ⟨x,j,none⟩ := by simp [Addr.add]; exact fun h => h.symm
  rw [e,HX.out.cell j]
  simpa using hj
 case c2 => intro u hu; simp only [onV,List.mem_cons,List.not_mem_nil,or_false] at hu; rcases hu with rfl | rfl | rfl | rfl | rfl | rfl <;> rfl
 case c3 => simp [maxLen]
 case c4 => simp
 case c5 => exact Nat.le_refl _
 intro v' w2 hown' hgrow _
 have hb2 : Below w.heap.size w w2 := (Below.refl _ _).grown hgrow (Nat.le_refl _) (fun k hk => by cases hk)
 rcases hown'.2 with ⟨_,h0⟩ | ⟨g,cap,cur,hv,hg0,hg,hn,hcap,hcs,htk⟩
 ·simp at h0
 ·subst hv
  have hon : ON w2 g a b c := ⟨(Array.getElem?_eq_some_iff.1 hg).1,fun i hi => by
   rw [Lib.cell_of_heap hg]
   have e : cur.toList.take 6 = (onV a b c).toList := by simpa using htk
   have : (cur.toList.take 6)[i]? = cur[i]? := by rw [List.getElem?_take_of_lt hi]; simp
   rw [← this,e]; simp⟩
  have HON := Lib.hid hon
  have HB2 := Lib.hid hb2
  clear hown' hgrow hg hcs htk hon hb2
  go_wp2
  go_ret
  refine ⟨w2.heap.size,g,cap,rfl,Blk.new _ _ _,HON.out.but ((But.refl [] w2).alloc _) (by simp),by have := HON.out.1; omega,HB2.out.size,HB2.out.alloc HB2.out.size _⟩
end Go.Proofs.YtjmmninopagpjaaGreatDoor
