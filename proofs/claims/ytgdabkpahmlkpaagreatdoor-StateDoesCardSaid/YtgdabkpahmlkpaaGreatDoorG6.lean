/- Tri Teq Ter -/
import Derived.Test.YtgdabkpahmlkpaaGreatDoorG4
import Derived.Test.YtgdabkpahmlkpaaGreatDoorG5
import Derived.Test.YtgdabkpahmlkpaaGreatDoorG3
set_option linter.unusedSimpArgs false
set_option linter.unusedVariables false
namespace Go.Proofs.YtgdabkpahmlkpaaGreatDoor
open Go.ChangeShapes Go.WideShapes Go.ChangeAt Go.RowKit
set_option maxRecDepth 100000
set_option linter.unusedVariables false
set_option linter.unusedSimpArgs false

theorem GP.below {w w' : World} {r : Nat} {a b c : ByteArray} (h : GP w r a b c) (hb : Below w.heap.size w w') : GP w' r a b c := by
 obtain ⟨tr,h1,N,T,x,k,l,h2,h3,h4,h5,h6,h7⟩ := h
 exact ⟨tr,Blk.below h1 hb h1.lt,N,T,x,k,l,Blk.below h2 hb h2.lt,Blk.below h3 hb h3.lt,Blk.below h4 hb h4.lt,Blk.below h5 hb h5.lt,Blk.below h6 hb h6.lt,Blk.below h7 hb h7.lt⟩
def holeB (a b c : ByteArray) (k : Nat) : ByteArray := if k = 0 then a else if k = 1 then b else c
theorem hole_bt (a b c : ByteArray) (k : Nat) : (holeB a b c k).data.toList = holeT a.data.toList b.data.toList c.data.toList k := by
 unfold holeB holeT
 split
 ·rfl
 ·split <;> rfl
theorem look_at (w : World) (r : Nat) (a b c : ByteArray) (h : GP w r a b c) (s : ByteArray) (k : Nat) (hk : k < 3) (h0 : 0 < s.size) (h1 : 1 < s.size) (e0 : (s[0]'h0).toNat = 36) (e1 : (s[1]'h1).toNat = 49 + k) :
  Calls Tryz.prog 318 #[nP r,.string s,.bool false] w fun e w' => e = .returned (.tuple #[.string (holeB a b c k),.int .i64 2,.bool true]) ∧ ∃ n,w' = w.drewN n := by
 obtain ⟨tr,g1,N,T,x,y,z,g2,g3,g4,g5,g6,g7⟩ := h
 match k,hk with
 | 0,_ => exact look_some r tr N T x 1 (.pointer none) (.pointer none) (.pointer none) a 6 s w g1 g2 g3 (g4.cell 1) g5 (by decide) (by decide) h0 h1 e0 (by rw [e1]; rfl)
 | 1,_ => exact look_some r tr N T y 2 (.pointer none) (.pointer none) (.pointer none) b 4 s w g1 g2 g3 (g4.cell 2) g6 (by decide) (by decide) h0 h1 e0 (by rw [e1]; rfl)
 | 2,_ => exact look_some r tr N T z 3 (.pointer none) (.pointer none) (.pointer none) c 2 s w g1 g2 g3 (g4.cell 3) g7 (by decide) (by decide) h0 h1 e0 (by rw [e1]; rfl)
theorem ext_list' (s : ByteArray) (i j : Nat) : (s.extract i j).data.toList = (s.data.toList.drop i).take (j - i) := by
 rw [ByteArray.data_extract,Array.toList_extract,List.extract_eq_take_drop]
theorem belN (B : Nat) (w : World) (n : Nat) : Below B w (w.drewN n) := ⟨(But.drewN (But.refl [] w) n).os,(But.drewN (But.refl [] w) n).tape,(But.drewN (But.refl [] w) n).output,Nat.le_refl _,fun _ _ => rfl⟩
structure WJ (A B C D R : Tx) (i last : Nat) (o : Tx) : Prop where
 le : last ≤ i
 ls : last ≤ D.length
 most : i ≤ D.length + 1
 mid : i ≤ D.length → o ++ (D.drop last).take (i - last) ++ replC A B C (D.drop i) = R ∧ wfT (D.drop i) = true
 fin : i = D.length + 1 → o ++ D.drop last = R
theorem WJ.start (A B C D : Tx) (h : wfT D = true) : WJ A B C D (replC A B C D) 0 0 [] :=
 ⟨Nat.le_refl _,Nat.zero_le _,Nat.zero_le _,fun _ => ⟨by simp,by simpa using h⟩,fun h => by omega⟩
theorem take_next (D : Tx) (i last : Nat) (h : i < D.length) (hl : last ≤ i) : (D.drop last).take (i + 1 - last) = (D.drop last).take (i - last) ++ [D[i]] := by
 rw [show i + 1 - last = (i - last) + 1 by omega,List.take_add_one]
 congr 1
 rw [List.getElem?_drop,show last + (i - last) = i by omega,List.getElem?_eq_getElem h]; rfl
theorem WJ.skip {A B C D R : Tx} {i last : Nat} {o : Tx} (h : WJ A B C D R i last o) (hi : i < D.length) (hx : D[i] ≠ 36) : WJ A B C D R (i + 1) last o := by
 obtain ⟨m1,m2⟩ := h.mid (by omega)
 rw [List.drop_eq_getElem_cons hi] at m1 m2
 obtain ⟨e1,e2⟩ := rep_ne A B C D[i] (D.drop (i + 1)) hx
 rw [e1] at m1
 rw [e2] at m2
 refine ⟨by have := h.le; omega,h.ls,by omega,fun _ => ⟨?_,m2⟩,fun h2 => by omega⟩
 rw [take_next D i last hi h.le,← m1]
 simp
theorem WJ.last {A B C D R : Tx} {last : Nat} {o : Tx} (h : WJ A B C D R D.length last o) : WJ A B C D R (D.length + 1) last o := by
 obtain ⟨m1,m2⟩ := h.mid (Nat.le_refl _)
 refine ⟨by have := h.le; omega,h.ls,Nat.le_refl _,fun h2 => by omega,fun _ => ?_⟩
 rw [← m1,List.drop_length,List.take_of_length_le (by simp)]
 simp [replC]
theorem WJ.hole {A B C D R : Tx} {i last : Nat} {o : Tx} (h : WJ A B C D R i last o) (hi : i < D.length) (hx : D[i] = 36) :
  ∃ k,∃ (h1 : i + 1 < D.length),k < 3 ∧ (D[i + 1]'h1).toNat = 49 + k ∧ WJ A B C D R (i + 2) (i + 2) (o ++ (D.drop last).take (i - last) ++ holeT A B C k) ∧ o.length + (i - last) + (holeT A B C k).length ≤ R.length := by
 obtain ⟨m1,m2⟩ := h.mid (by omega)
 rw [List.drop_eq_getElem_cons hi,hx] at m1 m2
 obtain ⟨k,t,hk,e,hw⟩ := wf_hole _ m2
 rw [e] at m1
 rw [rep_hole A B C k hk] at m1
 have h1 : i + 1 < D.length := by
  rcases Nat.lt_or_ge (i + 1) D.length with h1 | h1
  ·exact h1
  ·rw [List.drop_eq_nil_of_le h1] at e; cases e
 rw [List.drop_eq_getElem_cons h1] at e
 injection e with e1 e2
 have hl : ((D.drop last).take (i - last)).length = i - last := by rw [List.length_take,List.length_drop]; have := h.le; omega
 refine ⟨k,h1,hk,?_,⟨Nat.le_refl _,by omega,by omega,fun _ => ⟨?_,?_⟩,fun h2 => by omega⟩,?_⟩
 ·rw [e1]
  match k,hk with
  | 0,_ => rfl
  | 1,_ => rfl
  | 2,_ => rfl
 ·have e3 : D.drop (i + 2) = t := e2
  rw [e3,← m1]; simp
 ·have e3 : D.drop (i + 2) = t := e2
  rw [e3]; exact hw
 ·rw [← m1]; simp only [List.length_append,hl]; omega
set_option maxHeartbeats 4000000 in
theorem wstring_any (a b c s : ByteArray) (r buf : Nat) (w0 w : World) (hG : GP w0 r a b c) (hb : Below w0.heap.size w0 w) (hA : AW w0.heap.size buf [] w) (hwf : wfT s.data.toList = true) (hsz : s.size ≤ 1000) (R : Tx) (hR : replC a.data.toList b.data.toList c.data.toList s.data.toList = R) (hRl : R.length ≤ 1000000) :
  Calls Tryz.prog 316 #[nP r,aI buf,.string s] w fun e w' => (∃ v,e = .returned v) ∧ AW w0.heap.size buf R w' ∧ Below w0.heap.size w0 w' := by
 have hW := WJ.start a.data.toList b.data.toList c.data.toList s.data.toList hwf
 rw [hR] at hW
 have HW := Lib.hid hW
 have q0 := na_any buf
 have q00 := me_any buf
 have HG := Lib.hid hG
 have HB := Lib.hid hb
 have HA := Lib.hid hA
 have HR := Lib.hid hRl
 clear hW hG hb hA hwf hR hRl
 go_enter Tryz.func316,Tryz.ntmps316
 go_wp2_with (go_at_call 317; (with_reducible refine (gsw_any buf _).mono ?_); rintro e w1 ⟨rfl,hw⟩; obtain rfl := hw.symm)
 go_loopg [6,7,9,11,12] (s.size + 1) (fun gk u6 u7 u9 u11 u12 wx => ∃ (z : Int) (i last : Nat) (o : Tx),u6 = .int .i64 z ∧ u7 = .nilIface ∧ u9 = .int .i64 (last : Int) ∧ u11 = .bool false ∧ u12 = .int .i64 (i : Int) ∧ s.size + 1 - i ≤ gk ∧ WJ a.data.toList b.data.toList c.data.toList s.data.toList R i last o ∧ AW w0.heap.size buf o wx ∧ Below w0.heap.size w0 wx)
 case atStart => exact ⟨0,0,0,[],rfl,rfl,rfl,rfl,rfl,by omega,HW.out,HA.out,HB.out⟩
 case round =>
  obtain ⟨z,i,last,o,rfl,rfl,rfl,rfl,rfl,hgk,hW,hA,hB⟩ := hrel
  have hG := HG.out.below hB
  have HGR := Lib.hid hG
  have HWR := Lib.hid hW
  have HAR := Lib.hid hA
  have HBR := Lib.hid hB
  have HGK := Lib.hid hgk
  have hle := hW.le
  have hls : last ≤ s.size := hW.ls
  have hmost : i ≤ s.size + 1 := hW.most
  clear hgk hW hA hB
  obtain ⟨tr,g1,N,T,x,y,zz,g2,g3,g4,g5,g6,g7⟩ := hG
  have r1 : wr.cell? ⟨r,1,none⟩ = some (.int .i64 0) := (g1.cell 1).trans (gr_head _ 4 mapF 1 (by decide))
  have r4 : wr.cell? ⟨r,4,none⟩ = some (nT tr) := (g1.cell 4).trans (gr_head _ 4 mapF 4 (by decide))
  have r5 : wr.cell? ⟨r,5,none⟩ = some (.int .i64 4) := (g1.cell 5).trans (gr_head _ 4 mapF 5 (by decide))
  have t0 : wr.cell? ⟨tr,0,none⟩ = some (nP N) := g2.cell 0
  have t1 : wr.cell? ⟨tr,1,none⟩ = some (.pointer none) := g2.cell 1
  have t2 : wr.cell? ⟨tr,2,none⟩ = some (.pointer none) := g2.cell 2
  have t3 : wr.cell? ⟨tr,3,none⟩ = some (.pointer none) := g2.cell 3
  have p1 := pt_sn ⟨N,0,none⟩
  have p2 := pt_nn
  have HG1 := Lib.hid g1
  have hBs := Nat.le_trans (Nat.le_refl _) HBR.out.size
  rcases Nat.lt_or_ge i s.size with hlt | hge
  ·have b0 : (0 : Int) ≤ (i : Int) := by omega
   have b1 : (i : Int) ≤ (s.size : Int) := by omega
   have b2 : (i : Int) < (s.size : Int) := by omega
   have b3 : ((i : Int) != (s.size : Int)) = true := by rw [bne_iff_ne]; omega
   have hx : (s[i]'hlt).toNat < 256 := (s[i]'hlt).toNat_lt
   have m0 : wr.cell? ⟨r,6 + (s[i]'hlt).toNat,none⟩ = some (.int .u8 (mapF (s[i]'hlt).toNat)) := (g1.cell _).trans (gr_map _ 4 mapF _ hx)
   obtain ⟨i1,hi1⟩ : ∃ i1,i + 1 = i1 := ⟨_,rfl⟩
   have wk : IntKind.i64.wrap ((i : Int) + 1) = (i1 : Int) := by rw [show (i : Int) + 1 = (i1 : Int) by omega]; exact IntWalk.i64_in _ (by omega)
   have HI1 := Lib.hid hi1
   obtain ⟨be,hbe⟩ : ∃ be,(s[i]'hlt).toNat = be := ⟨_,rfl⟩
   have hskip : be ≠ 36 → WJ a.data.toList b.data.toList c.data.toList s.data.toList R i1 last o := fun h => by
    rw [← hi1]
    exact HWR.out.skip hlt (fun h2 => h (by rw [← hbe]; show (s.data.toList[i]).toNat = 36; rw [h2]; rfl))
   have HSK := Lib.hid hskip
   rw [hbe] at m0 hx
   have hbi : (be : Int) < 256 := by omega
   by_cases h36 : be = 36
   ·subst h36
    have m1 : wr.cell? ⟨r,42,none⟩ = some (.int .u8 0) := m0
    obtain ⟨k,h1,hk,e1,hW2,hbd⟩ := HWR.out.hole hlt (by
     have e : (s[i]'hlt) = 36 := UInt8.toNat_inj.1 hbe
     exact e)
    have h1' : i + 1 < s.size := h1
    have z0 : 0 < (s.extract i s.size).size := by rw [ByteArray.size_extract]; omega
    have z1 : 1 < (s.extract i s.size).size := by rw [ByteArray.size_extract]; omega
    have f0 : ((s.extract i s.size)[0]'z0).toNat = 36 := by
     rw [ByteArray.getElem_extract]; exact hbe
    have f1 : ((s.extract i s.size)[1]'z1).toNat = 49 + k := by
     rw [ByteArray.getElem_extract]; exact e1
    have hpt : (s.data.toList.drop last).take (i - last) = (s.extract last i).data.toList := (ext_list' s last i).symm
    rw [hpt,← hole_bt] at hW2
    rw [← hole_bt] at hbd
    have hpl : (s.extract last i).size = i - last := by rw [ByteArray.size_extract]; omega
    have hhl : (holeB a b c k).size = (holeB a b c k).data.toList.length := rfl
    have HBD : Hid (o.length + (s.extract last i).size + (holeB a b c k).size ≤ 1000000) := Lib.hid (by have := HR.out; omega)
    obtain ⟨val,hval⟩ : ∃ val,holeB a b c k = val := ⟨_,rfl⟩
    obtain ⟨i2,hi2⟩ : ∃ i2,i + 2 = i2 := ⟨_,rfl⟩
    have wk2 : IntKind.i64.wrap ((i : Int) + 2) = (i2 : Int) := by rw [show (i : Int) + 2 = (i2 : Int) by omega]; exact IntWalk.i64_in _ (by omega)
    have HLK := Lib.hid (fun W hGW => look_at W r a b c hGW (s.extract i s.size) k hk z0 z1 f0 f1)
    rw [hval] at hW2 HBD HLK
    rw [hi2] at hW2
    have HW2 := Lib.hid hW2
    have HI2 := Lib.hid hi2
    have l4 : (last : Int) ≤ (i : Int) := by omega
    have l5 : (0 : Int) ≤ (last : Int) := by omega
    clear m0 g1 g2 g3 g4 g5 g6 g7 hskip hi1 hx hle hls hmost hW2 hbd z0 z1 f0 f1 hpt hpl hhl hval hi2 h1 h1' e1 hk HSK
    go_wp2
    go_quiet (fail)
    go_wp2_with (go_at_call 318; (refine (HLK.out _ (HGR.out.below (belN _ _ _))).mono ?_); rintro e w2 ⟨rfl,nn,rfl⟩)
    have HA1 := Lib.hid (awrite_any w0.heap.size buf o (s.extract last i) (wr.drewN (nq + nn + 1)) (HAR.out.below (belN _ _ _)) (by have := HBD.out; omega) hBs)
    go_region_with (go_at_call 334; (refine HA1.out.mono ?_); rintro e w2 ⟨rfl,h2,hb2⟩; have H2 := Lib.hid h2; have HB2 := Lib.hid hb2; clear h2 hb2)
    all_goals
     have HBB := Lib.hid ((HBR.out.trans (belN _ _ (nq + nn + 1))).trans HB2.out)
     have HA2 := Lib.hid (fun W (e : W = w2) => awrite_any w0.heap.size buf (o ++ (s.extract last i).data.toList) val W (e ▸ H2.out) (by have := HBD.out; have e2 : (s.extract last i).size = (s.extract last i).data.toList.length := rfl; rw [List.length_append]; omega) (by rw [e]; exact Nat.le_trans (Nat.le_refl _) HBB.out.size))
     go_wp2_with (go_at_call 334; (refine (HA2.out _ rfl).mono ?_); rintro e w3 ⟨rfl,h3,hb3⟩; have H3 := Lib.hid h3; have HB3 := Lib.hid hb3; clear h3 hb3)
     go_roundg (gk - 1)
     case measure => have := HGK.out; omega
     case rel => exact ⟨_,i2,i2,_,rfl,rfl,rfl,rfl,rfl,by have := HGK.out; have := HI2.out; omega,HW2.out,H3.out,HBB.out.trans HB3.out⟩
   ·have HN36 := Lib.hid h36
    by_cases h49 : be = 49
    ·subst h49
     have m1 : wr.cell? ⟨r,55,none⟩ = some (.int .u8 1) := m0
     clear m0 g1 g2 g3 g4 g5 g6 g7 hskip hi1 hx hle hls hmost h36
     go_wp2
     go_quiet (fail)
     go_wp2
     go_roundg (gk - 1)
     case measure => have := HGK.out; omega
     case rel => exact ⟨z,i1,last,o,rfl,rfl,rfl,rfl,rfl,by have := HGK.out; have := HI1.out; omega,HSK.out HN36.out,HAR.out.below (belN _ _ _),HBR.out.trans (belN _ _ _)⟩
    ·by_cases h50 : be = 50
     ·subst h50
      have m1 : wr.cell? ⟨r,56,none⟩ = some (.int .u8 2) := m0
      clear m0 g1 g2 g3 g4 g5 g6 g7 hskip hi1 hx hle hls hmost h36
      go_wp2
      go_quiet (fail)
      go_wp2
      go_roundg (gk - 1)
      case measure => have := HGK.out; omega
      case rel => exact ⟨z,i1,last,o,rfl,rfl,rfl,rfl,rfl,by have := HGK.out; have := HI1.out; omega,HSK.out HN36.out,HAR.out.below (belN _ _ _),HBR.out.trans (belN _ _ _)⟩
     ·by_cases h51 : be = 51
      ·subst h51
       have m1 : wr.cell? ⟨r,57,none⟩ = some (.int .u8 3) := m0
       clear m0 g1 g2 g3 g4 g5 g6 g7 hskip hi1 hx hle hls hmost h36
       go_wp2
       go_quiet (fail)
       go_wp2
       go_roundg (gk - 1)
       case measure => have := HGK.out; omega
       case rel => exact ⟨z,i1,last,o,rfl,rfl,rfl,rfl,rfl,by have := HGK.out; have := HI1.out; omega,HSK.out HN36.out,HAR.out.below (belN _ _ _),HBR.out.trans (belN _ _ _)⟩
      ·skip
       have m1 : wr.cell? ⟨r,6 + be,none⟩ = some (.int .u8 4) := by rw [m0]; unfold mapF; rw [if_neg h36,if_neg h49,if_neg h50,if_neg h51]
       have HN36 := HN36
       clear m0 h49 h50 h51 g1 g2 g3 g4 g5 g6 g7 hskip hi1 hx hle hls hmost h36
       go_wp2
       go_quiet (fail)
       go_wp2
       go_roundg (gk - 1)
       case measure => have := HGK.out; omega
       case rel => exact ⟨z,i1,last,o,rfl,rfl,rfl,rfl,rfl,by have := HGK.out; have := HI1.out; omega,HSK.out HN36.out,HAR.out.below (belN _ _ _),HBR.out.trans (belN _ _ _)⟩
  ·rcases Nat.eq_or_lt_of_le hge with heq | hgt
   ·have b1 : (i : Int) ≤ (s.size : Int) := by omega
    have b0 : (0 : Int) ≤ (i : Int) := by omega
    have b3 : ((i : Int) != (s.size : Int)) = false := by rw [bne_eq_false_iff_eq]; omega
    have he : s.extract i s.size = ⟨#[]⟩ := by apply ByteArray.ext; rw [ByteArray.data_extract]; apply Array.eq_empty_of_size_eq_zero; simp; omega
    obtain ⟨i1,hi1⟩ : ∃ i1,i + 1 = i1 := ⟨_,rfl⟩
    have wk : IntKind.i64.wrap ((i : Int) + 1) = (i1 : Int) := by rw [show (i : Int) + 1 = (i1 : Int) by omega]; exact IntWalk.i64_in _ (by omega)
    have hW2 : WJ a.data.toList b.data.toList c.data.toList s.data.toList R i1 last o := by
     have := HWR.out
     rw [show i = s.data.toList.length from heq.symm] at this
     rw [show i1 = s.data.toList.length + 1 by rw [← hi1,← heq]; rfl]
     exact this.last
    have HW2 := Lib.hid hW2
    have HI1 := Lib.hid hi1
    clear g1 g2 g3 g4 g5 g6 g7 hi1 hle hls hmost hge heq hW2
    go_wp2_with (go_at_call 318; (refine (look_none r tr false _ HG1.out).mono ?_); rintro e w2 ⟨rfl,nn,rfl⟩)
    go_roundg (gk - 1)
    case measure => have := HGK.out; omega
    case rel => exact ⟨z,i1,last,o,rfl,rfl,rfl,rfl,rfl,by have := HGK.out; have := HI1.out; omega,HW2.out,HAR.out.below (belN _ _ _),HBR.out.trans (belN _ _ _)⟩
   ·have l1 : ¬ ((i : Int) ≤ (s.size : Int)) := by omega
    have hfin := HWR.out.fin (by show i = s.size + 1; omega)
    have HF := Lib.hid hfin
    by_cases hll : last = s.size
    ·have l2 : decide ((last : Int) = (s.size : Int)) = true := by rw [decide_eq_true_iff]; omega
     have l3 : ((last : Int) != (s.size : Int)) = false := by rw [bne_eq_false_iff_eq]; omega
     have hoR : o = R := by rw [← HF.out,hll,show s.data.toList.drop s.size = [] from List.drop_length,List.append_nil]
     have HO := Lib.hid hoR
     clear g1 g2 g3 g4 g5 g6 g7 hle hls hmost hge hgt hll hfin hoR
     go_wp2
     go_ret2
     exact ⟨⟨_,rfl⟩,HO.out ▸ HAR.out,HBR.out⟩
    ·have l2 : ((last : Int) != (s.size : Int)) = true := by rw [bne_iff_ne]; omega
     have l4 : (last : Int) ≤ (s.size : Int) := by omega
     have l5 : (0 : Int) ≤ (last : Int) := by omega
     have hoR : o ++ (s.extract last s.size).data.toList = R := by
      rw [← HF.out,ext_list']
      congr 1
      apply List.take_of_length_le
      rw [List.length_drop]; exact Nat.le_refl _
     have hoL : o.length + (s.extract last s.size).size ≤ 1000000 := by
      have h1 : (s.extract last s.size).size = (s.extract last s.size).data.toList.length := rfl
      have h2 := HR.out
      rw [← hoR,List.length_append] at h2
      rw [h1]; exact h2
     have HO := Lib.hid hoR
     have HA1 := Lib.hid (awrite_any w0.heap.size buf o (s.extract last s.size) wr.drew (HAR.out.below ((Below.refl _ _).drew)) (by omega) hBs)
     clear g1 g2 g3 g4 g5 g6 g7 hle hls hmost hge hgt hll hfin hoR hoL
     go_wp2
     go_region_with (go_at_call 334; (refine HA1.out.mono ?_); rintro e w2 ⟨rfl,h2,hb2⟩; have H2 := Lib.hid h2; have HB2 := Lib.hid hb2; clear h2 hb2)
     all_goals
      go_wp2
      go_ret2
      exact ⟨⟨_,rfl⟩,HO.out ▸ H2.out,(HBR.out.drew).trans HB2.out⟩

def FewR (s : List Tb) : Prop := s.length ≤ 1000000 ∧ ∀ t ∈ s,t.2.length ≤ 1000000
theorem tl_eq (a b : ByteArray) : (a.toList == b.toList) = decide (a = b) := by
 rw [Bool.eq_iff_iff,beq_iff_eq,decide_eq_true_iff,Lib.toList_data,Lib.toList_data]
 exact ⟨fun h => by apply ByteArray.ext; exact Array.ext' h,fun h => by rw [h]⟩
set_option maxHeartbeats 1000000 in
theorem same1_any (n1 n2 : ByteArray) (v1 v2 : Value) (l m : List Rw) (w : World) (h1 : RR w v1 l) (h2 : RR w v2 m) (hl : l.length ≤ 1000000) :
  Calls Tryz.prog 83 #[.agg #[.string n1,v1],.agg #[.string n2,v2]] w fun e w' => e = .returned (.bool (decide (n1 = n2) && decide (l = m))) ∧ Below w.heap.size w w' := by
 obtain ⟨a1,cap1,rfl⟩ := h1.form
 obtain ⟨a2,cap2,rfl⟩ := h2.form
 have hb := ((Below.refl w.heap.size w).alloc (Nat.le_refl _) (.cells #[.string n1,.slice a1 l.length cap1] 37)).alloc (by simp) (.cells #[.string n2,.slice a2 m.length cap2] 37)
 have HB := Lib.hid hb
 have HE := Lib.hid (eqrows_any _ _ l m _ (h1.below hb) (h2.below hb) hl)
 have ht := tl_eq n1 n2
 obtain ⟨R,hR⟩ : ∃ R,decide (l = m) = R := ⟨_,rfl⟩
 rw [hR] at HE ⊢
 clear h1 h2 hb hR
 by_cases hn : n1 = n2
 ·have e1 : (n1.toList == n2.toList) = true := by rw [ht]; exact decide_eq_true hn
  rw [decide_eq_true hn,Bool.true_and]
  clear ht hn
  go_enter Tryz.func83,Tryz.ntmps83
  go_wp2_with (go_at_call 84; (refine HE.out.mono ?_); rintro e w2 ⟨rfl,n,rfl⟩)
  go_ret
  exact ⟨rfl,HB.out.trans (belN _ _ _)⟩
 ·have e1 : (n1.toList == n2.toList) = false := by rw [ht]; exact decide_eq_false hn
  rw [decide_eq_false hn,Bool.false_and]
  clear ht hn
  go_enter Tryz.func83,Tryz.ntmps83
  go_wp2
  go_ret
  exact ⟨rfl,HB.out⟩
set_option maxHeartbeats 4000000 in
theorem eqf_any (v1 v2 : Value) (s t : List Tb) (w : World) (h1 : SR w v1 s) (h2 : SR w v2 t) (hs : FewR s) :
  Calls Tryz.prog 82 #[v1,v2,.func (.func 83) #[] #[]] w fun e w' => e = .returned (.bool (decide (s = t))) ∧ Below w.heap.size w w' := by
 obtain ⟨R,hR⟩ : ∃ R,decide (s = t) = R := ⟨_,rfl⟩
 rw [hR]
 obtain ⟨a1,cap1,rfl⟩ := h1.form
 obtain ⟨a2,cap2,rfl⟩ := h2.form
 have H1 := Lib.hid h1
 have H2 := Lib.hid h2
 have HS := Lib.hid hs
 have henter : ∀ args w,(callFunc 83 args).run Tryz.prog w = .ok (.enter 83 args) w := fun args w => by show Sem.run Tryz.prog (callFunc 83 args) w = _; go_simp
 by_cases hlen : s.length = t.length
 ·have ne : ((s.length : Int) != (t.length : Int)) = false := by rw [bne_eq_false_iff_eq]; omega
  have HR := Lib.hid hR
  have HL := Lib.hid hlen
  clear h1 h2 hs hR hlen
  go_enter Tryz.func82,Tryz.ntmps82
  go_wp2
  go_loopg [17] s.length (fun gk u17 wx => ∃ i : Nat,u17 = .int .i64 (i : Int) ∧ i + gk = s.length ∧ Below w.heap.size w wx ∧ decide (s.drop i = t.drop i) = R)
  case atStart => exact ⟨0,rfl,by omega,Below.refl _ _,HR.out⟩
  case round =>
   obtain ⟨i,rfl,hi,hB,hr⟩ := hrel
   have HI := Lib.hid hi
   have HB := Lib.hid hB
   cases gk with
   | zero =>
    have l1 : ¬ ((i : Int) < (s.length : Int)) := by omega
    have hR : R = true := by
     rw [← hr,List.drop_of_length_le (by omega : s.length ≤ i),List.drop_of_length_le (by have := HL.out; omega : t.length ≤ i)]; rfl
    subst hR
    clear hi hr hB
    go_wp2
    go_ret
    exact ⟨rfl,HB.out⟩
   | succ gk =>
    have hlt : i < s.length := by omega
    have hlt2 : i < t.length := by have := HL.out; omega
    obtain ⟨b1,o1,cp1,he1,hcp1,hx1⟩ := (H1.out.below hB).inv (by omega)
    obtain ⟨b2,o2,cp2,he2,hcp2,hx2⟩ := (H2.out.below hB).inv (by omega)
    injection he1 with ea1 _ ec1
    injection he2 with ea2 _ ec2
    subst ea1 ec1 ea2 ec2
    obtain ⟨p,hp⟩ : ∃ p,s[i] = p := ⟨_,rfl⟩
    obtain ⟨q,hq⟩ : ∃ q,t[i] = q := ⟨_,rfl⟩
    obtain ⟨x0,u,x1,hu⟩ := hx1 i p (by rw [List.getElem?_eq_getElem hlt,hp])
    obtain ⟨y0,u2,y1,hu2⟩ := hx2 i q (by rw [List.getElem?_eq_getElem hlt2,hq])
    have hpl : p.2.length ≤ 1000000 := by rw [← hp]; exact HS.out.2 _ (List.getElem_mem hlt)
    rw [drop_dec hlt hlt2,hp,hq] at hr
    have hbl2 : b2 < wr.heap.size := World.block_lt_of_cell? wr _ y0
    have hal : ∀ (o : Obj) (j : Nat),(wr.alloc o).cell? ⟨b2,j,none⟩ = wr.cell? ⟨b2,j,none⟩ := fun o j => World.cell?_of_block (a := ⟨b2,j,none⟩) (Below.heap_alloc wr o b2 hbl2)
    have z0 := fun o => (hal o (o2 + i * 2)).trans y0
    have z1 := fun o => (hal o (o2 + i * 2 + 1)).trans y1
    obtain ⟨p0,p1⟩ := p
    obtain ⟨q0,q1⟩ := q
    obtain ⟨ua,ucap,rfl⟩ := hu.form
    obtain ⟨ua2,ucap2,rfl⟩ := hu2.form
    have hb4 := ((Below.refl wr.heap.size wr).alloc (Nat.le_refl _) (.cells #[.string p0,.slice ua p1.length ucap] 37)).alloc (by simp) (.cells #[.string q0,.slice ua2 q1.length ucap2] 37)
    have HB4 := Lib.hid hb4
    have HC := Lib.hid (same1_any p0 q0 _ _ p1 q1 _ (hu.below hb4) (hu2.below hb4) hpl)
    have hpq : decide (((p0,p1) : Tb) = (q0,q1)) = (decide (p0 = q0) && decide (p1 = q1)) := by
     rw [Bool.eq_iff_iff,decide_eq_true_iff,Bool.and_eq_true,decide_eq_true_iff,decide_eq_true_iff,Prod.mk.injEq]
    rw [hpq] at hr
    obtain ⟨Q,hQ⟩ : ∃ Q,(decide (p0 = q0) && decide (p1 = q1)) = Q := ⟨_,rfl⟩
    rw [hQ] at HC hr
    have l0 : (0 : Int) ≤ (i : Int) := by omega
    have l1 : (i : Int) < (s.length : Int) := by omega
    have l2 : (i : Int) < (t.length : Int) := by omega
    obtain ⟨i1,hi1⟩ : ∃ i1,i + 1 = i1 := ⟨_,rfl⟩
    have wk : IntKind.i64.wrap ((i : Int) + 1) = (i1 : Int) := by rw [show (i : Int) + 1 = (i1 : Int) by omega]; exact IntWalk.i64_in _ (by have := HS.out.1; omega)
    have HI1 := Lib.hid hi1
    rw [hi1] at hr
    have HR2 := Lib.hid hr
    clear hi hr hB hx1 hx2 hp hq hi1 hlt hlt2 hu hu2 hpl hb4 hpq hQ hal y0 y1
    cases Q with
    | true =>
     go_wp2_with (go_at_call 83; (refine HC.out.mono ?_); rintro e w5 ⟨rfl,hb5⟩; have HB5 := Lib.hid hb5; clear hb5)
     go_roundg gk
     case measure => exact Nat.lt_succ_self _
     case rel => exact ⟨i1,rfl,by have := HI1.out; have := HI.out; omega,HB.out.trans ((HB4.out.trans (HB5.out.mono HB4.out.size)).mono HB.out.size),by have := HR2.out; rw [Bool.true_and] at this; exact this⟩
    | false =>
     have hRf : R = false := by have := HR2.out; rw [Bool.false_and] at this; exact this.symm
     subst hRf
     go_wp2_with (go_at_call 83; (refine HC.out.mono ?_); rintro e w5 ⟨rfl,hb5⟩; have HB5 := Lib.hid hb5; clear hb5)
     go_ret
     exact ⟨rfl,HB.out.trans ((HB4.out.trans (HB5.out.mono HB4.out.size)).mono HB.out.size)⟩
 ·have ne : ((s.length : Int) != (t.length : Int)) = true := by rw [bne_iff_ne]; omega
  have hR2 : R = false := by rw [← hR]; exact decide_eq_false (fun h => hlen (by rw [h]))
  subst hR2
  clear h1 h2 hs hR hlen
  go_enter Tryz.func82,Tryz.ntmps82
  go_wp2
  go_ret
  exact ⟨rfl,Below.refl _ _⟩
theorem same_any (v1 v2 : Value) (s t : List Tb) (w : World) (h1 : SR w v1 s) (h2 : SR w v2 t) (hs : FewR s) :
  Calls Tryz.prog 40 #[v1,v2] w fun e w' => e = .returned (.bool (decide (s = t))) ∧ Below w.heap.size w w' := by
 have HE := Lib.hid (eqf_any v1 v2 s t w h1 h2 hs)
 clear h1 h2 hs
 go_enter Tryz.func40,Tryz.ntmps40
 go_wp2_with (go_at_call 82; (refine HE.out.mono ?_); rintro e w2 ⟨rfl,hb2⟩; have HB2 := Lib.hid hb2; clear hb2)
 go_ret
 exact ⟨rfl,HB2.out⟩

theorem quiet_plus {P : Program} {f : FuncId} {args : Array Value} {w : World} {n x : Nat} {v : Value}
  (h : Calls P f args (w.drewN (n + x)) fun e w' => e = .returned v ∧ ∃ m,w' = (w.drewN (n + x)).drewN m) : Calls P f args (w.drewN (n + x)) fun e w'' => e = .returned v ∧ ∃ m,w'' = w.drewN (n + m) :=
 h.mono fun _ _ ⟨he,m,hm⟩ => ⟨he,x + m,by rw [hm,World.drewN_drewN,Nat.add_assoc]⟩
set_option maxHeartbeats 4000000 in
theorem rsame_any (v1 v2 : Value) (s t : List Tb) (w : World) (h1 : SR w v1 s) (h2 : SR w v2 t) (hs : FewR s) :
  Calls Tryz.prog 19 #[v1,v2] w fun e w' => e = .returned (.bool (decide (s = t))) ∧ ∃ n,w' = w.drewN n := by
 obtain ⟨R,hR⟩ : ∃ R,decide (s = t) = R := ⟨_,rfl⟩
 rw [hR]
 obtain ⟨a1,cap1,rfl⟩ := h1.form
 obtain ⟨a2,cap2,rfl⟩ := h2.form
 have H1 := Lib.hid h1
 have H2 := Lib.hid h2
 have HS := Lib.hid hs
 by_cases hlen : s.length = t.length
 ·have ne : ((s.length : Int) != (t.length : Int)) = false := by rw [bne_eq_false_iff_eq]; omega
  have HR := Lib.hid hR
  have HL := Lib.hid hlen
  clear h1 h2 hs hR hlen
  go_enter Tryz.func19,Tryz.ntmps19
  go_wp2
  go_loopg [5] s.length (fun gk u5 wx => ∃ i : Nat,u5 = .int .i64 (i : Int) ∧ i + gk = s.length ∧ (∃ n,wx = w.drewN n) ∧ decide (s.drop i = t.drop i) = R)
  case atStart => exact ⟨0,rfl,by omega,⟨0,rfl⟩,HR.out⟩
  case round =>
   obtain ⟨i,rfl,hi,⟨n0,rfl⟩,hr⟩ := hrel
   have HI := Lib.hid hi
   cases gk with
   | zero =>
    have l1 : ¬ ((i : Int) < (s.length : Int)) := by omega
    have hR : R = true := by
     rw [← hr,List.drop_of_length_le (by omega : s.length ≤ i),List.drop_of_length_le (by have := HL.out; omega : t.length ≤ i)]; rfl
    subst hR
    clear hi hr
    go_wp2
    go_ret
    exact ⟨rfl,_,rfl⟩
   | succ gk =>
    have hlt : i < s.length := by omega
    have hlt2 : i < t.length := by have := HL.out; omega
    obtain ⟨b1,o1,cp1,he1,hcp1,hx1⟩ := H1.out.inv (by omega)
    obtain ⟨b2,o2,cp2,he2,hcp2,hx2⟩ := H2.out.inv (by omega)
    injection he1 with ea1 _ ec1
    injection he2 with ea2 _ ec2
    subst ea1 ec1 ea2 ec2
    obtain ⟨p,hp⟩ : ∃ p,s[i] = p := ⟨_,rfl⟩
    obtain ⟨q,hq⟩ : ∃ q,t[i] = q := ⟨_,rfl⟩
    obtain ⟨x0,u,x1,hu⟩ := hx1 i p (by rw [List.getElem?_eq_getElem hlt,hp])
    obtain ⟨y0,u2,y1,hu2⟩ := hx2 i q (by rw [List.getElem?_eq_getElem hlt2,hq])
    have hpl : p.2.length ≤ 1000000 := by rw [← hp]; exact HS.out.2 _ (List.getElem_mem hlt)
    rw [drop_dec hlt hlt2,hp,hq] at hr
    obtain ⟨p0,p1⟩ := p
    obtain ⟨q0,q1⟩ := q
    obtain ⟨ua,ucap,rfl⟩ := hu.form
    obtain ⟨ua2,ucap2,rfl⟩ := hu2.form
    have HC := Lib.hid (fun n => rrows_any _ _ p1 q1 (w.drewN n) (hu.drewN n) (hu2.drewN n) hpl)
    have ht := tl_eq p0 q0
    have l0 : (0 : Int) ≤ (i : Int) := by omega
    have l1 : (i : Int) < (s.length : Int) := by omega
    have l2 : (i : Int) < (t.length : Int) := by omega
    obtain ⟨i1,hi1⟩ : ∃ i1,i + 1 = i1 := ⟨_,rfl⟩
    have wk : IntKind.i64.wrap ((i : Int) + 1) = (i1 : Int) := by rw [show (i : Int) + 1 = (i1 : Int) by omega]; exact IntWalk.i64_in _ (by have := HS.out.1; omega)
    have HI1 := Lib.hid hi1
    rw [hi1] at hr
    have hpq : decide (((p0,p1) : Tb) = (q0,q1)) = (decide (p0 = q0) && decide (p1 = q1)) := by
     rw [Bool.eq_iff_iff,decide_eq_true_iff,Bool.and_eq_true,decide_eq_true_iff,decide_eq_true_iff,Prod.mk.injEq]
    rw [hpq] at hr
    obtain ⟨Q,hQ⟩ : ∃ Q,decide (p1 = q1) = Q := ⟨_,rfl⟩
    rw [hQ] at HC hr
    by_cases hn : p0 = q0
    ·have e1 : (p0.toList == q0.toList) = true := by rw [ht]; exact decide_eq_true hn
     have e2 : (!(p0.toList == q0.toList)) = false := by rw [e1]; rfl
     rw [decide_eq_true hn,Bool.true_and] at hr
     have HR2 := Lib.hid hr
     clear hi hr hx1 hx2 hp hq hi1 hlt hlt2 hu hu2 hpl hpq hQ ht hn
     cases Q with
     | true =>
      go_wp2
      go_quiet (first | (go_at_call 20; exact Calls.quiet_of (HC.out _)) | (go_at_call 20; exact quiet_plus (HC.out _)))
      go_wp2
      go_roundg gk
      case measure => exact Nat.lt_succ_self _
      case rel => exact ⟨i1,rfl,by have := HI1.out; have := HI.out; omega,⟨_,rfl⟩,by have := HR2.out; rw [Bool.true_and] at this; exact this⟩
     | false =>
      have hRf : R = false := by have := HR2.out; rw [Bool.false_and] at this; exact this.symm
      subst hRf
      go_wp2
      go_quiet (first | (go_at_call 20; exact Calls.quiet_of (HC.out _)) | (go_at_call 20; exact quiet_plus (HC.out _)))
      go_wp2
      go_ret
      exact ⟨rfl,_,World.drewN_drewN _ _ _⟩
    ·have e1 : (p0.toList == q0.toList) = false := by rw [ht]; exact decide_eq_false hn
     have e2 : (!(p0.toList == q0.toList)) = true := by rw [e1]; rfl
     have hRf : R = false := by rw [← hr,decide_eq_false hn,Bool.false_and,Bool.false_and]
     subst hRf
     clear hi hr hx1 hx2 hp hq hi1 hlt hlt2 hu hu2 hpl hpq hQ ht hn
     go_wp2
     go_quiet (fail)
     go_wp2
     go_ret
     exact ⟨rfl,_,World.drewN_drewN _ _ _⟩
 ·have ne : ((s.length : Int) != (t.length : Int)) = true := by rw [bne_iff_ne]; omega
  have hR2 : R = false := by rw [← hR]; exact decide_eq_false (fun h => hlen (by rw [h]))
  subst hR2
  clear h1 h2 hs hR hlen
  go_enter Tryz.func19,Tryz.ntmps19
  go_wp2
  go_ret
  exact ⟨rfl,0,rfl⟩
end Go.Proofs.YtgdabkpahmlkpaaGreatDoor
