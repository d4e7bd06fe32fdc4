/- Seu Sev Sew -/
import Derived.Test.YtgdabkpahmlkpaaGreatDoorG15
set_option linter.unusedSimpArgs false
set_option linter.unusedVariables false
namespace Go.Proofs.YtgdabkpahmlkpaaGreatDoor
open Go.ChangeShapes Go.WideShapes Go.ChangeAt Go.RowKit
set_option maxRecDepth 100000
set_option linter.unusedVariables false
set_option linter.unusedSimpArgs false

def PutP (w : World) (R : List Tx) (e : Ending) (w' : World) : Prop := ∃ v,e = .returned v ∧ PRT w' v R ∧ Below w.heap.size w w'
set_option maxHeartbeats 8000000 in
theorem rsput_any (vl vm : Value) (L M : List Tx) (w : World) (hL : PRT w vl L) (hM : SRT w vm M) (hlen : L.length + M.length ≤ 2000000000) (hz : ∀ x ∈ L ++ M,x.length ≤ 2000000001) :
  Calls Tryz.prog 122 #[vl,vm] w (PutP w (M.foldl insL L)) := by
 obtain ⟨am,cm,rfl,hxm⟩ := hM.at_
 obtain ⟨R,hR⟩ : ∃ R,M.foldl insL L = R := ⟨_,rfl⟩
 rw [hR]
 obtain ⟨i0,hi0,hz0,hz1,hz2⟩ := info_parts info9
 have HL := Lib.hid hL
 have HM := Lib.hid hM
 have HXM := Lib.hid hxm
 have HLEN := Lib.hid hlen
 have HZ := Lib.hid hz
 have HR := Lib.hid hR
 clear hL hM hxm hlen hz hR
 go_enter Tryz.func122,Tryz.ntmps122
 go_wp2
 go_loopg [0,5] M.length (fun g u0 u5 wx => ∃ (k : Nat) (K : List Tx),u5 = .int .i64 (k : Int) ∧ k + g = M.length ∧ PRT wx u0 K ∧ Below w.heap.size w wx ∧ K.length ≤ L.length + k ∧ (∀ x ∈ K,x.length ≤ 2000000001) ∧ R = (M.drop k).foldl insL K)
 case atStart => exact ⟨0,L,rfl,by omega,HL.out,Below.refl _ _,by omega,fun x hx => HZ.out x (List.mem_append_left _ hx),HR.out.symm⟩
 case round =>
  obtain ⟨k,K,rfl,hk,hP,hB,hKl,hKz,hv⟩ := hrel
  have HP := Lib.hid hP
  have HB := Lib.hid hB
  have HKL := Lib.hid hKl
  have HKZ := Lib.hid hKz
  have HV := Lib.hid hv
  clear hP hB hKl hKz hv HL HR
  cases gk with
  | zero =>
   have hkl : k = M.length := by omega
   have hv2 : R = K := by rw [HV.out,hkl,List.drop_length]; rfl
   have l1 : ¬ ((k : Int) < (M.length : Int)) := by omega
   clear HV
   go_wp2
   go_ret
   exact ⟨_,rfl,HP.out,HB.out⟩
  | succ g =>
   have hlt : k < M.length := by omega
   rcases HXM.out with h0 | ⟨bm,om,rfl,hcm,hxm⟩
   ·omega
   have c1 := hxm k hlt
   have hbm : bm < w.heap.size := World.block_lt_of_cell? w _ c1
   rw [← HB.out.cell (p := ⟨bm,om + k,none⟩) hbm] at c1
   obtain ⟨x,hxe⟩ : ∃ x,M[k] = x := ⟨_,rfl⟩
   obtain ⟨s,hs1,hs2,hs3⟩ := bytes_ex x
   have hxz : x.length ≤ 2000000001 := HZ.out x (List.mem_append_right _ (by rw [← hxe]; exact List.getElem_mem hlt))
   rw [hxe,hs1] at c1
   have hd : M.drop k = x :: M.drop (k + 1) := by rw [List.drop_eq_getElem_cons hlt,hxe]
   have l0 : (0 : Int) ≤ (k : Int) := by omega
   have l1 : (k : Int) < (M.length : Int) := by omega
   obtain ⟨k1,hk1⟩ : ∃ k1,k + 1 = k1 := ⟨_,rfl⟩
   have wk : IntKind.i64.wrap ((k : Int) + 1) = (k1 : Int) := by have := HLEN.out; rw [show (k : Int) + 1 = (k1 : Int) by omega]; exact wrap_nat (by omega)
   have hv2 : R = (M.drop k1).foldl insL (insL K x) := by rw [HV.out,hd,hk1]; rfl
   have hin := rin_any u0 K s wr HP.out.sr (by have := HKL.out; have := HLEN.out; omega)
   rw [hs2] at hin
   obtain ⟨c,hc⟩ : ∃ c,K.contains x = c := ⟨_,rfl⟩
   rw [hc] at hin
   have HIN := Lib.hid hin
   have HV2 := Lib.hid hv2
   have HK1 := Lib.hid hk1
   have HS2 := Lib.hid hs2
   have HXZ := Lib.hid hxz
   have HS3 := Lib.hid hs3
   have HC := Lib.hid hc
   have HSX := Lib.hid hs1
   clear hin hv2 hk1 hs2 hxz hs3 hc hd hxe hs1 HV hxm hlt
   cases c
   ·have hins : insL K x = K.takeWhile (fun y => decide (y < x)) ++ [x] ++ K.dropWhile (fun y => decide (y < x)) := by unfold insL; rw [HC.out]; rfl
    have HINS := Lib.hid hins
    clear hins
    have HN0 := Lib.hid (NJ.mk (Below.refl wr.heap.size wr) (World.ownsRow_nil wr wr.heap.size 9 1) : NJ wr wr.heap.size [] (.slice none 0 0) wr)
    go_wp2_with (go_at_call 150; (with_reducible refine HIN.out.mono ?_); rintro e w2 ⟨rfl,rfl⟩)
    go_loopg [7,8] K.length (fun g2 u7 u8 wx => ∃ i : Nat,u8 = .int .i64 (i : Int) ∧ i + g2 = K.length ∧ NJ w2 w2.heap.size (K.take i) u7 wx ∧ ∀ y ∈ K.take i,decide (y < x) = true)
    case atStart => exact ⟨0,rfl,by omega,HN0.out,fun y hy => by simp at hy⟩
    case round =>
     obtain ⟨i,rfl,hi,hN,hy⟩ := hrel
     have hti : (K.take i).length = i := by rw [List.length_take]; omega
     obtain ⟨a7,c7,hu7⟩ := hN.form
     rw [hti] at hu7
     subst hu7
     have HY := Lib.hid hy
     have hP2 := (HP.out.below hN.bel).at_
     have hlK : K.length ≤ 2000000000 := by have := HKL.out; have := HLEN.out; omega
     have how : ∀ W,Below wr.heap.size wr W → W.ownsRow w2.heap.size 9 1 (.slice a7 i c7) i ((K.take i).map sV) := fun W hW => by
      have := ownsRow_below hN.own hW
      rwa [hti] at this
     have HOW := Lib.hid how
     have HTI := Lib.hid hti
     have HN := Lib.hid hN
     have HPT := Lib.hid (HP.out.below hN.bel)
     clear hN hy HN0 HIN how hti
     obtain ⟨i1,hi1⟩ : ∃ i1,i + 1 = i1 := ⟨_,rfl⟩
     have wi : IntKind.i64.wrap ((i : Int) + 1) = (i1 : Int) := by rw [show (i : Int) + 1 = (i1 : Int) by omega]; exact wrap_nat (by omega)
     have li0 : (0 : Int) ≤ (i : Int) := by omega
     have HI1 := Lib.hid hi1
     clear hi1
     by_cases hiK : i < K.length
     ·rcases hP2 with ⟨rfl,rfl⟩ | ⟨ga,off,ck,rfl,hck,hcx⟩
      ·exact absurd hiK (by simp)
      have c2 := hcx i hiK
      obtain ⟨y,hye⟩ : ∃ y,K[i] = y := ⟨_,rfl⟩
      obtain ⟨t,ht1,ht2,ht3⟩ := bytes_ex y
      have hyz : y.length ≤ 2000000001 := HKZ.out y (by rw [← hye]; exact List.getElem_mem hiK)
      rw [hye,ht1] at c2
      have hls : ∀ W,Calls Tryz.prog 43 #[.string t,.string s] W fun e w' => e = .returned (.bool (decide (y < x))) ∧ Below W.heap.size W w' := fun W => by
       have := rless_any t s W (by omega) (by have := HS3.out; have := HXZ.out; omega)
       rw [ht2,HS2.out] at this
       exact this.mono fun e w' ⟨h1,n,h2⟩ => ⟨h1,by rw [h2]; exact ⟨rfl,rfl,rfl,Nat.le_refl _,fun _ _ => rfl⟩⟩
      have hgw : ga < wr.heap.size := World.block_lt_of_cell? _ _ c2
      have c3 : ∀ W,Below wr.heap.size wr W → W.cell? ⟨ga,off + i,none⟩ = some (.string t) := fun W hW => (hW.cell (p := ⟨ga,off + i,none⟩) hgw).trans c2
      have li1 : (i : Int) < (K.length : Int) := by omega
      obtain ⟨b,hb⟩ : ∃ b,decide (y < x) = b := ⟨_,rfl⟩
      simp only [hb] at hls
      have HLS := Lib.hid hls
      have HB3 := Lib.hid hb
      have HC3 := Lib.hid c3
      have HCX := Lib.hid hcx
      have HYE := Lib.hid (show K.take (i + 1) = K.take i ++ [y] by rw [List.take_succ_eq_append_getElem hiK,hye])
      have HYG := Lib.hid (show K[i]? = some y by rw [List.getElem?_eq_getElem hiK,hye])
      have HT2 := Lib.hid ht2
      clear hls hb c3 hcx hye ht1 ht2 ht3 hyz
      cases b
      ·have hspl := split_at (p := fun z => decide (z < x)) K i HY.out (fun z hz => by rw [HYG.out] at hz; cases hz; exact HB3.out)
       have HSPL := Lib.hid hspl
       clear hspl
       have hmi : (0 : Nat) < K.length - i := by omega
       have hne1 : ¬ ck = i := by omega
       have hne2 : ¬ i = ck := by omega
       have li2 : (i : Int) ≤ (K.length : Int) := by omega
       have li3 : (i : Int) ≤ (ck : Int) := by omega
       have li4 : (K.length : Int) ≤ (ck : Int) := by omega
       have hcw := (HP.out).cells
       have HCW := Lib.hid hcw
       clear hcw
       go_wp2_with (first
        | (go_at_call 43; (with_reducible refine (HLS.out _).mono ?_); rintro e w5 ⟨rfl,hb5⟩; have HB5 := Lib.hid hb5; have c5 := HC3.out _ hb5; clear hb5)
        | (at_builtin; refine wpList_append_lies _ rfl _ _ 60 rfl w2.heap.size 9 i0 (.string ByteArray.empty) 1 16 und26 hi0 hz0 hz1 hz2 rfl (by decide) _ i ((K.take i).map sV) rfl ((HOW.out _ HB5.out).alloc _) ⟨w5.heap.size,0,none⟩ 1 1 [.string s] rfl rfl ?_ ?_ (by decide) ?_ ?_ ?_ _ rfl ?_))
       any_goals (first
        | (intro j u hj; match j,hj with | 0,hj => (simp at hj; subst hj; simp [Addr.add]; done))
        | rfl
        | (intro u hu; simp at hu; subst hu; rfl)
        | (unfold maxLen; omega)
        | omega
        | (have h1 := HN.out.bel.size; have h2 := HB5.out.size; simp; omega))
       intro g1 cap1 W1 hown hgrow hat hlt
       try rw [← List.map_take] at hown
       have HJ1 := Lib.hid (NJ.push2 ((HN.out.step HB5.out).step (below_new _ _)) (Nat.le_refl _) HS2.out HTI.out.symm hown hgrow)
       have HO1 := Lib.hid hown
       clear hown hgrow hat hlt
       go_wp2_with ((at_builtin; refine wpList_append_lies _ rfl _ _ 60 rfl w2.heap.size 9 i0 (.string ByteArray.empty) 1 16 und26 hi0 hz0 hz1 hz2 rfl (by decide) _ (i + 1) ((K.take i).map sV ++ [Value.string s]) rfl HO1.out ⟨ga,off + i,none⟩ (K.length - i) (ck - i) ((K.drop i).map sV) rfl ?b0 ?b1 ?b2 ?b6 ?b3 ?b4 ?b5 _ rfl ?_))
       case b0 => rw [List.length_map,List.length_drop,Nat.mul_one]
       case b1 =>
        intro j u hj
        rw [List.getElem?_map,List.getElem?_drop] at hj
        by_cases hjl : i + j < K.length
        ·rw [List.getElem?_eq_getElem hjl] at hj
         simp only [Option.map_some,Option.some.injEq] at hj
         have h5 := HCW.out (i + j) hjl
         have h6 := (HJ1.out.bel.cell (p := ⟨ga,off + (i + j),none⟩) (World.block_lt_of_cell? _ _ h5)).trans h5
         rw [hj,← Nat.add_assoc] at h6
         rw [Addr.add_lit]; exact h6
        ·rw [List.getElem?_eq_none (by omega)] at hj; cases hj
       case b2 => intro u hu; obtain ⟨z,_,rfl⟩ := List.mem_map.1 hu; rfl
       case b6 => exact hmi
       case b3 => unfold maxLen; omega
       case b4 => omega
       case b5 => exact HJ1.out.bel.size
       intro g9 cap9 W9 hown9 hgrow9 hat9 hlt9
       try rw [← List.map_take] at hown9
       try rw [← List.map_drop] at hown9
       have hJ9 := NJ.more (d := K.take i ++ [x]) (e := K.drop i) (m := K.length - i) (n1 := i + 1) (xs := (K.take i).map sV ++ [Value.string s]) HJ1.out (Nat.le_refl _) (by rw [List.length_append,List.length_singleton,HTI.out]) (by rw [List.map_append,List.map_cons,List.map_nil,show (sV x) = .string s from (HSX.out)]) (by rw [List.length_drop]) (by first | exact hown9 | (rw [List.append_assoc,List.singleton_append]; exact hown9)) hgrow9
       clear hown9 hgrow9 hat9 hlt9
       have r1 := HINS.out
       rw [HSPL.out.1,HSPL.out.2] at r1
       have HR1 := Lib.hid r1
       have HJ9 := Lib.hid hJ9
       clear hJ9 r1
       go_wp2
       go_roundg g
       case measure => exact Nat.lt_succ_self _
       case rel =>
        have hJ9 := HJ9.out
        rw [← HR1.out] at hJ9
        refine ⟨k1,insL K x,rfl,by have := HK1.out; omega,PRT.own hJ9.own,HB.out.trans (hJ9.bel.mono HB.out.size),by have := HK1.out; have := HKL.out; have := ins_len K x; omega,fun y hy => ?_,HV2.out⟩
        rcases (ins_mem K x y).1 hy with e | e
        ·rw [e]; exact HXZ.out
        ·exact HKZ.out y e
      ·obtain ⟨g3,rfl⟩ : ∃ g3,gk = g3 + 1 := ⟨gk - 1,by omega⟩
       go_wp2_with (first
        | (go_at_call 43; (with_reducible refine (HLS.out _).mono ?_); rintro e w5 ⟨rfl,hb5⟩; have HB5 := Lib.hid hb5; have c5 := HC3.out _ hb5; clear hb5)
        | (at_builtin; refine wpList_append_lies _ rfl _ _ 60 rfl w2.heap.size 9 i0 (.string ByteArray.empty) 1 16 und26 hi0 hz0 hz1 hz2 rfl (by decide) _ i ((K.take i).map sV) rfl ((HOW.out _ HB5.out).alloc _) ⟨w5.heap.size,0,none⟩ 1 1 [.string t] rfl rfl ?_ ?_ (by decide) ?_ ?_ ?_ _ rfl ?_))
       any_goals (first
        | (intro j u hj; match j,hj with | 0,hj => (simp at hj; subst hj; simp [Addr.add]; done))
        | rfl
        | (intro u hu; simp at hu; subst hu; rfl)
        | (unfold maxLen; omega)
        | omega
        | (have h1 := HN.out.bel.size; have h2 := HB5.out.size; simp; omega))
       intro g1 cap1 W1 hown hgrow hat hlt
       try rw [← List.map_take] at hown
       have HJ1 := Lib.hid (NJ.push2 ((HN.out.step HB5.out).step (below_new _ _)) (Nat.le_refl _) HT2.out HTI.out.symm hown hgrow)
       clear hown hgrow hat hlt
       go_wp2
       go_roundg g3
       case measure => exact Nat.lt_succ_self _
       case rel =>
        refine ⟨i1,rfl,by have := HI1.out; omega,by rw [← HI1.out,HYE.out]; exact HJ1.out,fun z hz => ?_⟩
        rw [← HI1.out,HYE.out,List.mem_append,List.mem_singleton] at hz
        rcases hz with e | e
        ·exact HY.out z e
        ·rw [e]; exact HB3.out
     ·have hik : i = K.length := by omega
      have hspl := split_at (p := fun z => decide (z < x)) K i HY.out (fun z hz => by rw [List.getElem?_eq_none (by omega)] at hz; cases hz)
      have HSPL := Lib.hid hspl
      have HDR := Lib.hid (show K.drop i = [] by rw [hik,List.drop_length])
      have li1 : ¬ ((i : Int) < (K.length : Int)) := by omega
      have li2 : (i : Int) ≤ (K.length : Int) := by omega
      have hsub : K.length - i = 0 := by omega
      clear hspl
      rcases hP2 with ⟨rfl,hKn⟩ | ⟨ga,off,ck,rfl,hck,hcx⟩
      ·have hi00 : i = 0 := by rw [hik,hKn]; rfl
       have hK0 : K.length = 0 := by rw [hKn]; rfl
       subst hi00
       clear hKn hik
       go_wp2_with ((at_builtin; refine wpList_append_lies _ rfl _ _ 60 rfl w2.heap.size 9 i0 (.string ByteArray.empty) 1 16 und26 hi0 hz0 hz1 hz2 rfl (by decide) _ 0 ((K.take 0).map sV) rfl ((HOW.out _ (Below.refl _ _)).alloc _) ⟨wr.heap.size,0,none⟩ 1 1 [.string s] rfl rfl ?_ ?_ (by decide) ?_ ?_ ?_ _ rfl ?_))
       any_goals (first
        | (intro j u hj; match j,hj with | 0,hj => (simp at hj; subst hj; simp [Addr.add]; done))
        | rfl
        | (intro u hu; simp at hu; subst hu; rfl)
        | (unfold maxLen; omega)
        | omega
        | (have h1 := HN.out.bel.size; simp; omega))
       intro g1 cap1 W1 hown hgrow hat hlt
       try rw [← List.map_take] at hown
       have hcap1 : 0 + 1 ≤ cap1 := by
        rcases hown.2 with ⟨e,_⟩ | ⟨_,_,_,e,_,_,h5,_⟩
        ·cases e
        ·injection e with _ _ e3; rw [e3]; exact h5
       have han := append_none W1 g1 _ cap1 hcap1
       have HJ1 := Lib.hid (NJ.push2 (HN.out.step (below_new _ _)) (Nat.le_refl _) HS2.out HTI.out.symm hown hgrow)
       clear hown hgrow hat hlt
       have hJ9 := HJ1.out
       have r1 := HINS.out
       rw [HSPL.out.1,HSPL.out.2] at r1
       have HR1 := Lib.hid r1
       have HJ9 := Lib.hid hJ9
       clear hJ9 r1
       go_wp2
       go_roundg g
       case measure => exact Nat.lt_succ_self _
       case rel =>
        have hJ9 := HJ9.out
        rw [show K.take 0 ++ [x] = K.take 0 ++ [x] ++ K.drop 0 by rw [HDR.out,List.append_nil],← HR1.out] at hJ9
        refine ⟨k1,insL K x,rfl,by have := HK1.out; omega,PRT.own hJ9.own,HB.out.trans (hJ9.bel.mono HB.out.size),by have := HK1.out; have := HKL.out; have := ins_len K x; omega,fun y hy => ?_,HV2.out⟩
        rcases (ins_mem K x y).1 hy with e | e
        ·rw [e]; exact HXZ.out
        ·exact HKZ.out y e
      ·have li3 : (i : Int) ≤ (ck : Int) := by omega
       have li4 : (K.length : Int) ≤ (ck : Int) := by omega
       by_cases hck2 : ck = i
       ·have hck3 : i = ck := hck2.symm
        clear hck2
        subst hck3
        clear hik hcx
        go_wp2_with ((at_builtin; refine wpList_append_lies _ rfl _ _ 60 rfl w2.heap.size 9 i0 (.string ByteArray.empty) 1 16 und26 hi0 hz0 hz1 hz2 rfl (by decide) _ i ((K.take i).map sV) rfl ((HOW.out _ (Below.refl _ _)).alloc _) ⟨wr.heap.size,0,none⟩ 1 1 [.string s] rfl rfl ?_ ?_ (by decide) ?_ ?_ ?_ _ rfl ?_))
        any_goals (first
         | (intro j u hj; match j,hj with | 0,hj => (simp at hj; subst hj; simp [Addr.add]; done))
         | rfl
         | (intro u hu; simp at hu; subst hu; rfl)
         | (unfold maxLen; omega)
         | omega
         | (have h1 := HN.out.bel.size; simp; omega))
        intro g1 cap1 W1 hown hgrow hat hlt
        try rw [← List.map_take] at hown
        have hcap1 : i + 1 ≤ cap1 := by
         rcases hown.2 with ⟨e,_⟩ | ⟨_,_,_,e,_,_,h5,_⟩
         ·cases e
         ·injection e with _ _ e3; rw [e3]; exact h5
        have han := append_none W1 g1 _ cap1 hcap1
        have HJ1 := Lib.hid (NJ.push2 (HN.out.step (below_new _ _)) (Nat.le_refl _) HS2.out HTI.out.symm hown hgrow)
        clear hown hgrow hat hlt
        have hJ9 := HJ1.out
        have r1 := HINS.out
        rw [HSPL.out.1,HSPL.out.2] at r1
        have HR1 := Lib.hid r1
        have HJ9 := Lib.hid hJ9
        clear hJ9 r1
        go_wp2
        go_roundg g
        case measure => exact Nat.lt_succ_self _
        case rel =>
         have hJ9 := HJ9.out
         rw [show K.take i ++ [x] = K.take i ++ [x] ++ K.drop i by rw [HDR.out,List.append_nil],← HR1.out] at hJ9
         refine ⟨k1,insL K x,rfl,by have := HK1.out; omega,PRT.own hJ9.own,HB.out.trans (hJ9.bel.mono HB.out.size),by have := HK1.out; have := HKL.out; have := ins_len K x; omega,fun y hy => ?_,HV2.out⟩
         rcases (ins_mem K x y).1 hy with e | e
         ·rw [e]; exact HXZ.out
         ·exact HKZ.out y e
       ·have hck3 : ¬ i = ck := fun e => hck2 e.symm
        clear hik hcx
        go_wp2_with ((at_builtin; refine wpList_append_lies _ rfl _ _ 60 rfl w2.heap.size 9 i0 (.string ByteArray.empty) 1 16 und26 hi0 hz0 hz1 hz2 rfl (by decide) _ i ((K.take i).map sV) rfl ((HOW.out _ (Below.refl _ _)).alloc _) ⟨wr.heap.size,0,none⟩ 1 1 [.string s] rfl rfl ?_ ?_ (by decide) ?_ ?_ ?_ _ rfl ?_))
        any_goals (first
         | (intro j u hj; match j,hj with | 0,hj => (simp at hj; subst hj; simp [Addr.add]; done))
         | rfl
         | (intro u hu; simp at hu; subst hu; rfl)
         | (unfold maxLen; omega)
         | omega
         | (have h1 := HN.out.bel.size; simp; omega))
        intro g1 cap1 W1 hown hgrow hat hlt
        try rw [← List.map_take] at hown
        have hcap1 : i + 1 ≤ cap1 := by
         rcases hown.2 with ⟨e,_⟩ | ⟨_,_,_,e,_,_,h5,_⟩
         ·cases e
         ·injection e with _ _ e3; rw [e3]; exact h5
        have han := append_none W1 g1 _ cap1 hcap1
        have HJ1 := Lib.hid (NJ.push2 (HN.out.step (below_new _ _)) (Nat.le_refl _) HS2.out HTI.out.symm hown hgrow)
        clear hown hgrow hat hlt
        have hJ9 := HJ1.out
        have r1 := HINS.out
        rw [HSPL.out.1,HSPL.out.2] at r1
        have HR1 := Lib.hid r1
        have HJ9 := Lib.hid hJ9
        clear hJ9 r1
        go_wp2
        go_roundg g
        case measure => exact Nat.lt_succ_self _
        case rel =>
         have hJ9 := HJ9.out
         rw [show K.take i ++ [x] = K.take i ++ [x] ++ K.drop i by rw [HDR.out,List.append_nil],← HR1.out] at hJ9
         refine ⟨k1,insL K x,rfl,by have := HK1.out; omega,PRT.own hJ9.own,HB.out.trans (hJ9.bel.mono HB.out.size),by have := HK1.out; have := HKL.out; have := ins_len K x; omega,fun y hy => ?_,HV2.out⟩
         rcases (ins_mem K x y).1 hy with e | e
         ·rw [e]; exact HXZ.out
         ·exact HKZ.out y e
   ·have hins : insL K x = K := by unfold insL; rw [HC.out]; rfl
    have hv3 : R = (M.drop k1).foldl insL K := by rw [HV2.out,hins]
    have HV3 := Lib.hid hv3
    clear hins hv3 HV2 HC
    go_wp2_with (go_at_call 150; (with_reducible refine HIN.out.mono ?_); rintro e w2 ⟨rfl,rfl⟩)
    go_roundg g
    case measure => exact Nat.lt_succ_self _
    case rel => exact ⟨k1,K,rfl,by have := HK1.out; omega,HP.out,HB.out,by have := HK1.out; have := HKL.out; omega,HKZ.out,HV3.out⟩

theorem foldl_len : ∀ (m l : List Tx),(m.foldl insL l).length ≤ l.length + m.length := by
 intro m
 induction m with
 | nil => intro l; exact Nat.le_refl _
 | cons x r ih => intro l; have := ih (insL l x); have := ins_len l x; rw [List.foldl_cons,List.length_cons]; omega
theorem rise_len (l : List Tx) : (riseL l).length ≤ l.length := by have := foldl_len l []; unfold riseL; simpa using this
theorem rise_upto (f : Nat → List Tx) (k : Nat) : riseL (upto f (k + 1)) = (f k).foldl insL (riseL (upto f k)) := by rw [upto,rise_append]
theorem reads_len {l : List Tok} (hl : l.length ≤ 40000) {k : Nat} (hk : k ≤ l.length) : (riseL (upto (readsAt l) k)).length ≤ 1600000000 := by
 have h1 := rise_len (upto (readsAt l) k)
 have h2 := upto_len (readsAt_len l) k
 have h3 : k * l.length ≤ 40000 * 40000 := Nat.mul_le_mul (by omega) hl
 omega
def RReadsP (w : World) (R : List Tx) (e : Ending) (w' : World) : Prop := ∃ v,e = .returned v ∧ PRT w' v R ∧ Below w.heap.size w w'
theorem from_put (vl u3 : Value) (l : List Tok) (k1 : Nat) (w wr : World) (O : List Tx) (h : TR wr vl l) (hl : l.length ≤ 40000) (hk : k1 ≤ l.length) (hz : ∀ t ∈ l,t.2.1.size ≤ 1000000000) (hP : PRT wr u3 O) (hO : O.length ≤ 1600000000) (hOz : ∀ x ∈ O,x.length ≤ 2000000001) :
  Calls Tryz.prog 123 #[vl,.int .i64 (k1 : Int)] wr fun e w2 => ∃ vo,e = .returned vo ∧ Below wr.heap.size wr w2 ∧
   Calls Tryz.prog 122 #[u3,vo] w2 fun e w3 => ∃ v,e = .returned v ∧ PRT w3 v (((fromL l k1).map (·.1)).foldl insL O) ∧ Below wr.heap.size wr w3 := by
 refine (rfrom_any vl l k1 wr h (by omega) hk hz).mono ?_
 rintro e w2 ⟨vo,rfl,hJ⟩
 have hlen : ((fromL l k1).map (·.1)).length ≤ 40000 := by rw [List.length_map]; have := fromL_len l _ k1 (Nat.le_refl _); omega
 refine ⟨vo,rfl,hJ.bel,?_⟩
 refine (rsput_any u3 vo O _ w2 (hP.below hJ.bel) (SRT.own hJ.own) (by omega) (fun x hx => ?_)).mono ?_
 ·rcases List.mem_append.1 hx with e | e
  ·exact hOz x e
  ·obtain ⟨y,hy,rfl⟩ := List.mem_map.1 e
   exact fromL_text hz _ _ (Nat.le_refl _) y hy
 ·rintro e w3 ⟨v,rfl,h1,h2⟩
  exact ⟨v,rfl,h1,hJ.bel.trans (h2.mono hJ.bel.size)⟩
set_option maxHeartbeats 8000000 in
theorem rreads_any (v : Value) (l : List Tok) (w : World) (h : TR w v l) (hl : l.length ≤ 40000) (hz : ∀ t ∈ l,t.2.1.size ≤ 1000000000) :
  Calls Tryz.prog 87 #[v] w (RReadsP w (readsL l)) := by
 obtain ⟨a,cap,rfl⟩ := h.form
 have HH := Lib.hid h
 have HZ := Lib.hid hz
 clear h hz
 go_enter Tryz.func87,Tryz.ntmps87
 go_wp2
 go_loopg [3,4] l.length (fun g u3 u4 wx => ∃ k : Nat,u4 = .int .i64 (k : Int) ∧ k + g = l.length ∧ PRT wx u3 (riseL (upto (readsAt l) k)) ∧ Below w.heap.size w wx)
 case atStart => exact ⟨0,rfl,by omega,.inl ⟨rfl,rfl⟩,Below.refl _ _⟩
 case round =>
  obtain ⟨k,rfl,hk,hP,hB⟩ := hrel
  have HP := Lib.hid hP
  have HB := Lib.hid hB
  clear hP hB
  cases gk with
  | zero =>
   have hkl : k = l.length := by omega
   have l1 : ¬ ((k : Int) < (l.length : Int)) := by omega
   have hP2 := HP.out
   rw [hkl] at hP2
   have HP2 := Lib.hid hP2
   clear hP2 HP
   go_wp2
   go_ret
   exact ⟨_,rfl,HP2.out,HB.out⟩
  | succ g =>
   have hlt : k < l.length := by omega
   have hT := HH.out.below HB.out
   have l1 : (k : Int) < (l.length : Int) := by omega
   obtain ⟨k1,hk1⟩ : ∃ k1,k + 1 = k1 := ⟨_,rfl⟩
   have wk : IntKind.i64.wrap ((k : Int) + 1) = (k1 : Int) := by rw [show (k : Int) + 1 = (k1 : Int) by omega]; exact wrap_nat (by omega)
   have hw := fun (i : Nat) (s : ByteArray) => rword_any (.slice a l.length cap) l i s wr hT (by omega)
   have hwf := hw k ⟨#[102,114,111,109]⟩
   have hwd := hw (k - 1) ⟨#[100,101,108,101,116,101]⟩
   have hwj := hw k ⟨#[106,111,105,110]⟩
   have hwu := hw k ⟨#[117,115,105,110,103]⟩
   have hwt := hw k ⟨#[116,97,98,108,101]⟩
   have hwn := rword_neg (.slice a l.length cap) (.string ⟨#[100,101,108,101,116,101]⟩) wr
   rw [show [(⟨#[102,114,111,109]⟩ : ByteArray).toList] = [w_from] by rw [Lib.toList_data]; rfl] at hwf
   rw [show [(⟨#[100,101,108,101,116,101]⟩ : ByteArray).toList] = [w_delete] by rw [Lib.toList_data]; rfl] at hwd
   rw [show [(⟨#[106,111,105,110]⟩ : ByteArray).toList] = [w_join] by rw [Lib.toList_data]; rfl] at hwj
   rw [show [(⟨#[117,115,105,110,103]⟩ : ByteArray).toList] = [w_using] by rw [Lib.toList_data]; rfl] at hwu
   rw [show [(⟨#[116,97,98,108,101]⟩ : ByteArray).toList] = [w_table] by rw [Lib.toList_data]; rfl] at hwt
   have hfp := from_put (.slice a l.length cap) u3 l k1 w wr _ hT hl (by omega) HZ.out HP.out (reads_len hl (by omega)) (fun x hx => upto_text (readsAt_text HZ.out) k x ((rise_mem _ x).1 hx))
   have hb : readsB l k = (isTok 1 [w_join] l k || isTok 1 [w_using] l k || isTok 1 [w_from] l k && !(k != 0 && isTok 1 [w_delete] l (k - 1)) || k == 0 && isTok 1 [w_table] l k) := by rw [readsB,tok_two]
   have hyes : readsB l k = true → riseL (upto (readsAt l) k1) = ((fromL l k1).map (·.1)).foldl insL (riseL (upto (readsAt l) k)) := fun e => by
    rw [← hk1,rise_upto,readsAt,if_pos e]
   have hno : readsB l k = false → riseL (upto (readsAt l) k1) = riseL (upto (readsAt l) k) := fun e => by
    rw [← hk1,rise_upto,readsAt,if_neg (by rw [e]; decide)]; rfl
   generalize readsB l k = b at *
   generalize isTok 1 [w_from] l k = bf at *
   generalize isTok 1 [w_delete] l (k - 1) = bd at *
   generalize isTok 1 [w_join] l k = bj at *
   generalize isTok 1 [w_using] l k = bu at *
   generalize isTok 1 [w_table] l k = bt at *
   generalize riseL (upto (readsAt l) k) = O at *
   have HWF := Lib.hid hwf
   have HWD := Lib.hid hwd
   have HWJ := Lib.hid hwj
   have HWU := Lib.hid hwu
   have HWT := Lib.hid hwt
   have HWN := Lib.hid hwn
   have HFP := Lib.hid hfp
   have HK1 := Lib.hid hk1
   have HYES := Lib.hid hyes
   have HNO := Lib.hid hno
   clear hwf hwd hwj hwu hwt hwn hfp hyes hno hT hk1 hlt hw
   cases k with
   | zero =>
    have wm : IntKind.i64.wrap ((0 : Int) - 1) = -1 := by decide
    clear HWD
    obtain rfl : k1 = 1 := by have := HK1.out; omega
    simp only [Int.natCast_zero,Int.natCast_one] at HWF HWJ HWU HWT HFP wk l1 ⊢
    cases bf <;> cases bj <;> cases bu <;> cases bt <;>
    ·simp at hb
     subst hb
     go_wp2_with (first
      | (go_at_call 121; (with_reducible refine HWF.out.mono ?_); rintro e w2 ⟨rfl,rfl⟩)
      | (go_at_call 121; (with_reducible refine HWN.out.mono ?_); rintro e w2 ⟨rfl,rfl⟩)
      | (go_at_call 121; (with_reducible refine HWJ.out.mono ?_); rintro e w2 ⟨rfl,rfl⟩)
      | (go_at_call 121; (with_reducible refine HWU.out.mono ?_); rintro e w2 ⟨rfl,rfl⟩)
      | (go_at_call 121; (with_reducible refine HWT.out.mono ?_); rintro e w2 ⟨rfl,rfl⟩)
      | (go_at_call 123; (with_reducible refine HFP.out.mono ?_); rintro e w4 ⟨vo,rfl,hb4,hc4⟩; have HC4 := Lib.hid hc4; clear hc4 hb4)
      | (go_at_call 122; (with_reducible refine HC4.out.mono ?_); rintro e w5 ⟨v5,rfl,hp5,hb5⟩; have HP5 := Lib.hid hp5; have HB5 := Lib.hid hb5; clear hp5 hb5))
     go_roundg g
     case measure => exact Nat.lt_succ_self _
     case rel => first
      | exact ⟨1,rfl,by omega,by rw [HYES.out (by first | rfl | trivial)]; exact HP5.out,HB.out.trans (HB5.out.mono HB.out.size)⟩
      | exact ⟨1,rfl,by omega,by rw [HNO.out (by first | rfl | trivial)]; exact HP.out,HB.out⟩
   | succ j =>
    have wm : IntKind.i64.wrap (((j + 1 : Nat) : Int) - 1) = (j : Int) := by rw [show ((j + 1 : Nat) : Int) - 1 = (j : Int) by omega]; exact wrap_nat (by omega)
    have ne : (((j + 1 : Nat) : Int) == 0) = false := by rw [beq_eq_false_iff_ne]; omega
    rw [Nat.add_sub_cancel] at HWD
    have z1 : ((j + 1) == 0) = false := rfl
    have z2 : ((j + 1) != 0) = true := rfl
    rw [z1,z2] at hb
    clear z1 z2
    have HKG := Lib.hid (show k1 + g = l.length by have := HK1.out; omega)
    obtain ⟨i1,hi1⟩ : ∃ i1,j + 1 = i1 := ⟨_,rfl⟩
    simp only [hi1] at wm ne HWF HWJ HWU HWT HK1 wk l1 ⊢
    clear hk
    clear hi1 HWN HWT HK1
    cases bf <;> cases bj <;> cases bu <;> cases bd <;>
    ·simp only [Bool.false_and,Bool.true_and,Bool.or_false,Bool.false_or,Bool.not_false,Bool.not_true,Bool.true_or,Bool.or_true,Bool.and_false] at hb
     subst hb
     go_wp2_with (first
      | (go_at_call 121; (with_reducible refine HWF.out.mono ?_); rintro e w2 ⟨rfl,rfl⟩)
      | (go_at_call 121; (with_reducible refine HWD.out.mono ?_); rintro e w2 ⟨rfl,rfl⟩)
      | (go_at_call 121; (with_reducible refine HWJ.out.mono ?_); rintro e w2 ⟨rfl,rfl⟩)
      | (go_at_call 121; (with_reducible refine HWU.out.mono ?_); rintro e w2 ⟨rfl,rfl⟩)
      | (go_at_call 123; (with_reducible refine HFP.out.mono ?_); rintro e w4 ⟨vo,rfl,hb4,hc4⟩; have HC4 := Lib.hid hc4; clear hc4 hb4)
      | (go_at_call 122; (with_reducible refine HC4.out.mono ?_); rintro e w5 ⟨v5,rfl,hp5,hb5⟩; have HP5 := Lib.hid hp5; have HB5 := Lib.hid hb5; clear hp5 hb5))
     go_roundg g
     case measure => exact Nat.lt_succ_self _
     case rel => first
      | exact ⟨k1,rfl,HKG.out,by rw [HYES.out (by first | rfl | trivial)]; exact HP5.out,HB.out.trans (HB5.out.mono HB.out.size)⟩
      | exact ⟨k1,rfl,HKG.out,by rw [HNO.out (by first | rfl | trivial)]; exact HP.out,HB.out⟩

set_option maxHeartbeats 2000000 in
theorem rtexts_any (v1 v2 : Value) (d e : List Tx) (w : World) (h1 : SRT w v1 d) (h2 : SRT w v2 e) (hl : d.length ≤ 2000000000) (hl2 : e.length ≤ 2000000000) :
  Calls Tryz.prog 32 #[v1,v2] w fun r w' => r = .returned (.bool (decide (d = e))) ∧ ∃ n,w' = w.drewN n := by
 obtain ⟨a1,c1,rfl,hx1⟩ := h1.at_
 obtain ⟨a2,c2,rfl,hx2⟩ := h2.at_
 by_cases hlen : d.length = e.length
 ·obtain ⟨R,hR⟩ : ∃ R,decide (d = e) = R := ⟨_,rfl⟩
  rw [hR]
  have HR := Lib.hid hR
  have HX1 := Lib.hid hx1
  have HX2 := Lib.hid hx2
  have HLEN := Lib.hid hlen
  clear hx1 hx2 hR h1 h2
  have ne : ((d.length : Int) != (e.length : Int)) = false := by rw [bne_eq_false_iff_eq,hlen]
  rw [← hlen] at ne ⊢
  clear hlen
  go_enter Tryz.func32,Tryz.ntmps32
  go_wp2
  go_loopg [5] d.length (fun g u5 wx => ∃ k : Nat,u5 = .int .i64 (k : Int) ∧ k + g = d.length ∧ R = decide (d.drop k = e.drop k) ∧ ∃ n,wx = w.drewN n)
  case atStart => exact ⟨0,rfl,by omega,by rw [List.drop_zero,List.drop_zero]; exact HR.out.symm,0,rfl⟩
  case round =>
   obtain ⟨k,rfl,hk,hv,n0,rfl⟩ := hrel
   cases gk with
   | zero =>
    have hkl : k = d.length := by omega
    have hv2 : R = true := by rw [hv,hkl,List.drop_length,show e.drop d.length = [] by rw [HLEN.out,List.drop_length]]; rfl
    have l1 : ¬ ((k : Int) < (d.length : Int)) := by omega
    subst hv2
    clear hv HX1 HX2 HR
    go_wp2
    go_ret
    exact ⟨rfl,_,rfl⟩
   | succ g =>
    have hlt : k < d.length := by omega
    have hlt2 : k < e.length := by have := HLEN.out; omega
    rcases HX1.out with h0 | ⟨b1,o1,rfl,hc1,hx1⟩
    ·omega
    rcases HX2.out with h0 | ⟨b2,o2,rfl,hc2,hx2⟩
    ·omega
    have x1 := hx1 k hlt
    have x2 := hx2 k hlt2
    rw [List.drop_eq_getElem_cons hlt,List.drop_eq_getElem_cons hlt2] at hv
    obtain ⟨x,hxe⟩ : ∃ x,d[k] = x := ⟨_,rfl⟩
    obtain ⟨y,hye⟩ : ∃ y,e[k] = y := ⟨_,rfl⟩
    obtain ⟨s,hs1,hs2,_⟩ := bytes_ex x
    obtain ⟨t,ht1,ht2,_⟩ := bytes_ex y
    rw [hxe,hs1] at x1
    rw [hye,ht1] at x2
    rw [hxe,hye] at hv
    have l0 : (0 : Int) ≤ (k : Int) := by omega
    have l1 : (k : Int) < (d.length : Int) := by omega
    obtain ⟨k1,hk1⟩ : ∃ k1,k + 1 = k1 := ⟨_,rfl⟩
    have wk : IntKind.i64.wrap ((k : Int) + 1) = (k1 : Int) := by rw [show (k : Int) + 1 = (k1 : Int) by omega]; exact wrap_nat (by omega)
    rw [hk1] at hv
    have HK1 := Lib.hid hk1
    clear hx1 hx2 HX1 HX2 HR hk1 hxe hye hs1 ht1 hlt hlt2
    by_cases hxy : x = y
    ·have es : (s.toList == t.toList) = true := by rw [hs2,ht2,beq_iff_eq]; exact hxy
     have es2 : (!(s.toList == t.toList)) = false := by rw [es]; rfl
     have hv2 : R = decide (d.drop k1 = e.drop k1) := by rw [hv,hxy]; simp
     have HV := Lib.hid hv2
     clear hv hv2 hxy hs2 ht2
     go_wp2
     go_quiet (fail)
     go_wp2
     go_roundg g
     case measure => exact Nat.lt_succ_self _
     case rel => exact ⟨k1,rfl,by have := HK1.out; omega,HV.out,_,rfl⟩
    ·have es : (s.toList == t.toList) = false := by rw [hs2,ht2,beq_eq_false_iff_ne]; exact hxy
     have es2 : (!(s.toList == t.toList)) = true := by rw [es]; rfl
     have hv2 : R = false := by rw [hv]; simp [hxy]
     subst hv2
     clear hv hxy hs2 ht2
     go_wp2
     go_quiet (fail)
     go_wp2
     go_ret
     refine ⟨rfl,?_⟩
     first | exact ⟨_,rfl⟩ | (rw [World.drewN_drewN]; exact ⟨_,rfl⟩)
 ·have ne : ((d.length : Int) != (e.length : Int)) = true := by rw [bne_iff_ne]; omega
  rw [show decide (d = e) = false by rw [decide_eq_false_iff_not]; exact fun h => hlen (by rw [h])]
  clear hx1 hx2 h1 h2 hlen
  go_enter Tryz.func32,Tryz.ntmps32
  go_wp2
  go_ret
  exact ⟨rfl,0,rfl⟩
end Go.Proofs.YtgdabkpahmlkpaaGreatDoor
