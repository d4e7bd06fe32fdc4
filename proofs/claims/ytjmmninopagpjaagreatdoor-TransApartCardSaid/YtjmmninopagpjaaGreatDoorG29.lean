/- Sei Sej Sek Sel -/
import Derived.Test.YtjmmninopagpjaaGreatDoorG28
import Derived.Test.YtjmmninopagpjaaGreatDoorG18
import Derived.Test.YtjmmninopagpjaaGreatDoorG10
import Derived.OneCell
import Derived.Deep.AppendLies
import Derived.Maps.OwnSet
import Derived.Maps.AppendAt
import Derived.StringKeys
import Derived.Sort.OwnSorted
import Derived.Deep.LoopGhost
import Derived.Test.YtjmmninopagpjaaGreatDoorG1
set_option linter.unusedSimpArgs false
set_option linter.unusedVariables false
namespace Go.Proofs.YtjmmninopagpjaaGreatDoor
open Go.ChangeShapes Go.WideShapes Go.ChangeAt Go.RowKit
set_option maxRecDepth 100000
set_option linter.unusedVariables false
set_option linter.unusedSimpArgs false

set_option maxHeartbeats 4000000 in
theorem namesFrom_any (f : Nat) (lb : Array Value) (v : Value) (l : List Tok) (i z : Nat) (w : World) (J : List (Tx × Nat) → World → Prop) (more : List (Tx × Nat) → Tx × Nat → Bool)
  (T : Teller f lb v l z J more) (hl : l.length ≤ 1000000) (hi : i ≤ l.length) (hz : ∀ t ∈ l,t.2.1.size ≤ 1000000000) (d0 : List (Tx × Nat)) (h0 : J d0 w) (hd : d0.length + (l.length - i) ≤ z) :
  Calls Tryz.prog 237 #[v,.int .i64 (i : Int),.func (.func f) #[] lb] w fun e w' => e = .returned (.tuple #[]) ∧ J (toldL more d0 (fromL l i)) w' := by
 obtain ⟨R,hR⟩ : ∃ R,toldL more d0 (fromL l i) = R := ⟨_,rfl⟩
 rw [hR]
 obtain ⟨a,cap,rfl,hx⟩ := tr_at (T.reads _ _ h0)
 have HX : l.length = 0 ∨ ∃ g off,a = some ⟨g,off,none⟩ ∧ l.length ≤ cap := hx.imp id fun ⟨g,off,e,hc,_⟩ => ⟨g,off,e,hc⟩
 have HR := Lib.hid hR
 have HT := Lib.hid T
 have HZ := Lib.hid hz
 have HD := Lib.hid hd
 have H0 := Lib.hid h0
 clear hx hR T hz hd h0
 have hen := fun args w => HT.out.enter args w
 go_enter Tryz.func237,Tryz.ntmps237
 go_wp2
 go_loopg [1,6] (l.length + 1) (fun g u1 u6 wx => ∃ (k : Nat) (d : List (Tx × Nat)),u1 = .int .i64 (k : Int) ∧ k ≤ l.length ∧ l.length - k + 1 ≤ g ∧ J d wx ∧ d.length + (l.length - k) ≤ z ∧ R = toldL more d (fromL l k))
 case atStart => exact ⟨i,d0,rfl,hi,by omega,H0.out,HD.out,HR.out.symm⟩
 case round =>
  obtain ⟨k,d,rfl,hk,hg,hJ,hdk,hv⟩ := hrel
  have HJ := Lib.hid hJ
  have HV := Lib.hid hv
  have HDK := Lib.hid hdk
  clear hJ hv hdk HR H0 HD
  have hJw : J d (wr.alloc (.cells #[.string ⟨#[111,110,108,121]⟩,.string ⟨#[116,97,98,108,101]⟩] 9)) := HT.out.keeps _ _ _ HJ.out (below_new _ _)
  have hW := isWord2 (.slice a l.length cap) l k ⟨#[111,110,108,121]⟩ ⟨#[116,97,98,108,101]⟩ wr (HT.out.reads _ _ HJ.out) (by omega)
  have e0 : [(⟨#[111,110,108,121]⟩ : ByteArray).toList,(⟨#[116,97,98,108,101]⟩ : ByteArray).toList] = [w_only,w_table] := by rw [Lib.toList_data,Lib.toList_data]; rfl
  rw [e0] at hW
  obtain ⟨j,hj⟩ : ∃ j,skipB l k = j := ⟨_,rfl⟩
  obtain ⟨n,hn⟩ : ∃ n,nameW l j = n := ⟨_,rfl⟩
  have hjk := skip_le l k
  rw [hj] at hjk
  have hNS : ∀ W,J d W → Calls Tryz.prog 263 #[.slice a l.length cap,.int .i64 (j : Int)] W fun e w' => e = .returned (.int .i64 (n : Int)) ∧ w' = W := fun W h => by rw [← hn]; exact nameSize_any _ l j W (HT.out.reads _ _ h) (by omega) (by omega)
  have hE := fromL_eq l k
  rw [hj,hn] at hE
  have hwj : isTok 1 [w_only,w_table] l k = true → IntKind.i64.wrap ((k : Int) + 1) = (j : Int) := fun hb => by
   have : j = k + 1 := by rw [← hj,skipB,if_pos hb]
   rw [show (k : Int) + 1 = (j : Int) by omega]; exact wrap_nat (by omega)
  have hwk : isTok 1 [w_only,w_table] l k = false → j = k := fun hb => by rw [← hj,skipB,if_neg (by rw [hb]; decide)]
  generalize isTok 1 [w_only,w_table] l k = b1 at *
  have HW := Lib.hid hW
  have HNS := Lib.hid hNS
  have HJW := Lib.hid hJw
  have HJK := Lib.hid hjk
  clear hW hNS hJw e0 hjk
  by_cases hn0 : n = 0
  ·subst hn0
   rw [if_pos rfl] at hE
   have hv2 : R = d := by rw [HV.out,hE]; rfl
   have HV2 := Lib.hid hv2
   clear hE hv2 HV hn hj
   cases b1
   ·obtain rfl := hwk rfl
    clear hwj hwk
    go_wp2_with (first
     | (go_at_call 262; (with_reducible refine HW.out.mono ?_); rintro e w2 ⟨rfl,rfl⟩)
     | (go_at_call 263; (with_reducible refine (HNS.out _ HJW.out).mono ?_); rintro e w2 ⟨rfl,rfl⟩))
    refine bodyPost_ret (v := .tuple #[]) (by simp [results,Tryz.results237,go_sem]) rfl ?_
    exact ⟨rfl,by rw [HV2.out]; exact HJW.out⟩
   ·have hw1 := hwj rfl
    clear hwj hwk
    go_wp2_with (first
     | (go_at_call 262; (with_reducible refine HW.out.mono ?_); rintro e w2 ⟨rfl,rfl⟩)
     | (go_at_call 263; (with_reducible refine (HNS.out _ HJW.out).mono ?_); rintro e w2 ⟨rfl,rfl⟩))
    refine bodyPost_ret (v := .tuple #[]) (by simp [results,Tryz.results237,go_sem]) rfl ?_
    exact ⟨rfl,by rw [HV2.out]; exact HJW.out⟩
  ·have hnw := nameW_lt (l := l) (i := j) (by rw [hn]; exact hn0)
   rw [hn] at hnw
   obtain ⟨hjl,hn1,hn3⟩ := hnw
   rcases HX with h0 | ⟨g,off,rfl,hcap⟩
   ·omega
   obtain ⟨jn,hjn⟩ : ∃ jn,j + n = jn := ⟨_,rfl⟩
   rw [if_neg hn0,hjn] at hE
   obtain ⟨x,hx⟩ : ∃ x,(nameX l j,j) = x := ⟨_,rfl⟩
   obtain ⟨m,hm⟩ : ∃ m,more d x = m := ⟨_,rfl⟩
   obtain ⟨q,hq⟩ : ∃ q,aliasC l jn = q := ⟨_,rfl⟩
   obtain ⟨c,hc⟩ : ∃ c,commaB l q = c := ⟨_,rfl⟩
   have hqk := aliasC_le l jn
   rw [hq] at hqk
   have hnt : ∀ W,J d W → Calls Tryz.prog 264 #[.slice (some ⟨g,off + j * 3,none⟩) (jn - j) (cap - j)] W fun e w' => (∃ s : ByteArray,e = .returned (.string s) ∧ s.toList = nameX l j ∧ s.size ≤ 2000000001) ∧ J d w' := fun W h => by
    have := nameText_at _ l j W (HT.out.reads _ _ h) HZ.out (by rw [hn]; exact hn0) g off cap rfl (cap - j) (by rw [hn]; omega)
    rw [hn,show n = jn - j by omega] at this
    exact this.mono fun e w' h2 => ⟨h2.1,HT.out.keeps _ _ _ h h2.2⟩
   have hdz := HDK.out
   have hjk := HJK.out
   have htl : ∀ W (s : ByteArray),J d W → s.toList = nameX l j → s.size ≤ 2000000001 → Calls Tryz.prog f (#[.string s,.int .i64 (j : Int)] ++ lb) W fun e w' => e = .returned (.bool m) ∧ J (d ++ [x]) w' := fun W s h h2 h3 => by
    have := HT.out.tells d s j W h (by omega) h3 (by omega)
    rw [h2,hx,hm] at this
    exact this
   have hba : ∀ W,J (d ++ [x]) W → Calls Tryz.prog 265 #[.slice (some ⟨g,off,none⟩) l.length cap,.int .i64 (jn : Int)] W fun e w' => e = .returned (.int .i64 (q : Int)) ∧ J (d ++ [x]) w' := fun W h => by
    have := behindAlias_any _ l jn W (HT.out.reads _ _ h) (by omega) (by omega)
    rw [hq] at this
    exact this.mono fun e w' h2 => ⟨h2.1,HT.out.keeps _ _ _ h h2.2⟩
   have his : ∀ W,J (d ++ [x]) W → Calls Tryz.prog 266 #[.slice (some ⟨g,off,none⟩) l.length cap,.int .i64 (q : Int),.string ⟨#[44]⟩] W fun e w' => e = .returned (.bool c) ∧ w' = W := fun W h => by
    have := isSign_any _ l q ⟨#[44]⟩ W (HT.out.reads _ _ h) (by omega)
    rw [show [(⟨#[44]⟩ : ByteArray).toList] = [[44]] by rw [Lib.toList_data]] at this
    rw [← hc]; exact this
   have wjn : IntKind.i64.wrap ((j : Int) + (n : Int)) = (jn : Int) := by rw [show (j : Int) + (n : Int) = (jn : Int) by omega]; exact wrap_nat (by omega)
   obtain ⟨q1,hq1⟩ : ∃ q1,q + 1 = q1 := ⟨_,rfl⟩
   have wq : IntKind.i64.wrap ((q : Int) + 1) = (q1 : Int) := by rw [show (q : Int) + 1 = (q1 : Int) by omega]; exact wrap_nat (by omega)
   have l0 : (0 : Int) ≤ (j : Int) := by omega
   have l1 : (j : Int) ≤ (jn : Int) := by omega
   have l2 : (jn : Int) ≤ (cap : Int) := by omega
   have hcj1 : ¬ cap = j := by omega
   have hcj2 : ¬ j = cap := by omega
   have en : ((n : Int) == 0) = false := by rw [beq_eq_false_iff_ne]; omega
   have HNT := Lib.hid hnt
   have HTL := Lib.hid htl
   have HBA := Lib.hid hba
   have HIS := Lib.hid his
   have HE := Lib.hid hE
   have HQK := Lib.hid hqk
   have HJN := Lib.hid hjn
   have HQ1 := Lib.hid hq1
   have HC := Lib.hid hc
   have HQ := Lib.hid hq
   have HX2 := Lib.hid hx
   have HM := Lib.hid hm
   have HJL := Lib.hid hjl
   clear hnt htl hba his hE hqk hjn hq1 hc hm hq hx hj hn hdz hn0 hjl hcap hjk
   have hv1 : m = false → R = d ++ [x] := fun e => by rw [HV.out,HE.out,toldL,HX2.out,HM.out,e]; rfl
   have hv2 : m = true → c = false → R = d ++ [x] := fun e e2 => by
    rw [HV.out,HE.out,toldL,HX2.out,HM.out,e,if_pos rfl]
    have h3 : commaB l (aliasB l jn) = false := by
     rcases alias_same l jn with h | h
     ·rw [HQ.out,HC.out,e2] at h; exact absurd h.1 (by decide)
     ·exact h.2
    rw [h3,if_neg (by decide)]; rfl
   have hv3 : m = true → c = true → R = toldL more (d ++ [x]) (fromL l q1) ∧ q < l.length := fun e e2 => by
    rw [HV.out,HE.out,toldL,HX2.out,HM.out,e,if_pos rfl]
    have h3 : commaB l (aliasB l jn) = true ∧ aliasB l jn = q := by
     rcases alias_same l jn with h | h
     ·rw [HQ.out,HC.out,e2] at h; rw [← h.2]; exact ⟨by rw [HC.out,e2],rfl⟩
     ·rw [HQ.out,HC.out,e2] at h; exact absurd h.1 (by decide)
    rw [h3.1,if_pos rfl,h3.2,HQ1.out]
    exact ⟨rfl,isTok_lt (by have := HC.out; rw [e2] at this; exact this)⟩
   have HV1 := Lib.hid hv1
   have HV2 := Lib.hid hv2
   have HV3 := Lib.hid hv3
   clear hv1 hv2 hv3 HV HE HC HM HQ HX2
   cases b1
   ·obtain rfl := hwk rfl
    clear hwj hwk
    cases m
    ·have HR1 := Lib.hid (HV1.out rfl)
     clear HV1 HV2 HV3
     go_wp2_with (first
      | (go_at_call 262; (with_reducible refine HW.out.mono ?_); rintro e w2 ⟨rfl,rfl⟩)
      | (go_at_call 263; (with_reducible refine (HNS.out _ HJW.out).mono ?_); rintro e w2 ⟨rfl,rfl⟩)
      | (go_at_call 264; (with_reducible refine (HNT.out _ HJW.out).mono ?_); rintro e w2 ⟨⟨s,rfl,hs,hsz⟩,hJ2⟩; have HTS := Lib.hid (HTL.out _ s hJ2 hs hsz); clear hs hsz hJ2)
      | (go_at_call 265; (with_reducible refine (HBA.out _ HJ3.out).mono ?_); rintro e w4 ⟨rfl,hJ4⟩; have HJ4 := Lib.hid hJ4; clear hJ4)
      | (go_at_call 266; (with_reducible refine (HIS.out _ HJ4.out).mono ?_); rintro e w5 ⟨rfl,rfl⟩)
      | ((with_reducible refine HTS.out.mono ?_); rintro e w3 ⟨rfl,hJ3⟩; have HJ3 := Lib.hid hJ3; clear hJ3 HTS))
     refine bodyPost_ret (v := .tuple #[]) (by simp [results,Tryz.results237,go_sem]) rfl ?_
     exact ⟨rfl,by rw [HR1.out]; exact HJ3.out⟩
    ·cases c
     ·have HR1 := Lib.hid (HV2.out rfl rfl)
      clear HV1 HV2 HV3
      go_wp2_with (first
       | (go_at_call 262; (with_reducible refine HW.out.mono ?_); rintro e w2 ⟨rfl,rfl⟩)
       | (go_at_call 263; (with_reducible refine (HNS.out _ HJW.out).mono ?_); rintro e w2 ⟨rfl,rfl⟩)
       | (go_at_call 264; (with_reducible refine (HNT.out _ HJW.out).mono ?_); rintro e w2 ⟨⟨s,rfl,hs,hsz⟩,hJ2⟩; have HTS := Lib.hid (HTL.out _ s hJ2 hs hsz); clear hs hsz hJ2)
       | (go_at_call 265; (with_reducible refine (HBA.out _ HJ3.out).mono ?_); rintro e w4 ⟨rfl,hJ4⟩; have HJ4 := Lib.hid hJ4; clear hJ4)
       | (go_at_call 266; (with_reducible refine (HIS.out _ HJ4.out).mono ?_); rintro e w5 ⟨rfl,rfl⟩)
       | ((with_reducible refine HTS.out.mono ?_); rintro e w3 ⟨rfl,hJ3⟩; have HJ3 := Lib.hid hJ3; clear hJ3 HTS))
      refine bodyPost_ret (v := .tuple #[]) (by simp [results,Tryz.results237,go_sem]) rfl ?_
      exact ⟨rfl,by rw [HR1.out]; exact HJ4.out⟩
     ·have HR1 := Lib.hid (HV3.out rfl rfl)
      clear HV1 HV2 HV3
      obtain ⟨g2,rfl⟩ : ∃ g2,gk = g2 + 1 := ⟨gk - 1,by omega⟩
      go_wp2_with (first
       | (go_at_call 262; (with_reducible refine HW.out.mono ?_); rintro e w2 ⟨rfl,rfl⟩)
       | (go_at_call 263; (with_reducible refine (HNS.out _ HJW.out).mono ?_); rintro e w2 ⟨rfl,rfl⟩)
       | (go_at_call 264; (with_reducible refine (HNT.out _ HJW.out).mono ?_); rintro e w2 ⟨⟨s,rfl,hs,hsz⟩,hJ2⟩; have HTS := Lib.hid (HTL.out _ s hJ2 hs hsz); clear hs hsz hJ2)
       | (go_at_call 265; (with_reducible refine (HBA.out _ HJ3.out).mono ?_); rintro e w4 ⟨rfl,hJ4⟩; have HJ4 := Lib.hid hJ4; clear hJ4)
       | (go_at_call 266; (with_reducible refine (HIS.out _ HJ4.out).mono ?_); rintro e w5 ⟨rfl,rfl⟩)
       | ((with_reducible refine HTS.out.mono ?_); rintro e w3 ⟨rfl,hJ3⟩; have HJ3 := Lib.hid hJ3; clear hJ3 HTS))
      go_roundg g2
      case measure => exact Nat.lt_succ_self _
      case rel =>
       have r1 := HR1.out
       have r2 := HQK.out
       have r3 := HJN.out
       have r4 := HQ1.out
       have r5 := HJK.out
       have r6 := HDK.out
       have r7 := HJL.out
       clear HW HNS HNT HTL HBA HIS
       exact ⟨q1,d ++ [x],rfl,by omega,by omega,HJ4.out,by rw [List.length_append,List.length_singleton]; omega,r1.1⟩
   ·have hw1 := hwj rfl
    clear hwj hwk
    cases m
    ·have HR1 := Lib.hid (HV1.out rfl)
     clear HV1 HV2 HV3
     go_wp2_with (first
      | (go_at_call 262; (with_reducible refine HW.out.mono ?_); rintro e w2 ⟨rfl,rfl⟩)
      | (go_at_call 263; (with_reducible refine (HNS.out _ HJW.out).mono ?_); rintro e w2 ⟨rfl,rfl⟩)
      | (go_at_call 264; (with_reducible refine (HNT.out _ HJW.out).mono ?_); rintro e w2 ⟨⟨s,rfl,hs,hsz⟩,hJ2⟩; have HTS := Lib.hid (HTL.out _ s hJ2 hs hsz); clear hs hsz hJ2)
      | (go_at_call 265; (with_reducible refine (HBA.out _ HJ3.out).mono ?_); rintro e w4 ⟨rfl,hJ4⟩; have HJ4 := Lib.hid hJ4; clear hJ4)
      | (go_at_call 266; (with_reducible refine (HIS.out _ HJ4.out).mono ?_); rintro e w5 ⟨rfl,rfl⟩)
      | ((with_reducible refine HTS.out.mono ?_); rintro e w3 ⟨rfl,hJ3⟩; have HJ3 := Lib.hid hJ3; clear hJ3 HTS))
     refine bodyPost_ret (v := .tuple #[]) (by simp [results,Tryz.results237,go_sem]) rfl ?_
     exact ⟨rfl,by rw [HR1.out]; exact HJ3.out⟩
    ·cases c
     ·have HR1 := Lib.hid (HV2.out rfl rfl)
      clear HV1 HV2 HV3
      go_wp2_with (first
       | (go_at_call 262; (with_reducible refine HW.out.mono ?_); rintro e w2 ⟨rfl,rfl⟩)
       | (go_at_call 263; (with_reducible refine (HNS.out _ HJW.out).mono ?_); rintro e w2 ⟨rfl,rfl⟩)
       | (go_at_call 264; (with_reducible refine (HNT.out _ HJW.out).mono ?_); rintro e w2 ⟨⟨s,rfl,hs,hsz⟩,hJ2⟩; have HTS := Lib.hid (HTL.out _ s hJ2 hs hsz); clear hs hsz hJ2)
       | (go_at_call 265; (with_reducible refine (HBA.out _ HJ3.out).mono ?_); rintro e w4 ⟨rfl,hJ4⟩; have HJ4 := Lib.hid hJ4; clear hJ4)
       | (go_at_call 266; (with_reducible refine (HIS.out _ HJ4.out).mono ?_); rintro e w5 ⟨rfl,rfl⟩)
       | ((with_reducible refine HTS.out.mono ?_); rintro e w3 ⟨rfl,hJ3⟩; have HJ3 := Lib.hid hJ3; clear hJ3 HTS))
      refine bodyPost_ret (v := .tuple #[]) (by simp [results,Tryz.results237,go_sem]) rfl ?_
      exact ⟨rfl,by rw [HR1.out]; exact HJ4.out⟩
     ·have HR1 := Lib.hid (HV3.out rfl rfl)
      clear HV1 HV2 HV3
      obtain ⟨g2,rfl⟩ : ∃ g2,gk = g2 + 1 := ⟨gk - 1,by omega⟩
      go_wp2_with (first
       | (go_at_call 262; (with_reducible refine HW.out.mono ?_); rintro e w2 ⟨rfl,rfl⟩)
       | (go_at_call 263; (with_reducible refine (HNS.out _ HJW.out).mono ?_); rintro e w2 ⟨rfl,rfl⟩)
       | (go_at_call 264; (with_reducible refine (HNT.out _ HJW.out).mono ?_); rintro e w2 ⟨⟨s,rfl,hs,hsz⟩,hJ2⟩; have HTS := Lib.hid (HTL.out _ s hJ2 hs hsz); clear hs hsz hJ2)
       | (go_at_call 265; (with_reducible refine (HBA.out _ HJ3.out).mono ?_); rintro e w4 ⟨rfl,hJ4⟩; have HJ4 := Lib.hid hJ4; clear hJ4)
       | (go_at_call 266; (with_reducible refine (HIS.out _ HJ4.out).mono ?_); rintro e w5 ⟨rfl,rfl⟩)
       | ((with_reducible refine HTS.out.mono ?_); rintro e w3 ⟨rfl,hJ3⟩; have HJ3 := Lib.hid hJ3; clear hJ3 HTS))
      go_roundg g2
      case measure => exact Nat.lt_succ_self _
      case rel =>
       have r1 := HR1.out
       have r2 := HQK.out
       have r3 := HJN.out
       have r4 := HQ1.out
       have r5 := HJK.out
       have r6 := HDK.out
       have r7 := HJL.out
       clear HW HNS HNT HTL HBA HIS
       exact ⟨q1,d ++ [x],rfl,by omega,by omega,HJ4.out,by rw [List.length_append,List.length_singleton]; omega,r1.1⟩

abbrev sV (x : Tx) : Value := .string ⟨x.toArray⟩
structure NmJ (w0 : World) (B : Nat) (d : List Tx) (W : World) : Prop where
 bel : Below w0.heap.size w0 W
 hB : w0.heap.size ≤ B
 var : ∃ vs,W.heap[B]? = some (.cells #[vs] 50 (0,0)) ∧ W.ownsRow w0.heap.size 9 1 vs d.length (d.map sV)
theorem NmJ.step {w0 W W2 : World} {B : Nat} {d : List Tx} (h : NmJ w0 B d W) (b : Below W.heap.size W W2) : NmJ w0 B d W2 := by
 obtain ⟨vs,h1,h2⟩ := h.var
 exact ⟨h.bel.trans (b.mono h.bel.size),h.hB,vs,by rw [b.block _ (lt_of_block h1)]; exact h1,ownsRow_below h2 b⟩
theorem own_not {W : World} {B b n : Nat} {vs : Value} {xs : List Value} {v : Value} (h : W.ownsRow b 9 1 vs n xs) (h1 : W.heap[B]? = some (.cells #[v] 50 (0,0))) : vs.ownBlock ≠ some B := by
 intro e
 obtain ⟨_,c,fz,h2⟩ := own_kind h B e
 rw [h1] at h2
 injection h2 with h2
 injection h2 with _ h3 _
 exact absurd h3 (by decide)
theorem grown_heap {w w' : World} {row : Option Nat} {B : Nat} (hg : w.grownBy w' row) (hB : B < w.heap.size) (hne : row ≠ some B) : w'.heap[B]? = w.heap[B]? := hg.block B hB (fun e => hne e.symm)
theorem NmJ.push {w0 W W1 : World} {B g cap : Nat} {d : List Tx} {s : ByteArray} {vs : Value} {x : Tx} (h : NmJ w0 B d W) (hv : W.heap[B]? = some (.cells #[vs] 50 (0,0))) (ho : W.ownsRow w0.heap.size 9 1 vs d.length (d.map sV)) (hs : s.toList = x)
  (hown : W1.ownsRow w0.heap.size 9 1 (.slice (some ⟨g,0,none⟩) (d.length + 1) cap) (d.length + 1) (d.map sV ++ [.string s])) (hg : W.grownBy W1 vs.ownBlock) :
  NmJ w0 B (d ++ [x]) (W1.setCell ⟨B,0,none⟩ (.slice (some ⟨g,0,none⟩) (d.length + 1) cap)) := by
 have hlt := lt_of_block hv
 have hne := own_not ho hv
 have h1 : W1.heap[B]? = some (.cells #[vs] 50 (0,0)) := by rw [grown_heap hg hlt hne]; exact hv
 refine ⟨(h.bel.grown hg h.bel.size fun k hk => (World.ownsRow.lt ho k hk).1).setCell h.hB _,h.hB,_,one_setCell h1,?_⟩
 have e1 : (d ++ [x]).map sV = d.map sV ++ [.string s] := by
  rw [List.map_append,List.map_cons,List.map_nil]
  have : (⟨x.toArray⟩ : ByteArray) = s := bytes_inj (by rw [bytes_of,hs])
  rw [← this]
 rw [List.length_append,List.length_singleton,e1]
 exact ownsRow_setCell_other hown (own_not hown h1) _
theorem info9 : (Tryz.prog.info? 9).map (fun i => (i.zero,i.size,i.bytes)) = some (some (.string ByteArray.empty),1,16) := by kernel_rfl
theorem und26 : Tryz.prog.underlying 50 = some (.slice 9) := by kernel_rfl
theorem NmJ.form {w0 W : World} {B : Nat} {d : List Tx} (h : NmJ w0 B d W) : ∃ a cap,W.heap[B]? = some (.cells #[.slice a d.length cap] 50 (0,0)) ∧ W.ownsRow w0.heap.size 9 1 (.slice a d.length cap) d.length (d.map sV) := by
 obtain ⟨vs,h1,h2⟩ := h.var
 rcases h2.2 with ⟨rfl,hz⟩ | ⟨g,cap,cur,rfl,_⟩
 ·exact ⟨none,0,by rw [hz]; exact h1,by rw [hz] at h2 ⊢; exact h2⟩
 ·exact ⟨_,_,h1,h2⟩
set_option maxHeartbeats 1000000 in
theorem readsTell (w0 : World) (B : Nat) (d : List Tx) (s : ByteArray) (x : Tx) (p : Int) (W : World) (h : NmJ w0 B d W) (hd : d.length ≤ 2000000000) (hs : s.toList = x) :
  Calls Tryz.prog 235 #[.string s,.int .i64 p,.pointer (some ⟨B,0,none⟩)] W fun e W' => e = .returned (.bool true) ∧ NmJ w0 B (d ++ [x]) W' := by
 obtain ⟨a,cap,hv,ho⟩ := h.form
 obtain ⟨i0,hi,hz0,hz1,hz2⟩ := info_parts info9
 have hb := below_new W (.cells #[.string s] 9)
 have h2 := h.step hb
 have hv2 : (W.alloc (.cells #[.string s] 9)).heap[B]? = some (.cells #[.slice a d.length cap] 50 (0,0)) := by rw [hb.block _ (lt_of_block hv)]; exact hv
 have ho2 := ownsRow_below ho hb
 have hBW : B < W.heap.size := lt_of_block hv
 have c0 := cell_of_one hv
 have f0 : ∀ W1 : World,(W.alloc (.cells #[.string s] 9)).grownBy W1 (Value.slice a d.length cap).ownBlock → W1.frozen? ⟨B,0,none⟩ = false ∧ W1.cell? ⟨B,0,none⟩ = some (.slice a d.length cap) := fun W1 hg => by
  have h1 : W1.heap[B]? = some (.cells #[.slice a d.length cap] 50 (0,0)) := by rw [grown_heap hg (lt_of_block hv2) (own_not ho2 hv2)]; exact hv2
  exact ⟨free_of_one h1,cell_of_one h1⟩
 have hbase := h2.bel.size
 have HH := Lib.hid h2
 have HV := Lib.hid hv2
 have HO := Lib.hid ho2
 have HF := Lib.hid f0
 clear h h2 hv hv2 ho ho2 hb f0
 go_enter Tryz.func235,Tryz.ntmps235
 go_wp2_with (at_builtin; refine wpList_append_lies _ rfl _ _ 50 rfl w0.heap.size 9 i0 (.string ByteArray.empty) 1 16 und26 hi hz0 hz1 hz2 rfl (by decide) _ d.length (d.map sV) rfl HO.out ⟨W.heap.size,0,none⟩ 1 1 [.string s] rfl rfl ?c1 ?c2 (by decide) ?c3 ?c4 ?c5 _ rfl ?_)
 case c1 =>
  intro j u hj
  match j,hj with
  | 0,hj => simp at hj; subst hj; simp [Addr.add]
 case c2 => intro u hu; simp at hu; subst hu; rfl
 case c3 => unfold maxLen; omega
 case c4 => omega
 case c5 => exact hbase
 intro g cap2 W1 hown hgrow hat hlt
 obtain ⟨f1,c1⟩ := HF.out W1 hgrow
 go_wp2
 go_ret
 exact ⟨rfl,NmJ.push HH.out HV.out HO.out hs hown hgrow⟩

theorem word1 (v : Value) (l : List Tok) (i : Nat) (s : ByteArray) (x : Tx) (w : World) (h : TR w v l) (hl : l.length ≤ 1099511627776) (hs : s.toList = x) (W : World) (b : Nat) (hW : Below w.heap.size w W) (hb : W.heap.size = b) :
  Calls Tryz.prog 262 #[v,.int .i64 (i : Int),.slice (some ⟨b,0,none⟩) 1 1] (W.alloc (.cells #[.string s] 9)) fun e w' => e = .returned (.bool (isTok 1 [x] l i)) ∧ w' = W.alloc (.cells #[.string s] 9) := by
 subst hb hs; exact isWord1 v l i s W (h.below hW) hl
theorem word2 (v : Value) (l : List Tok) (i : Nat) (s t : ByteArray) (x y : Tx) (w : World) (h : TR w v l) (hl : l.length ≤ 1099511627776) (hs : s.toList = x) (ht : t.toList = y) (W : World) (b : Nat) (hW : Below w.heap.size w W) (hb : W.heap.size = b) :
  Calls Tryz.prog 262 #[v,.int .i64 (i : Int),.slice (some ⟨b,0,none⟩) 2 2] (W.alloc (.cells #[.string s,.string t] 9)) fun e w' => e = .returned (.bool (isTok 1 [x,y] l i)) ∧ w' = W.alloc (.cells #[.string s,.string t] 9) := by
 subst hb hs ht; exact isWord2 v l i s t W (h.below hW) hl
set_option maxHeartbeats 2000000 in
theorem readsAll_any (v : Value) (l : List Tok) (i : Nat) (w : World) (h : TR w v l) (hl : l.length ≤ 1000000) (hi : i ≤ 1000000) :
  Calls Tryz.prog 236 #[v,.int .i64 (i : Int)] w fun e w' => e = .returned (.bool (readsB l i)) ∧ Below w.heap.size w w' := by
 obtain ⟨R,hR⟩ : ∃ R,readsB l i = R := ⟨_,rfl⟩
 rw [hR]
 have h1 := word2 v l i ⟨#[106,111,105,110]⟩ ⟨#[117,115,105,110,103]⟩ w_join w_using w h (by omega) (by rw [Lib.toList_data]; rfl) (by rw [Lib.toList_data]; rfl)
 have h2 := word1 v l i ⟨#[102,114,111,109]⟩ w_from w h (by omega) (by rw [Lib.toList_data]; rfl)
 have h3 := word1 v l (i - 1) ⟨#[100,101,108,101,116,101]⟩ w_delete w h (by omega) (by rw [Lib.toList_data]; rfl)
 have h4 := word1 v l i ⟨#[116,97,98,108,101]⟩ w_table w h (by omega) (by rw [Lib.toList_data]; rfl)
 have hn := fun ws W => isWord_neg v ws W
 unfold readsB at hR
 generalize isTok 1 [w_join,w_using] l i = b1 at *
 generalize isTok 1 [w_from] l i = b2 at *
 generalize isTok 1 [w_delete] l (i - 1) = b3 at *
 generalize isTok 1 [w_table] l i = b4 at *
 have B1 : Below w.heap.size w (w.alloc (.cells #[.string ⟨#[106,111,105,110]⟩,.string ⟨#[117,115,105,110,103]⟩] 9)) := below_new _ _
 have B2 : Below w.heap.size w ((w.alloc (.cells #[.string ⟨#[106,111,105,110]⟩,.string ⟨#[117,115,105,110,103]⟩] 9)).alloc (.cells #[.string ⟨#[102,114,111,109]⟩] 9)) := B1.alloc (by simp) _
 have B3 : Below w.heap.size w (((w.alloc (.cells #[.string ⟨#[106,111,105,110]⟩,.string ⟨#[117,115,105,110,103]⟩] 9)).alloc (.cells #[.string ⟨#[102,114,111,109]⟩] 9)).alloc (.cells #[.string ⟨#[100,101,108,101,116,101]⟩] 9)) := B2.alloc (by simp; omega) _
 have B4 : Below w.heap.size w (((w.alloc (.cells #[.string ⟨#[106,111,105,110]⟩,.string ⟨#[117,115,105,110,103]⟩] 9)).alloc (.cells #[.string ⟨#[102,114,111,109]⟩] 9)).alloc (.cells #[.string ⟨#[116,97,98,108,101]⟩] 9)) := B2.alloc (by simp; omega) _
 have K1 := Lib.hid (h1 w w.heap.size (Below.refl _ _) rfl)
 have K2 := Lib.hid (h2 _ (w.heap.size + 1) B1 (by simp))
 have K3 := Lib.hid (h3 _ (w.heap.size + 2) B2 (by simp))
 have K4 := Lib.hid (h4 _ (w.heap.size + 2) B2 (by simp))
 have HN := Lib.hid hn
 have HB1 := Lib.hid B1
 have HB2 := Lib.hid B2
 have HB3 := Lib.hid B3
 have HB4 := Lib.hid B4
 clear h1 h2 h3 h4 hn h B1 B2 B3 B4
 cases i with
 | zero =>
  have wm : IntKind.i64.wrap ((0 : Int) - 1) = -1 := by decide
  simp only [Int.natCast_zero] at K1 K2 K4 ⊢
  cases b1 <;> cases b2 <;> cases b4 <;>
  ·simp at hR
   subst hR
   clear K3
   go_enter Tryz.func236,Tryz.ntmps236
   go_wp2_with (first
    | (go_at_call 262; (with_reducible refine K1.out.mono ?_); rintro e w2 ⟨rfl,rfl⟩)
    | (go_at_call 262; (with_reducible refine K2.out.mono ?_); rintro e w2 ⟨rfl,rfl⟩)
    | (go_at_call 262; (with_reducible refine K4.out.mono ?_); rintro e w2 ⟨rfl,rfl⟩)
    | (go_at_call 262; (with_reducible refine (HN.out _ _).mono ?_); rintro e w2 ⟨rfl,rfl⟩))
   go_ret
   exact ⟨rfl,by first | exact HB1.out | exact HB2.out | exact HB3.out | exact HB4.out⟩
 | succ k =>
  have wm : IntKind.i64.wrap (((k + 1 : Nat) : Int) - 1) = (k : Int) := by rw [show ((k + 1 : Nat) : Int) - 1 = (k : Int) by omega]; exact wrap_nat (by omega)
  have ne : (((k + 1 : Nat) : Int) == 0) = false := by rw [beq_eq_false_iff_ne]; omega
  rw [Nat.add_sub_cancel] at K3
  obtain ⟨i1,hi1⟩ : ∃ i1,k + 1 = i1 := ⟨_,rfl⟩
  simp only [hi1] at wm ne K1 K2 K3 K4 ⊢
  have hz : (i1 == 0) = false := by rw [beq_eq_false_iff_ne]; omega
  have hz2 : (i1 != 0) = true := by rw [bne_iff_ne]; omega
  rw [hi1] at hR
  rw [hz,hz2] at hR
  clear hi1 hz hz2 hi
  cases b1 <;> cases b2 <;> cases b3 <;>
  ·simp only [Bool.false_and,Bool.true_and,Bool.or_false,Bool.false_or,Bool.not_false,Bool.not_true,Bool.true_or,Bool.or_true,Bool.and_false] at hR
   subst hR
   clear K4
   go_enter Tryz.func236,Tryz.ntmps236
   go_wp2_with (first
    | (go_at_call 262; (with_reducible refine K1.out.mono ?_); rintro e w2 ⟨rfl,rfl⟩)
    | (go_at_call 262; (with_reducible refine K2.out.mono ?_); rintro e w2 ⟨rfl,rfl⟩)
    | (go_at_call 262; (with_reducible refine K3.out.mono ?_); rintro e w2 ⟨rfl,rfl⟩))
   go_ret
   exact ⟨rfl,by first | exact HB1.out | exact HB2.out | exact HB3.out | exact HB4.out⟩
end Go.Proofs.YtjmmninopagpjaaGreatDoor
namespace Go.Proofs.YtjmmninopagpjaaGreatDoor
open Go.ChangeShapes Go.WideShapes Go.ChangeAt Go.RowKit Go.Maps
set_option maxRecDepth 100000
set_option linter.unusedVariables false
set_option linter.unusedSimpArgs false

theorem ownsRow_base {w : World} {B B2 n z : Nat} {e : TypeId} {v : Value} {xs : List Value} (h : w.ownsRow B e z v n xs) (hB : B2 ≤ B) : w.ownsRow B2 e z v n xs := by
 refine ⟨h.1,?_⟩
 rcases h.2 with hn | ⟨g,cap,cur,e1,hb,r⟩
 ·exact .inl hn
 ·exact .inr ⟨g,cap,cur,e1,Nat.le_trans hB hb,r⟩
def MapI (W : World) (M n : Nat) (p : Tx → Bool) : Prop := ∃ D : DataW Unit,W.ownsMap Tryz.prog 9 (unitElem (H := Unit)) M n D ∧ ∀ x,Maps.has D (Lit.string x) = p x
theorem lawS : Keyed Tryz.prog 9 := string_keyed Tryz.underlying9
theorem undM : Tryz.prog.underlying 297 = some (.map 9 165) := by kernel_rfl
theorem zeroU (w : World) : (zeroValue 165).run Tryz.prog w = .ok (.agg #[]) w := by kernel_rfl
theorem keyS (x : Tx) (h : x.length ≤ 2000000001) : keyOf Tryz.prog 9 (sV x) = some (Lit.string x) := by
 have := Go.WideMaps.keyOf_string_mk (P := Tryz.prog) Tryz.underlying9 (s := ⟨x.toArray⟩) (by show x.toArray.size ≤ maxLen; unfold maxLen; simp; omega)
 exact this
theorem MapI.made (w : World) : MapI (w.alloc (.map #[] 0)) w.heap.size 0 (fun _ => false) := ⟨.map [],World.ownsMap_made _ _ _ _,fun _ => rfl⟩
theorem map_block {W : World} {M n : Nat} {D : DataW Unit} (h : W.ownsMap Tryz.prog 9 (unitElem (H := Unit)) M n D) : ∃ es c,W.heap[M]? = some (.map es c) := by
 obtain ⟨es,c,h1,_⟩ := h
 exact ⟨es,c,h1⟩
theorem own_nomap {W : World} {M n b m : Nat} {D : DataW Unit} {v : Value} {xs : List Value} {e : TypeId} {z : Nat} (h : W.ownsMap Tryz.prog 9 (unitElem (H := Unit)) M n D) (h2 : W.ownsRow b e z v m xs) : v.ownBlock ≠ some M := by
 intro e
 obtain ⟨_,c,fz,h3⟩ := own_kind h2 M e
 obtain ⟨es,c,h4⟩ := map_block h
 rw [h3] at h4
 injection h4 with h4
 cases h4
theorem has_put {D : DataW Unit} (hD : IsMap D) (x y : Tx) (u : DataW Unit) : Maps.has (D.put (Lit.string x) u) (Lit.string y) = (y == x || Maps.has D (Lit.string y)) := by
 by_cases h : y = x
 ·subst h; rw [has_put_same hD (k := Lit.string y) (by exact trivial)]; simp
 ·rw [has_put_other (by intro e; cases e; exact h rfl)]
  have : (y == x) = false := by rw [beq_eq_false_iff_ne]; exact h
  rw [this,Bool.false_or]
theorem has_del {D : DataW Unit} (x y : Tx) : Maps.has (D.del (Lit.string x)) (Lit.string y) = (y != x && Maps.has D (Lit.string y)) := by
 by_cases h : y = x
 ·subst h; rw [has_del_same]; simp
 ·rw [has_del_other (by intro e; cases e; exact h rfl)]
  have : (y != x) = true := by rw [bne_iff_ne]; exact h
  rw [this,Bool.true_and]
structure Told (ss T : List Tx) (k : Nat) : Prop where
 rises : Rises T
 mem : ∀ s,s ∈ T ↔ s ∈ ss.take k
theorem Told.start (ss : List Tx) : Told ss [] 0 := ⟨List.Pairwise.nil,fun s => by simp⟩
theorem take_mem {ss : List Tx} {k : Nat} (hk : k < ss.length) (s : Tx) : s ∈ ss.take (k + 1) ↔ s ∈ ss.take k ∨ s = ss[k] := by
 rw [List.take_succ_eq_append_getElem hk,List.mem_append,List.mem_singleton]
theorem Told.old {ss T : List Tx} {k : Nat} (h : Told ss T k) (hk : k < ss.length) (hm : ss[k] ∈ ss.take k) : Told ss T (k + 1) :=
 ⟨h.rises,fun s => by
  rw [h.mem,take_mem hk]
  constructor
  ·exact .inl
  ·rintro (e | e)
   ·exact e
   ·rw [e]; exact hm⟩
theorem Told.new {ss T : List Tx} {k : Nat} (h : Told ss T k) (hs : ss.Pairwise (fun a b => a ≤ b)) (hk : k < ss.length) (hm : ss[k] ∉ ss.take k) : Told ss (T ++ [ss[k]]) (k + 1) := by
 refine ⟨List.pairwise_append.2 ⟨h.rises,List.pairwise_singleton ..,fun a ha b hb => ?_⟩,fun s => by rw [take_mem hk,List.mem_append,List.mem_singleton,h.mem]⟩
 rw [List.mem_singleton.1 hb]
 have ha2 := (h.mem a).1 ha
 have hne : a ≠ ss[k] := fun e => hm (by rw [← e]; exact ha2)
 obtain ⟨i,hi,e⟩ := List.mem_iff_getElem.1 ha2
 have hik : i < k := by rw [List.length_take] at hi; omega
 rw [List.getElem_take] at e
 have hle : ss[i] ≤ ss[k] := (List.pairwise_iff_getElem.1 hs) i k (by omega) hk hik
 rw [e] at hle
 rcases tx_tri a ss[k] with c | c | c
 ·exact c
 ·exact absurd c hne
 ·exact absurd c (List.not_lt.2 hle)
theorem Told.done {ss T d : List Tx} (h : Told ss T ss.length) (hp : ss.Perm d) : T = riseL d :=
 rise_is h.rises fun s => by rw [h.mem,List.take_length]; exact hp.mem_iff
theorem sorted_is (d : List Tx) : (d.mergeSort fun x y => decide (x ≤ y)).Pairwise (fun a b => a ≤ b) ∧ (d.mergeSort fun x y => decide (x ≤ y)).Perm d := by
 refine ⟨?_,List.mergeSort_perm _ _⟩
 have := List.pairwise_mergeSort (le := fun (x y : Tx) => decide (x ≤ y)) (fun a b c h1 h2 => by
  simp only [decide_eq_true_eq] at h1 h2 ⊢; exact List.le_trans h1 h2) (fun a b => by
  simp only [Bool.or_eq_true,decide_eq_true_eq]; exact List.le_total a b) d
 exact this.imp fun h => by simpa using h
end Go.Proofs.YtjmmninopagpjaaGreatDoor
