/- Dwd -/
import Derived.Test.YtgdabkpahmlkpaaGreatDoorG15
import Derived.Test.YtgdabkpahmlkpaaGreatDoorG17
import Derived.Test.YtgdabkpahmlkpaaGreatDoorG18
import Derived.Test.YtgdabkpahmlkpaaGreatDoorG19
set_option linter.unusedSimpArgs false
set_option linter.unusedVariables false
namespace Go.Proofs.YtgdabkpahmlkpaaGreatDoor
open Go.ChangeShapes Go.WideShapes Go.ChangeAt Go.RowKit
set_option maxRecDepth 100000
set_option linter.unusedVariables false
set_option linter.unusedSimpArgs false

theorem do_told (s : List Tb) (kd : Int) (n : ByteArray) (K V : Int) (kb : Bool) (hp : StateP s) : (doS s kd n K V kb).2.1.length ≤ 1000000 := by
 unfold doS
 split
 ·split
  ·simp
  ·split <;> simp
 ·split
  ·simp
  ·split
   ·rename_i t ht
    split
    ·have h1 := (hp.each t (List.mem_of_getElem? ht)).2.2.len
     have h2 := List.length_filter_le (meantB kb K) t.2
     show (getR kb K t.2).length ≤ 1000000
     unfold getR; omega
    ·simp
   ·simp
structure Spv (B2 : Nat) (vs vr : Value) (n nr : Nat) (w2 w' : World) (X : List Tv) : Prop where
 fs : FS B2 w' vs X
 len : X.length = n
 few : ∀ t ∈ X,t.2.2.length ≤ 1000000
 row : ∃ xs,w'.ownsRow B2 39 2 vr nr xs
 bel : Below B2 w2 w'
theorem any_row {B z n b j : Nat} {e : TypeId} {w : World} {v u : Value} (h : ∃ xs,w.ownsRow B e z v n xs) : ∃ xs,(w.setCell ⟨b,j,none⟩ u).ownsRow B e z v n xs := by
 obtain ⟨xs,h⟩ := h
 rcases h.2 with ⟨rfl,h0⟩ | ⟨g,cap,cur,rfl,hr⟩
 ·exact ⟨xs,h.1,.inl ⟨rfl,h0⟩⟩
 ·by_cases hb : b = g
  ·subst hb; exact ⟨_,(World.ownsRow.stored h j u).1⟩
  ·exact ⟨xs,own_keep h fun q hq => Below.heap_setCell _ _ _ _ (fun e => by
    have : g = q := by simpa [Value.ownBlock] using hq
    exact hb (by rw [this,e]))⟩
theorem Spv.row_ {B2 n nr : Nat} {vs vr : Value} {w2 w' : World} {X : List Tv} (h : Spv B2 vs vr n nr w2 w' X) (i : Nat) (nm : ByteArray) (b c : Nat) (l : List Rw)
  (hi : X[i]? = some (nm,.slice (some ⟨b,0,none⟩) l.length c,l)) (k : Nat) (r : Rw) (hk : l[k]? = some r) (z : Int) :
  Spv B2 vs vr n nr w2 (w'.setCell ⟨b,k * 2 + 1,none⟩ (.int .i64 z)) (X.set i (nm,.slice (some ⟨b,0,none⟩) l.length c,l.set k (r.1,z))) := by
 have hm := List.mem_of_getElem? hi
 have hor : OR B2 w' (.slice (some ⟨b,0,none⟩) l.length c) l := h.fs.rows _ hm
 have hB := (hor.lt b rfl).1
 have hv := (OR.setV hor k r z hk).1
 have e : (l.set k (r.1,z)).length = l.length := List.length_set ..
 have f := FS.modr h.fs i _ hi (l.set k (r.1,z)) (w1 := w'.setCell ⟨b,k * 2 + 1,none⟩ (.int .i64 z)) hv (fun q _ hq => Below.heap_setCell _ _ _ _ (fun e => hq (by rw [e]; rfl)))
 refine ⟨f,by rw [List.length_set]; exact h.len,fun q hq => ?_,any_row h.row,h.bel.setCell (p := ⟨b,k * 2 + 1,none⟩) hB _⟩
 rcases mem_set hq with rfl | hq
 ·show (l.set k (r.1,z)).length ≤ _
  rw [e]; exact h.few _ hm
 ·exact h.few q hq
set_option maxHeartbeats 8000000 in
theorem dw_light (v : Value) (s : List Tb) (kd : Int) (n : ByteArray) (K V : Int) (kb : Bool) (m : Int) (w : World) (hm : Wq m w) (h : SR w v s) (hK : i64B K) (hV : i64B V) (hl : lightS s = false) :
  Calls Tryz.prog 3 #[v,.agg #[.int .i64 kd,.string n,.int .i64 K,.int .i64 V,.bool kb]] w fun e w' => e = .returned (.bool true) ∧ Below w.heap.size w w' := by
 have HM0 := Lib.hid hm
 have HB0 := Lib.hid (Below.refl w.heap.size w)
 have HSR := Lib.hid h
 obtain ⟨va0,vc0,rfl⟩ := h.form
 clear hm h
 go_enter Tryz.func3,Tryz.ntmps3
 go_wp2_with fail
 obtain ⟨W0,hW0⟩ : ∃ W0,w.alloc (.cells #[.int .i64 kd,.string n,.int .i64 K,.int .i64 V,.bool kb] 24) = W0 := ⟨_,rfl⟩
 have hb1 : Below w.heap.size w W0 := by rw [← hW0]; exact (Below.refl _ _).alloc (Nat.le_refl _) _
 have HB1 := Lib.hid (HB0.out.trans (hb1.mono HB0.out.size))
 have HM1 := Lib.hid (HM0.out.below hb1)
 have HSR := Lib.hid (HSR.out.below hb1)
 have hk0 : Blk W0 w.heap.size 24 (cmCells (kd,n,K,V,kb)) := by rw [← hW0]; exact Blk.new _ _ _
 have HK := Lib.hid hk0
 rw [hW0]
 clear hW0 hk0
 clear hb1
 refine (light8b _ s false hl _ HSR.out).mono ?_
 rintro e w2 ⟨rfl,hb2⟩
 have HB2 := Lib.hid (HB1.out.trans (hb2.mono HB1.out.size))
 have HM2 := Lib.hid (HM1.out.below hb2)
 have HSR := Lib.hid (HSR.out.below hb2)
 have HK := Lib.hid (HK.out.below hb2 (Blk.lt HK.out))
 clear hb2
 go_wp2_with fail
 refine (known8_any m _ HM2.out).mono ?_
 rintro e w3 ⟨rfl,hb3⟩
 have HB3 := Lib.hid (HB2.out.trans (hb3.mono HB2.out.size))
 have HM3 := Lib.hid (HM2.out.below hb3)
 have HSR := Lib.hid (HSR.out.below hb3)
 have HK := Lib.hid (HK.out.below hb3 (Blk.lt HK.out))
 clear hb3
 go_wp2
 go_ret
 exact ⟨rfl,HB3.out⟩
set_option maxHeartbeats 8000000 in
theorem dw_name (v : Value) (s : List Tb) (kd : Int) (n : ByteArray) (K V : Int) (kb : Bool) (m : Int) (w : World) (hm : Wq m w) (h : SR w v s) (hK : i64B K) (hV : i64B V) (hl : lightS s = true) (hn : 60 < n.size) :
  Calls Tryz.prog 3 #[v,.agg #[.int .i64 kd,.string n,.int .i64 K,.int .i64 V,.bool kb]] w fun e w' => e = .returned (.bool true) ∧ Below w.heap.size w w' := by
 have ln : (60 : Int) < (n.size : Int) := by omega
 have HM0 := Lib.hid hm
 have HB0 := Lib.hid (Below.refl w.heap.size w)
 have HSR := Lib.hid h
 obtain ⟨va0,vc0,rfl⟩ := h.form
 clear hm h hn
 go_enter Tryz.func3,Tryz.ntmps3
 go_wp2_with fail
 obtain ⟨W0,hW0⟩ : ∃ W0,w.alloc (.cells #[.int .i64 kd,.string n,.int .i64 K,.int .i64 V,.bool kb] 24) = W0 := ⟨_,rfl⟩
 have hb1 : Below w.heap.size w W0 := by rw [← hW0]; exact (Below.refl _ _).alloc (Nat.le_refl _) _
 have HB1 := Lib.hid (HB0.out.trans (hb1.mono HB0.out.size))
 have HM1 := Lib.hid (HM0.out.below hb1)
 have HSR := Lib.hid (HSR.out.below hb1)
 have hk0 : Blk W0 w.heap.size 24 (cmCells (kd,n,K,V,kb)) := by rw [← hW0]; exact Blk.new _ _ _
 have HK := Lib.hid hk0
 rw [hW0]
 clear hW0 hk0
 clear hb1
 refine (light8b _ s true hl _ HSR.out).mono ?_
 rintro e w2 ⟨rfl,hb2⟩
 have HB2 := Lib.hid (HB1.out.trans (hb2.mono HB1.out.size))
 have HM2 := Lib.hid (HM1.out.below hb2)
 have HSR := Lib.hid (HSR.out.below hb2)
 have HK := Lib.hid (HK.out.below hb2 (Blk.lt HK.out))
 clear hb2
 obtain ⟨y0,y1,y2,y3,y4⟩ := cm_results (kd,n,K,V,kb) HK.out
 go_wp2_with fail
 refine (known8_any m _ HM2.out).mono ?_
 rintro e w3 ⟨rfl,hb3⟩
 have HB3 := Lib.hid (HB2.out.trans (hb3.mono HB2.out.size))
 have HM3 := Lib.hid (HM2.out.below hb3)
 have HSR := Lib.hid (HSR.out.below hb3)
 have HK := Lib.hid (HK.out.below hb3 (Blk.lt HK.out))
 clear hb3
 go_wp2
 go_ret
 exact ⟨rfl,HB3.out⟩
theorem rright8b (v : Value) (s : List Tb) (b : Bool) (hb : rightL s = b) (hf : FewS s) (w : World) (h : SR w v s) :
  Calls Tryz.prog 12 #[v] w fun e w' => e = .returned (.bool b) ∧ Below w.heap.size w w' := by
 have := rright_any v s w h hf
 rw [hb] at this
 exact this
theorem find8b (v : Value) (s : List Tb) (n : ByteArray) (F : Int) (hF : findN s n 0 = F) (hs : s.length ≤ 1000000) (w : World) (h : SR w v s) :
  Calls Tryz.prog 13 #[v,.string n] w fun e w' => e = .returned (.int .i64 F) ∧ Below w.heap.size w w' := by
 have := find_any v s n w h hs
 rw [hF] at this
 exact this
theorem rfind8b (v : Value) (s : List Tb) (n : ByteArray) (F : Int) (hF : findN s n 0 = F) (hs : s.length ≤ 1000000) (w : World) (h : SR w v s) :
  Calls Tryz.prog 14 #[v,.string n] w fun e w' => e = .returned (.int .i64 F) ∧ Below w.heap.size w w' := by
 have := rfind_any v s n w h hs
 rw [hF] at this
 exact this
theorem rdo8b (D : List Tb × List Rw × Int) (v : Value) (s : List Tb) (kd : Int) (n : ByteArray) (K V : Int) (kb : Bool) (hD : doS s kd n K V kb = D) (hp : StateP s) (hn : n.size ≤ 1000000) (w : World) (h : SR w v s) :
  Calls Tryz.prog 18 #[v,.agg #[.int .i64 kd,.string n,.int .i64 K,.int .i64 V,.bool kb]] w (DoR D w) := rdo_any v s kd n K V kb D hD hp hn w h
def DoV (D : List Tb × List Rw × Int) (w : World) (e : Ending) (w' : World) : Prop := ∃ vs x vr,e = .returned (.tuple #[vs,vr,.int .i64 D.2.2]) ∧ FS w.heap.size w' vs x ∧ tbs x = D.1 ∧ OR w.heap.size w' vr D.2.1 ∧ Below w.heap.size w w'
theorem do8v (D : List Tb × List Rw × Int) (v : Value) (s : List Tb) (kd : Int) (n : ByteArray) (K V : Int) (kb : Bool) (hD : doS s kd n K V kb = D) (hp : StateP s) (hk : 1 ≤ kd ∧ kd ≤ 5) (hn : n.size ≤ 1000000) (w : World) (h : SR w v s) :
  Calls Tryz.prog 17 #[v,.agg #[.int .i64 kd,.string n,.int .i64 K,.int .i64 V,.bool kb]] w (DoV D w) := by
 refine (stDo_any v s kd n K V kb w h hp.ok hk hn).mono ?_
 rintro e w' ⟨vs,x,vr,k,h1,h2,h3,h4,h5,h6⟩
 rw [hD] at h3 h5 h6
 exact ⟨vs,x,vr,by rw [h1,h6],h2,h5,h3,h4⟩
theorem rsame8b (v1 v2 : Value) (s : List Tb) (hf : FewR s) (w : World) (h1 : SR w v1 s) (h2 : SR w v2 s) : Calls Tryz.prog 19 #[v1,v2] w fun e w' => e = .returned (.bool true) ∧ Below w.heap.size w w' := by
 refine (rsame_any v1 v2 s s w h1 h2 hf).mono ?_
 rintro e w' ⟨he,n,rfl⟩
 rw [decide_eq_true rfl] at he
 exact ⟨he,belN _ _ _⟩
theorem rrows8b (v1 v2 : Value) (l : List Rw) (w : World) (h1 : RR w v1 l) (h2 : RR w v2 l) (hl : l.length ≤ 1000000) : Calls Tryz.prog 20 #[v1,v2] w fun e w' => e = .returned (.bool true) ∧ Below w.heap.size w w' := by
 refine (rrows_any v1 v2 l l w h1 h2 hl).mono ?_
 rintro e w' ⟨he,n,rfl⟩
 rw [decide_eq_true rfl] at he
 exact ⟨he,belN _ _ _⟩
theorem text8b (kd : Int) (n : ByteArray) (K V : Int) (kb : Bool) (T : ByteArray) (hT : bb (textC (kd,n,K,V,kb)) = T) (w : World) (hn : n.size ≤ 1000000) :
  Calls Tryz.prog 15 #[.agg #[.int .i64 kd,.string n,.int .i64 K,.int .i64 V,.bool kb]] w fun e w' => e = .returned (.string T) ∧ Below w.heap.size w w' := by
 subst hT
 rw [text_same]
 exact doctext_any kd n K V kb w hn
set_option maxHeartbeats 8000000 in
theorem dw_right (v : Value) (s : List Tb) (kd : Int) (n : ByteArray) (K V : Int) (kb : Bool) (m : Int) (w : World) (hm : Wq m w) (h : SR w v s) (hK : i64B K) (hV : i64B V) (hl : lightS s = true) (hn : n.size ≤ 60) (hr : rightL s = false) :
  Calls Tryz.prog 3 #[v,.agg #[.int .i64 kd,.string n,.int .i64 K,.int .i64 V,.bool kb]] w fun e w' => e = .returned (.bool true) ∧ Below w.heap.size w w' := by
 have ln : ¬ ((60 : Int) < (n.size : Int)) := by omega
 have HFW := Lib.hid (light_few hl)
 obtain ⟨R,hR⟩ : ∃ R,rightL s = R := ⟨_,rfl⟩
 obtain ⟨F,hF⟩ : ∃ F,findN s n 0 = F := ⟨_,rfl⟩
 have HRR := Lib.hid hR
 have HFF := Lib.hid hF
 have nR : (R != R) = false := by cases R <;> rfl
 have nF : (F != F) = false := by rw [bne_eq_false_iff_eq]
 clear hF
 rw [hr] at hR
 subst hR
 have HM0 := Lib.hid hm
 have HB0 := Lib.hid (Below.refl w.heap.size w)
 have HSR := Lib.hid h
 obtain ⟨va0,vc0,rfl⟩ := h.form
 clear hm h hn
 go_enter Tryz.func3,Tryz.ntmps3
 go_wp2_with fail
 obtain ⟨W0,hW0⟩ : ∃ W0,w.alloc (.cells #[.int .i64 kd,.string n,.int .i64 K,.int .i64 V,.bool kb] 24) = W0 := ⟨_,rfl⟩
 have hb1 : Below w.heap.size w W0 := by rw [← hW0]; exact (Below.refl _ _).alloc (Nat.le_refl _) _
 have HB1 := Lib.hid (HB0.out.trans (hb1.mono HB0.out.size))
 have HM1 := Lib.hid (HM0.out.below hb1)
 have HSR := Lib.hid (HSR.out.below hb1)
 have hk0 : Blk W0 w.heap.size 24 (cmCells (kd,n,K,V,kb)) := by rw [← hW0]; exact Blk.new _ _ _
 have HK := Lib.hid hk0
 rw [hW0]
 clear hW0 hk0
 clear hb1
 refine (light8b _ s true hl _ HSR.out).mono ?_
 rintro e w2 ⟨rfl,hb2⟩
 have HB2 := Lib.hid (HB1.out.trans (hb2.mono HB1.out.size))
 have HM2 := Lib.hid (HM1.out.below hb2)
 have HSR := Lib.hid (HSR.out.below hb2)
 have HK := Lib.hid (HK.out.below hb2 (Blk.lt HK.out))
 clear hb2
 obtain ⟨y0,y1,y2,y3,y4⟩ := cm_results (kd,n,K,V,kb) HK.out
 go_wp2_with fail
 have HKR := Lib.hid (fun (W : World) (hW : Below w2.heap.size w2 W) => HK.out.below hW (Blk.lt HK.out))
 have HRI := Lib.hid (fun (W : World) (hW : Below w2.heap.size w2 W) => right8b _ s false HRR.out W (HSR.out.below hW))
 have HRJ := Lib.hid (fun (W : World) (hW : Below w2.heap.size w2 W) => rright8b _ s false HRR.out HFW.out W (HSR.out.below hW))
 have HFI := Lib.hid (fun (W : World) (hW : Below w2.heap.size w2 W) => find8b _ s n F HFF.out HFW.out.1 W (HSR.out.below hW))
 have HFJ := Lib.hid (fun (W : World) (hW : Below w2.heap.size w2 W) => rfind8b _ s n F HFF.out HFW.out.1 W (HSR.out.below hW))
 refine wp_region_held_drew (S := (fun w' => Below w2.heap.size w2 w')) (by kernel_rfl) ?_ (fun hS => ?_)
 ·exact (Below.refl _ _).drew
 try dsimp only at hS
 refine tkY 0 ?_ rfl hS ?_ ?_;rotate_left
 ·intro wz hSz;go_simp;all_goals with_reducible rfl
 (try simp only [Act.put,pu]);refine tkY 2 ?_ rfl hS ?_ ?_;rotate_left
 ·intro wz hSz;go_simp;all_goals with_reducible rfl
 try simp only [Act.put,pu]
 refine wpAnyH_ready (rs := [1]) (by kernel_rfl) (by simp) (AllReadyH.cons rfl (fun K hK => ?_) AllReadyH.nil)
 go_simp
 (go_at_call 11; refine (HRI.out _ hS).mono ?_; rintro e wz ⟨rfl,hbz⟩)
 refine hK.out _ _ ?_ (fun hSn => ?_)
 ·exact hS.trans (hbz.mono hS.size)
 clear hK K hS hbz
 have hS := hSn
 clear hSn
 try dsimp only at hS
 try simp only [Act.put,pu]
 refine wpAnyH_ready (rs := [3]) (by kernel_rfl) (by simp) (AllReadyH.cons rfl (fun K hK => ?_) AllReadyH.nil)
 go_simp
 (go_at_call 12; refine (HRJ.out _ hS).mono ?_; rintro e wz ⟨rfl,hbz⟩)
 refine hK.out _ _ ?_ (fun hSn => ?_)
 ·exact hS.trans (hbz.mono hS.size)
 clear hK K hS hbz
 have hS := hSn
 clear hSn
 try dsimp only at hS
 (try simp only [Act.put,pu]);refine tkY 4 ?_ rfl hS ?_ ?_;rotate_left
 ·intro wz hSz;go_simp;all_goals with_reducible rfl
 (try simp only [Act.put,pu]);refine tkY 5 ?_ rfl hS ?_ ?_;rotate_left
 ·intro wz hSz;go_simp;all_goals with_reducible rfl
 (try simp only [Act.put,pu]);refine tkY 6 ?_ rfl hS ?_ ?_;rotate_left
 ·intro wz hSz;go_simp;all_goals with_reducible rfl
 (try simp only [Act.put,pu]);refine tkY 7 ?_ rfl hS ?_ ?_;rotate_left
 ·intro wz hSz;go_simp;all_goals with_reducible rfl
 (try simp only [Act.put,pu]);refine tkY 8 ?_ rfl hS ?_ ?_;rotate_left
 ·intro wz hSz;have x1z : wz.cell? ⟨w.heap.size,1,none⟩ = some (.string n) := (HKR.out wz hSz).cell 1;go_simp;all_goals with_reducible rfl
 (try simp only [Act.put,pu]);refine tkY 10 ?_ rfl hS ?_ ?_;rotate_left
 ·intro wz hSz;go_simp;all_goals with_reducible rfl
 (try simp only [Act.put,pu]);refine tkY 11 ?_ rfl hS ?_ ?_;rotate_left
 ·intro wz hSz;go_simp;all_goals with_reducible rfl
 (try simp only [Act.put,pu]);refine tkY 12 ?_ rfl hS ?_ ?_;rotate_left
 ·intro wz hSz;have x1z : wz.cell? ⟨w.heap.size,1,none⟩ = some (.string n) := (HKR.out wz hSz).cell 1;go_simp;all_goals with_reducible rfl
 try simp only [Act.put,pu]
 refine wpAnyH_ready (rs := [9]) (by kernel_rfl) (by simp) (AllReadyH.cons rfl (fun K hK => ?_) AllReadyH.nil)
 go_simp
 (go_at_call 13; refine (HFI.out _ hS).mono ?_; rintro e wz ⟨rfl,hbz⟩)
 refine hK.out _ _ ?_ (fun hSn => ?_)
 ·exact hS.trans (hbz.mono hS.size)
 clear hK K hS hbz
 have hS := hSn
 clear hSn
 try dsimp only at hS
 try simp only [Act.put,pu]
 refine wpAnyH_ready (rs := [13]) (by kernel_rfl) (by simp) (AllReadyH.cons rfl (fun K hK => ?_) AllReadyH.nil)
 go_simp
 (go_at_call 14; refine (HFJ.out _ hS).mono ?_; rintro e wz ⟨rfl,hbz⟩)
 refine hK.out _ _ ?_ (fun hSn => ?_)
 ·exact hS.trans (hbz.mono hS.size)
 clear hK K hS hbz
 have hS := hSn
 clear hSn
 try dsimp only at hS
 (try simp only [Act.put,pu]);refine tkY 14 ?_ rfl hS ?_ ?_;rotate_left
 ·intro wz hSz;go_simp;all_goals with_reducible rfl
 (try simp only [Act.put,pu]);refine tkY 15 ?_ rfl hS ?_ ?_;rotate_left
 ·intro wz hSz;go_simp;all_goals with_reducible rfl
 try simp only [Act.put,pu]
 refine wpAnyH_done (by kernel_rfl) ?_ _
 have HB3 := Lib.hid (HB2.out.trans (hS.mono HB2.out.size))
 have HM3 := Lib.hid (HM2.out.below hS)
 have HSR := Lib.hid (HSR.out.below hS)
 have HK := Lib.hid (HKR.out _ hS)
 clear hS HKR HRI HRJ HFI HFJ HFF y0 y1 y2 y3 y4
 obtain ⟨y0,y1,y2,y3,y4⟩ := cm_results (kd,n,K,V,kb) HK.out
 go_wp2_with fail
 refine (rright8b _ s false hr HFW.out _ HSR.out).mono ?_
 rintro e w4 ⟨rfl,hb4⟩
 have HB4 := Lib.hid (HB3.out.trans (hb4.mono HB3.out.size))
 have HM4 := Lib.hid (HM3.out.below hb4)
 have HSR := Lib.hid (HSR.out.below hb4)
 have HK := Lib.hid (HK.out.below hb4 (Blk.lt HK.out))
 clear y0 y1 y2 y3 y4
 clear hb4
 go_wp2_with fail
 refine (known8_any m _ HM4.out).mono ?_
 rintro e w5 ⟨rfl,hb5⟩
 have HB5 := Lib.hid (HB4.out.trans (hb5.mono HB4.out.size))
 have HM5 := Lib.hid (HM4.out.below hb5)
 have HSR := Lib.hid (HSR.out.below hb5)
 have HK := Lib.hid (HK.out.below hb5 (Blk.lt HK.out))
 clear hb5
 go_wp2
 go_ret
 exact ⟨rfl,HB5.out⟩
set_option maxHeartbeats 8000000 in
theorem dw_text (v : Value) (s : List Tb) (kd : Int) (n : ByteArray) (K V : Int) (kb : Bool) (m : Int) (w : World) (hm : Wq m w) (h : SR w v s) (hK : i64B K) (hV : i64B V) (hl : lightS s = true) (hn : n.size ≤ 60) (hr : rightL s = true) (hT : textC (kd,n,K,V,kb) = []) :
  Calls Tryz.prog 3 #[v,.agg #[.int .i64 kd,.string n,.int .i64 K,.int .i64 V,.bool kb]] w fun e w' => e = .returned (.bool true) ∧ Below w.heap.size w w' := by
 have ln : ¬ ((60 : Int) < (n.size : Int)) := by omega
 have HFW := Lib.hid (light_few hl)
 obtain ⟨R,hR⟩ : ∃ R,rightL s = R := ⟨_,rfl⟩
 obtain ⟨F,hF⟩ : ∃ F,findN s n 0 = F := ⟨_,rfl⟩
 have HRR := Lib.hid hR
 have HFF := Lib.hid hF
 have nR : (R != R) = false := by cases R <;> rfl
 have nF : (F != F) = false := by rw [bne_eq_false_iff_eq]
 clear hF
 rw [hr] at hR
 subst hR
 have HTX := Lib.hid (fun W => text8b kd n K V kb ⟨#[]⟩ (by rw [hT]) W (by omega))
 have HM0 := Lib.hid hm
 have HB0 := Lib.hid (Below.refl w.heap.size w)
 have HSR := Lib.hid h
 obtain ⟨va0,vc0,rfl⟩ := h.form
 clear hm h hn hT
 go_enter Tryz.func3,Tryz.ntmps3
 go_wp2_with fail
 obtain ⟨W0,hW0⟩ : ∃ W0,w.alloc (.cells #[.int .i64 kd,.string n,.int .i64 K,.int .i64 V,.bool kb] 24) = W0 := ⟨_,rfl⟩
 have hb1 : Below w.heap.size w W0 := by rw [← hW0]; exact (Below.refl _ _).alloc (Nat.le_refl _) _
 have HB1 := Lib.hid (HB0.out.trans (hb1.mono HB0.out.size))
 have HM1 := Lib.hid (HM0.out.below hb1)
 have HSR := Lib.hid (HSR.out.below hb1)
 have hk0 : Blk W0 w.heap.size 24 (cmCells (kd,n,K,V,kb)) := by rw [← hW0]; exact Blk.new _ _ _
 have HK := Lib.hid hk0
 rw [hW0]
 clear hW0 hk0
 clear hb1
 refine (light8b _ s true hl _ HSR.out).mono ?_
 rintro e w2 ⟨rfl,hb2⟩
 have HB2 := Lib.hid (HB1.out.trans (hb2.mono HB1.out.size))
 have HM2 := Lib.hid (HM1.out.below hb2)
 have HSR := Lib.hid (HSR.out.below hb2)
 have HK := Lib.hid (HK.out.below hb2 (Blk.lt HK.out))
 clear hb2
 obtain ⟨y0,y1,y2,y3,y4⟩ := cm_results (kd,n,K,V,kb) HK.out
 go_wp2_with fail
 have HKR := Lib.hid (fun (W : World) (hW : Below w2.heap.size w2 W) => HK.out.below hW (Blk.lt HK.out))
 have HRI := Lib.hid (fun (W : World) (hW : Below w2.heap.size w2 W) => right8b _ s true HRR.out W (HSR.out.below hW))
 have HRJ := Lib.hid (fun (W : World) (hW : Below w2.heap.size w2 W) => rright8b _ s true HRR.out HFW.out W (HSR.out.below hW))
 have HFI := Lib.hid (fun (W : World) (hW : Below w2.heap.size w2 W) => find8b _ s n F HFF.out HFW.out.1 W (HSR.out.below hW))
 have HFJ := Lib.hid (fun (W : World) (hW : Below w2.heap.size w2 W) => rfind8b _ s n F HFF.out HFW.out.1 W (HSR.out.below hW))
 refine wp_region_held_drew (S := (fun w' => Below w2.heap.size w2 w')) (by kernel_rfl) ?_ (fun hS => ?_)
 ·exact (Below.refl _ _).drew
 try dsimp only at hS
 refine tkY 0 ?_ rfl hS ?_ ?_;rotate_left
 ·intro wz hSz;go_simp;all_goals with_reducible rfl
 (try simp only [Act.put,pu]);refine tkY 2 ?_ rfl hS ?_ ?_;rotate_left
 ·intro wz hSz;go_simp;all_goals with_reducible rfl
 try simp only [Act.put,pu]
 refine wpAnyH_ready (rs := [1]) (by kernel_rfl) (by simp) (AllReadyH.cons rfl (fun K hK => ?_) AllReadyH.nil)
 go_simp
 (go_at_call 11; refine (HRI.out _ hS).mono ?_; rintro e wz ⟨rfl,hbz⟩)
 refine hK.out _ _ ?_ (fun hSn => ?_)
 ·exact hS.trans (hbz.mono hS.size)
 clear hK K hS hbz
 have hS := hSn
 clear hSn
 try dsimp only at hS
 try simp only [Act.put,pu]
 refine wpAnyH_ready (rs := [3]) (by kernel_rfl) (by simp) (AllReadyH.cons rfl (fun K hK => ?_) AllReadyH.nil)
 go_simp
 (go_at_call 12; refine (HRJ.out _ hS).mono ?_; rintro e wz ⟨rfl,hbz⟩)
 refine hK.out _ _ ?_ (fun hSn => ?_)
 ·exact hS.trans (hbz.mono hS.size)
 clear hK K hS hbz
 have hS := hSn
 clear hSn
 try dsimp only at hS
 (try simp only [Act.put,pu]);refine tkY 4 ?_ rfl hS ?_ ?_;rotate_left
 ·intro wz hSz;go_simp;all_goals with_reducible rfl
 (try simp only [Act.put,pu]);refine tkY 5 ?_ rfl hS ?_ ?_;rotate_left
 ·intro wz hSz;go_simp;all_goals with_reducible rfl
 (try simp only [Act.put,pu]);refine tkY 6 ?_ rfl hS ?_ ?_;rotate_left
 ·intro wz hSz;go_simp;all_goals with_reducible rfl
 (try simp only [Act.put,pu]);refine tkY 7 ?_ rfl hS ?_ ?_;rotate_left
 ·intro wz hSz;go_simp;all_goals with_reducible rfl
 (try simp only [Act.put,pu]);refine tkY 8 ?_ rfl hS ?_ ?_;rotate_left
 ·intro wz hSz;have x1z : wz.cell? ⟨w.heap.size,1,none⟩ = some (.string n) := (HKR.out wz hSz).cell 1;go_simp;all_goals with_reducible rfl
 (try simp only [Act.put,pu]);refine tkY 10 ?_ rfl hS ?_ ?_;rotate_left
 ·intro wz hSz;go_simp;all_goals with_reducible rfl
 (try simp only [Act.put,pu]);refine tkY 11 ?_ rfl hS ?_ ?_;rotate_left
 ·intro wz hSz;go_simp;all_goals with_reducible rfl
 (try simp only [Act.put,pu]);refine tkY 12 ?_ rfl hS ?_ ?_;rotate_left
 ·intro wz hSz;have x1z : wz.cell? ⟨w.heap.size,1,none⟩ = some (.string n) := (HKR.out wz hSz).cell 1;go_simp;all_goals with_reducible rfl
 try simp only [Act.put,pu]
 refine wpAnyH_ready (rs := [9]) (by kernel_rfl) (by simp) (AllReadyH.cons rfl (fun K hK => ?_) AllReadyH.nil)
 go_simp
 (go_at_call 13; refine (HFI.out _ hS).mono ?_; rintro e wz ⟨rfl,hbz⟩)
 refine hK.out _ _ ?_ (fun hSn => ?_)
 ·exact hS.trans (hbz.mono hS.size)
 clear hK K hS hbz
 have hS := hSn
 clear hSn
 try dsimp only at hS
 try simp only [Act.put,pu]
 refine wpAnyH_ready (rs := [13]) (by kernel_rfl) (by simp) (AllReadyH.cons rfl (fun K hK => ?_) AllReadyH.nil)
 go_simp
 (go_at_call 14; refine (HFJ.out _ hS).mono ?_; rintro e wz ⟨rfl,hbz⟩)
 refine hK.out _ _ ?_ (fun hSn => ?_)
 ·exact hS.trans (hbz.mono hS.size)
 clear hK K hS hbz
 have hS := hSn
 clear hSn
 try dsimp only at hS
 (try simp only [Act.put,pu]);refine tkY 14 ?_ rfl hS ?_ ?_;rotate_left
 ·intro wz hSz;go_simp;all_goals with_reducible rfl
 (try simp only [Act.put,pu]);refine tkY 15 ?_ rfl hS ?_ ?_;rotate_left
 ·intro wz hSz;go_simp;all_goals with_reducible rfl
 try simp only [Act.put,pu]
 refine wpAnyH_done (by kernel_rfl) ?_ _
 have HB3 := Lib.hid (HB2.out.trans (hS.mono HB2.out.size))
 have HM3 := Lib.hid (HM2.out.below hS)
 have HSR := Lib.hid (HSR.out.below hS)
 have HK := Lib.hid (HKR.out _ hS)
 clear hS HKR HRI HRJ HFI HFJ HFF y0 y1 y2 y3 y4
 obtain ⟨y0,y1,y2,y3,y4⟩ := cm_results (kd,n,K,V,kb) HK.out
 go_wp2_with fail
 refine (rright8b _ s true hr HFW.out _ HSR.out).mono ?_
 rintro e w4 ⟨rfl,hb4⟩
 have HB4 := Lib.hid (HB3.out.trans (hb4.mono HB3.out.size))
 have HM4 := Lib.hid (HM3.out.below hb4)
 have HSR := Lib.hid (HSR.out.below hb4)
 have HK := Lib.hid (HK.out.below hb4 (Blk.lt HK.out))
 clear y0 y1 y2 y3 y4
 obtain ⟨y0,y1,y2,y3,y4⟩ := cm_results (kd,n,K,V,kb) HK.out
 clear hb4
 go_wp2_with fail
 refine (HTX.out _).mono ?_
 rintro e w5 ⟨rfl,hb5⟩
 have HB5 := Lib.hid (HB4.out.trans (hb5.mono HB4.out.size))
 have HM5 := Lib.hid (HM4.out.below hb5)
 have HSR := Lib.hid (HSR.out.below hb5)
 have HK := Lib.hid (HK.out.below hb5 (Blk.lt HK.out))
 clear y0 y1 y2 y3 y4
 clear hb5
 go_wp2_with fail
 refine (known8_any m _ HM5.out).mono ?_
 rintro e w6 ⟨rfl,hb6⟩
 have HB6 := Lib.hid (HB5.out.trans (hb6.mono HB5.out.size))
 have HM6 := Lib.hid (HM5.out.below hb6)
 have HSR := Lib.hid (HSR.out.below hb6)
 have HK := Lib.hid (HK.out.below hb6 (Blk.lt HK.out))
 clear hb6
 go_wp2
 go_ret
 exact ⟨rfl,HB6.out⟩
set_option maxHeartbeats 8000000 in
theorem dw_main (v : Value) (s : List Tb) (kd : Int) (n : ByteArray) (K V : Int) (kb : Bool) (m : Int) (w : World) (hm : Wq m w) (h : SR w v s) (hK : i64B K) (hV : i64B V) (hl : lightS s = true) (hn : n.size ≤ 60) (hr : rightL s = true) (hT : textC (kd,n,K,V,kb) ≠ []) :
  Calls Tryz.prog 3 #[v,.agg #[.int .i64 kd,.string n,.int .i64 K,.int .i64 V,.bool kb]] w fun e w' => e = .returned (.bool true) ∧ Below w.heap.size w w' := by
 have ln : ¬ ((60 : Int) < (n.size : Int)) := by omega
 have HFW := Lib.hid (light_few hl)
 obtain ⟨R,hR⟩ : ∃ R,rightL s = R := ⟨_,rfl⟩
 obtain ⟨F,hF⟩ : ∃ F,findN s n 0 = F := ⟨_,rfl⟩
 have HRR := Lib.hid hR
 have HFF := Lib.hid hF
 have nR : (R != R) = false := by cases R <;> rfl
 have nF : (F != F) = false := by rw [bne_eq_false_iff_eq]
 clear hF
 rw [hr] at hR
 subst hR
 have hp := (right_iff s).1 hr
 have hf := txt_facts hT
 obtain ⟨D,hD⟩ : ∃ D,doS s kd n K V kb = D := ⟨_,rfl⟩
 have hq := do_right (kd := kd) (kb := kb) hp hf.2.1 hf.2.2.1 hf.2.2.2.1
 have hlr := do_told s kd n K V kb hp
 rw [hD] at hq hlr
 obtain ⟨T,hTT⟩ : ∃ T,bb (textC (kd,n,K,V,kb)) = T := ⟨_,rfl⟩
 have te := bb_emp _ hT
 rw [hTT] at te
 have HTX := Lib.hid (fun W => text8b kd n K V kb T hTT W (by omega))
 have HDO := Lib.hid (fun v' W hS => do8v D v' s kd n K V kb hD hp hf.1 (by omega) W hS)
 have HRD := Lib.hid (fun v' W hS => rdo8b D v' s kd n K V kb hD hp (by omega) W hS)
 have HSM := Lib.hid (fun v1 v2 W h1 h2 => rsame8b v1 v2 D.1 hq.few W h1 h2)
 have HSO := Lib.hid (fun v1 v2 W h1 h2 => rsame8b v1 v2 s hp.few W h1 h2)
 have HRW := Lib.hid (fun v1 v2 W h1 h2 => rrows8b v1 v2 D.2.1 W h1 h2 hlr)
 have HQF : Hid (D.1.length ≤ 1000000 ∧ ∀ t ∈ D.1,t.2.length ≤ 1000000) := Lib.hid hq.few
 have HLR : Hid (D.2.1.length ≤ 1000000) := Lib.hid hlr
 obtain ⟨E,hE⟩ : ∃ E,D.2.2 = E := ⟨_,rfl⟩
 have eEE : (E == E) = true := beq_self_eq_true E
 have HEE := Lib.hid hE
 clear hE hD hf hq hp hlr hTT
 have HM0 := Lib.hid hm
 have HB0 := Lib.hid (Below.refl w.heap.size w)
 have HSR := Lib.hid h
 obtain ⟨va0,vc0,rfl⟩ := h.form
 clear hm h hn hT
 go_enter Tryz.func3,Tryz.ntmps3
 go_wp2_with fail
 obtain ⟨W0,hW0⟩ : ∃ W0,w.alloc (.cells #[.int .i64 kd,.string n,.int .i64 K,.int .i64 V,.bool kb] 24) = W0 := ⟨_,rfl⟩
 have hb1 : Below w.heap.size w W0 := by rw [← hW0]; exact (Below.refl _ _).alloc (Nat.le_refl _) _
 have HB1 := Lib.hid (HB0.out.trans (hb1.mono HB0.out.size))
 have HM1 := Lib.hid (HM0.out.below hb1)
 have HSR := Lib.hid (HSR.out.below hb1)
 have hk0 : Blk W0 w.heap.size 24 (cmCells (kd,n,K,V,kb)) := by rw [← hW0]; exact Blk.new _ _ _
 have HK := Lib.hid hk0
 rw [hW0]
 clear hW0 hk0
 clear hb1
 refine (light8b _ s true hl _ HSR.out).mono ?_
 rintro e w2 ⟨rfl,hb2⟩
 have HB2 := Lib.hid (HB1.out.trans (hb2.mono HB1.out.size))
 have HM2 := Lib.hid (HM1.out.below hb2)
 have HSR := Lib.hid (HSR.out.below hb2)
 have HK := Lib.hid (HK.out.below hb2 (Blk.lt HK.out))
 clear hb2
 obtain ⟨y0,y1,y2,y3,y4⟩ := cm_results (kd,n,K,V,kb) HK.out
 go_wp2_with fail
 have HKR := Lib.hid (fun (W : World) (hW : Below w2.heap.size w2 W) => HK.out.below hW (Blk.lt HK.out))
 have HRI := Lib.hid (fun (W : World) (hW : Below w2.heap.size w2 W) => right8b _ s true HRR.out W (HSR.out.below hW))
 have HRJ := Lib.hid (fun (W : World) (hW : Below w2.heap.size w2 W) => rright8b _ s true HRR.out HFW.out W (HSR.out.below hW))
 have HFI := Lib.hid (fun (W : World) (hW : Below w2.heap.size w2 W) => find8b _ s n F HFF.out HFW.out.1 W (HSR.out.below hW))
 have HFJ := Lib.hid (fun (W : World) (hW : Below w2.heap.size w2 W) => rfind8b _ s n F HFF.out HFW.out.1 W (HSR.out.below hW))
 refine wp_region_held_drew (S := (fun w' => Below w2.heap.size w2 w')) (by kernel_rfl) ?_ (fun hS => ?_)
 ·exact (Below.refl _ _).drew
 try dsimp only at hS
 refine tkY 0 ?_ rfl hS ?_ ?_;rotate_left
 ·intro wz hSz;go_simp;all_goals with_reducible rfl
 (try simp only [Act.put,pu]);refine tkY 2 ?_ rfl hS ?_ ?_;rotate_left
 ·intro wz hSz;go_simp;all_goals with_reducible rfl
 try simp only [Act.put,pu]
 refine wpAnyH_ready (rs := [1]) (by kernel_rfl) (by simp) (AllReadyH.cons rfl (fun K hK => ?_) AllReadyH.nil)
 go_simp
 (go_at_call 11; refine (HRI.out _ hS).mono ?_; rintro e wz ⟨rfl,hbz⟩)
 refine hK.out _ _ ?_ (fun hSn => ?_)
 ·exact hS.trans (hbz.mono hS.size)
 clear hK K hS hbz
 have hS := hSn
 clear hSn
 try dsimp only at hS
 try simp only [Act.put,pu]
 refine wpAnyH_ready (rs := [3]) (by kernel_rfl) (by simp) (AllReadyH.cons rfl (fun K hK => ?_) AllReadyH.nil)
 go_simp
 (go_at_call 12; refine (HRJ.out _ hS).mono ?_; rintro e wz ⟨rfl,hbz⟩)
 refine hK.out _ _ ?_ (fun hSn => ?_)
 ·exact hS.trans (hbz.mono hS.size)
 clear hK K hS hbz
 have hS := hSn
 clear hSn
 try dsimp only at hS
 (try simp only [Act.put,pu]);refine tkY 4 ?_ rfl hS ?_ ?_;rotate_left
 ·intro wz hSz;go_simp;all_goals with_reducible rfl
 (try simp only [Act.put,pu]);refine tkY 5 ?_ rfl hS ?_ ?_;rotate_left
 ·intro wz hSz;go_simp;all_goals with_reducible rfl
 (try simp only [Act.put,pu]);refine tkY 6 ?_ rfl hS ?_ ?_;rotate_left
 ·intro wz hSz;go_simp;all_goals with_reducible rfl
 (try simp only [Act.put,pu]);refine tkY 7 ?_ rfl hS ?_ ?_;rotate_left
 ·intro wz hSz;go_simp;all_goals with_reducible rfl
 (try simp only [Act.put,pu]);refine tkY 8 ?_ rfl hS ?_ ?_;rotate_left
 ·intro wz hSz;have x1z : wz.cell? ⟨w.heap.size,1,none⟩ = some (.string n) := (HKR.out wz hSz).cell 1;go_simp;all_goals with_reducible rfl
 (try simp only [Act.put,pu]);refine tkY 10 ?_ rfl hS ?_ ?_;rotate_left
 ·intro wz hSz;go_simp;all_goals with_reducible rfl
 (try simp only [Act.put,pu]);refine tkY 11 ?_ rfl hS ?_ ?_;rotate_left
 ·intro wz hSz;go_simp;all_goals with_reducible rfl
 (try simp only [Act.put,pu]);refine tkY 12 ?_ rfl hS ?_ ?_;rotate_left
 ·intro wz hSz;have x1z : wz.cell? ⟨w.heap.size,1,none⟩ = some (.string n) := (HKR.out wz hSz).cell 1;go_simp;all_goals with_reducible rfl
 try simp only [Act.put,pu]
 refine wpAnyH_ready (rs := [9]) (by kernel_rfl) (by simp) (AllReadyH.cons rfl (fun K hK => ?_) AllReadyH.nil)
 go_simp
 (go_at_call 13; refine (HFI.out _ hS).mono ?_; rintro e wz ⟨rfl,hbz⟩)
 refine hK.out _ _ ?_ (fun hSn => ?_)
 ·exact hS.trans (hbz.mono hS.size)
 clear hK K hS hbz
 have hS := hSn
 clear hSn
 try dsimp only at hS
 try simp only [Act.put,pu]
 refine wpAnyH_ready (rs := [13]) (by kernel_rfl) (by simp) (AllReadyH.cons rfl (fun K hK => ?_) AllReadyH.nil)
 go_simp
 (go_at_call 14; refine (HFJ.out _ hS).mono ?_; rintro e wz ⟨rfl,hbz⟩)
 refine hK.out _ _ ?_ (fun hSn => ?_)
 ·exact hS.trans (hbz.mono hS.size)
 clear hK K hS hbz
 have hS := hSn
 clear hSn
 try dsimp only at hS
 (try simp only [Act.put,pu]);refine tkY 14 ?_ rfl hS ?_ ?_;rotate_left
 ·intro wz hSz;go_simp;all_goals with_reducible rfl
 (try simp only [Act.put,pu]);refine tkY 15 ?_ rfl hS ?_ ?_;rotate_left
 ·intro wz hSz;go_simp;all_goals with_reducible rfl
 try simp only [Act.put,pu]
 refine wpAnyH_done (by kernel_rfl) ?_ _
 have HB3 := Lib.hid (HB2.out.trans (hS.mono HB2.out.size))
 have HM3 := Lib.hid (HM2.out.below hS)
 have HSR := Lib.hid (HSR.out.below hS)
 have HK := Lib.hid (HKR.out _ hS)
 clear hS HKR HRI HRJ HFI HFJ HFF y0 y1 y2 y3 y4
 obtain ⟨y0,y1,y2,y3,y4⟩ := cm_results (kd,n,K,V,kb) HK.out
 go_wp2_with fail
 refine (rright8b _ s true hr HFW.out _ HSR.out).mono ?_
 rintro e w4 ⟨rfl,hb4⟩
 have HB4 := Lib.hid (HB3.out.trans (hb4.mono HB3.out.size))
 have HM4 := Lib.hid (HM3.out.below hb4)
 have HSR := Lib.hid (HSR.out.below hb4)
 have HK := Lib.hid (HK.out.below hb4 (Blk.lt HK.out))
 clear y0 y1 y2 y3 y4
 obtain ⟨y0,y1,y2,y3,y4⟩ := cm_results (kd,n,K,V,kb) HK.out
 clear hb4
 go_wp2_with fail
 refine (HTX.out _).mono ?_
 rintro e w5 ⟨rfl,hb5⟩
 have HB5 := Lib.hid (HB4.out.trans (hb5.mono HB4.out.size))
 have HM5 := Lib.hid (HM4.out.below hb5)
 have HSR := Lib.hid (HSR.out.below hb5)
 have HK := Lib.hid (HK.out.below hb5 (Blk.lt HK.out))
 clear y0 y1 y2 y3 y4
 obtain ⟨y0,y1,y2,y3,y4⟩ := cm_results (kd,n,K,V,kb) HK.out
 clear hb5
 go_wp2_with fail
 refine (rcopy_any _ s _ HSR.out HFW.out).mono ?_
 rintro e w6 ⟨vw,y,rfl,hfs,hts,hb6⟩
 have HB6 := Lib.hid (HB5.out.trans (hb6.mono HB5.out.size))
 have HM6 := Lib.hid (HM5.out.below hb6)
 have HSR := Lib.hid (HSR.out.below hb6)
 have HK := Lib.hid (HK.out.below hb6 (Blk.lt HK.out))
 clear y0 y1 y2 y3 y4 te
 obtain ⟨y0,y1,y2,y3,y4⟩ := cm_results (kd,n,K,V,kb) HK.out
 have HOW := Lib.hid (FS.srT hfs hts)
 obtain ⟨ow1,ow2,hvw⟩ := own_sh2 hfs.own
 subst hvw
 clear hfs hts
 clear hb6
 go_wp2_with fail
 have HSRB0 := Lib.hid HSR.out
 have HOWB := Lib.hid HOW.out
 have HMB := Lib.hid HM6.out
 have HBW := Lib.hid HB6.out
 refine (HDO.out _ _ HOW.out).mono ?_
 rintro e w7 ⟨vs,x,vr,rfl,hfs,hts,hor,hb7⟩
 have HB7 := Lib.hid (HB6.out.trans (hb7.mono HB6.out.size))
 have HM7 := Lib.hid (HM6.out.below hb7)
 have HSR := Lib.hid (HSR.out.below hb7)
 have HOW := Lib.hid (HOW.out.below hb7)
 have HK := Lib.hid (HK.out.below hb7 (Blk.lt HK.out))
 clear y0 y1 y2 y3 y4
 obtain ⟨y0,y1,y2,y3,y4⟩ := cm_results (kd,n,K,V,kb) HK.out
 have HFS := Lib.hid hfs
 have HTS := Lib.hid hts
 have HOR := Lib.hid hor
 have HVS := Lib.hid (FS.srT hfs hts)
 have HVR := Lib.hid hor.rr
 have HBB := Lib.hid hb7
 clear hfs hts hor
 clear hb7
 go_wp2_with fail
 refine (HRD.out _ _ HSR.out).mono ?_
 rintro e w8 ⟨vb,vm,rfl,sb,rm,hb8⟩
 have HB8 := Lib.hid (HB7.out.trans (hb8.mono HB7.out.size))
 have HM8 := Lib.hid (HM7.out.below hb8)
 have HSR := Lib.hid (HSR.out.below hb8)
 have HOW := Lib.hid (HOW.out.below hb8)
 have HFS := Lib.hid (HFS.out.below hb8)
 have HVS := Lib.hid (HVS.out.below hb8)
 have HVR := Lib.hid (HVR.out.below hb8)
 have HK := Lib.hid (HK.out.below hb8 (Blk.lt HK.out))
 have HVB := Lib.hid sb
 have HVM := Lib.hid rm
 have HBB := Lib.hid (HBB.out.trans (hb8.mono HBB.out.size))
 have HOR := Lib.hid (show OR w6.heap.size _ vr D.2.1 from own_below HOR.out hb8)
 rw [HEE.out]
 clear y0 y1 y2 y3 y4
 clear hb8 sb rm
 obtain ⟨vsa,vsc,hvs⟩ := own_sh2 HFS.out.own
 obtain ⟨vra,vrc,hvr⟩ := own_sh2 HOR.out
 obtain ⟨vba,vbc,hvb⟩ := HVB.out.form
 obtain ⟨vma,vmc,hvm⟩ := HVM.out.form
 subst hvs hvr hvb hvm
 go_wp2_with fail
 refine (HSM.out _ _ _ HVS.out HVB.out).mono ?_
 rintro e w9 ⟨rfl,hb9⟩
 have HB9 := Lib.hid (HB8.out.trans (hb9.mono HB8.out.size))
 have HM9 := Lib.hid (HM8.out.below hb9)
 have HSR := Lib.hid (HSR.out.below hb9)
 have HOW := Lib.hid (HOW.out.below hb9)
 have HFS := Lib.hid (HFS.out.below hb9)
 have HVS := Lib.hid (HVS.out.below hb9)
 have HVR := Lib.hid (HVR.out.below hb9)
 have HVB := Lib.hid (HVB.out.below hb9)
 have HVM := Lib.hid (HVM.out.below hb9)
 have HK := Lib.hid (HK.out.below hb9 (Blk.lt HK.out))
 have HBB := Lib.hid (HBB.out.trans (hb9.mono HBB.out.size))
 have HOR := Lib.hid (show OR w6.heap.size _ _ D.2.1 from own_below HOR.out hb9)
 clear hb9
 go_wp2_with fail
 refine (HRW.out _ _ _ HVR.out HVM.out).mono ?_
 rintro e w10 ⟨rfl,hb10⟩
 have HB10 := Lib.hid (HB9.out.trans (hb10.mono HB9.out.size))
 have HM10 := Lib.hid (HM9.out.below hb10)
 have HSR := Lib.hid (HSR.out.below hb10)
 have HOW := Lib.hid (HOW.out.below hb10)
 have HFS := Lib.hid (HFS.out.below hb10)
 have HVS := Lib.hid (HVS.out.below hb10)
 have HVR := Lib.hid (HVR.out.below hb10)
 have HVB := Lib.hid (HVB.out.below hb10)
 have HVM := Lib.hid (HVM.out.below hb10)
 have HK := Lib.hid (HK.out.below hb10 (Blk.lt HK.out))
 have HBB := Lib.hid (HBB.out.trans (hb10.mono HBB.out.size))
 have HOR := Lib.hid (show OR w6.heap.size _ _ D.2.1 from own_below HOR.out hb10)
 clear hb10
 have HSP : Hid (Spv w6.heap.size _ _ x.length D.2.1.length w6 w10 x) := Lib.hid ⟨HFS.out,rfl,fun t ht => by have := HQF.out.2 (t.1,t.2.2) (by rw [← HTS.out]; exact List.mem_map.2 ⟨t,ht,rfl⟩); exact this,⟨_,HOR.out⟩,HBB.out⟩
 have HXL : Hid (x.length ≤ 1000000) := Lib.hid (by rw [← tbs_len,HTS.out]; exact HQF.out.1)
 have HSRB := Lib.hid HSRB0.out
 clear eEE nR nF
 go_wp2_with fail
 go_loopg [13] x.length (fun gk u13 wx => ∃ (i : Nat) (X : List Tv),u13 = .int .i64 (i : Int) ∧ i + gk = x.length ∧ Spv w6.heap.size (.slice vsa x.length vsc) (.slice vra D.2.1.length vrc) x.length D.2.1.length w6 wx X)
 case atStart => exact ⟨0,x,rfl,by omega,HSP.out⟩
 case round =>
  obtain ⟨i,X,rfl,hi,hS⟩ := hrel
  have HS := Lib.hid hS
  have HI := Lib.hid hi
  cases gk with
  | zero =>
   have l1 : ¬ ((i : Int) < (x.length : Int)) := by omega
   have HRO := Lib.hid hS.row
   have HBR := Lib.hid hS.bel
   clear hi hS
   go_wp2_with fail
   go_loopg [15] D.2.1.length (fun gk u15 wx => ∃ (j : Nat),u15 = .int .i64 (j : Int) ∧ j + gk = D.2.1.length ∧ (∃ xs,wx.ownsRow w6.heap.size 39 2 (.slice vra D.2.1.length vrc) D.2.1.length xs) ∧ Below w6.heap.size w6 wx)
   case atStart => exact ⟨0,rfl,by omega,HRO.out,HBR.out⟩
   case round =>
    obtain ⟨j,rfl,hj,⟨xs,hx⟩,hb⟩ := hrel
    have HJ := Lib.hid hj
    have HX := Lib.hid hx
    have HBJ := Lib.hid hb
    cases gk with
    | zero =>
     have l1 : ¬ ((j : Int) < (D.2.1.length : Int)) := by omega
     have HSA := Lib.hid (HSRB.out.below hb)
     have HOA := Lib.hid (HOWB.out.below hb)
     have HMA := Lib.hid (HMB.out.below hb)
     have HBA := Lib.hid (HBW.out.trans (hb.mono HBW.out.size))
     clear hj hx hb
     go_wp2_with fail
     refine (HSO.out _ _ _ HOA.out HSA.out).mono ?_
     rintro e wy ⟨rfl,hby⟩
     have HBY := Lib.hid (HBA.out.trans (hby.mono HBA.out.size))
     have HMY := Lib.hid (HMA.out.below hby)
     clear hby
     go_wp2_with fail
     refine (known8_any m _ HMY.out).mono ?_
     rintro e wu ⟨rfl,hbu⟩
     have HBU := Lib.hid (HBY.out.trans (hbu.mono HBY.out.size))
     clear hbu
     go_wp2
     go_ret
     exact ⟨rfl,HBU.out⟩
    | succ gko2 =>
     obtain ⟨gr,rc,he,hr1,hr2⟩ := World.ownsRow.form hx (by omega)
     injection he with he1 _ he3
     subst he1 he3
     have hjl : j * 2 + 1 < D.2.1.length * 2 := by omega
     have hxl : xs.length = D.2.1.length * 2 := hx.1
     have d2 := (World.ownsRow.cellAt hx (j * 2 + 1) hjl).trans (List.getElem?_eq_getElem (by omega))
     obtain ⟨dv,hdv⟩ : ∃ dv,xs[j * 2 + 1]'(by omega) = dv := ⟨_,rfl⟩
     rw [hdv] at d2
     have f2 := World.ownsRow.frozenAt hx (j * 2 + 1)
     have l2 : (j : Int) < (D.2.1.length : Int) := by omega
     have l3 : (0 : Int) ≤ (j : Int) := by omega
     obtain ⟨j1,hj1⟩ : ∃ j1,j + 1 = j1 := ⟨_,rfl⟩
     have wk2 : IntKind.i64.wrap ((j : Int) + 1) = (j1 : Int) := by rw [show (j : Int) + 1 = (j1 : Int) by omega]; exact IntWalk.i64_in _ (by have := HLR.out; omega)
     have HJ1 := Lib.hid hj1
     have HR1 := Lib.hid hr1
     clear hj hx hb hjl hxl hdv hj1 hr1 hr2
     go_wp2
     go_roundg gko2
     case measure => exact Nat.lt_succ_self _
     case rel => exact ⟨j1,rfl,by have := HJ1.out; have := HJ.out; omega,any_row ⟨xs,HX.out⟩,HBJ.out.setCell (p := ⟨gr,j * 2 + 1,none⟩) HR1.out _⟩
  | succ gko =>
   have hlt : i < x.length := by omega
   have hxl : i < X.length := by rw [hS.len]; exact hlt
   obtain ⟨q,hq0⟩ : ∃ q,X[i] = q := ⟨_,rfl⟩
   have hXi : X[i]? = some q := by rw [List.getElem?_eq_getElem hxl,hq0]
   obtain ⟨nm,u,l⟩ := q
   have hll : l.length ≤ 1000000 := hS.few _ (List.mem_of_getElem? hXi)
   have HLL := Lib.hid hll
   have l0 : (0 : Int) ≤ (i : Int) := by omega
   have l1 : (i : Int) < (x.length : Int) := by omega
   obtain ⟨i1,hi1⟩ : ∃ i1,i + 1 = i1 := ⟨_,rfl⟩
   have wk : IntKind.i64.wrap ((i : Int) + 1) = (i1 : Int) := by rw [show (i : Int) + 1 = (i1 : Int) by omega]; exact IntWalk.i64_in _ (by have := HXL.out; omega)
   have HI1 := Lib.hid hi1
   have HXI := Lib.hid hXi
   have HLT := Lib.hid hlt
   clear hi hS hlt hxl hq0 hXi hi1 hll
   go_wp2_with fail
   go_loopg [14] l.length (fun gk u14 wx => ∃ (k : Nat) (Y : List Tv) (r : List Rw),u14 = .int .i64 (k : Int) ∧ k + gk = l.length ∧ r.length = l.length ∧ Y[i]? = some (nm,u,r) ∧ Spv w6.heap.size (.slice vsa x.length vsc) (.slice vra D.2.1.length vrc) x.length D.2.1.length w6 wx Y)
   case atStart => exact ⟨0,X,l,rfl,by omega,rfl,HXI.out,HS.out⟩
   case round =>
    obtain ⟨k,Y,r,rfl,hk,hr,hYi,hS⟩ := hrel
    have HS1 := Lib.hid hS
    have HK := Lib.hid hk
    have HR1 := Lib.hid hr
    have HY := Lib.hid hYi
    have hfs := hS.fs
    have hyl : i < Y.length := (List.getElem?_eq_some_iff.1 hYi).1
    have HYL := Lib.hid hyl
    obtain ⟨gc,cp,he,_,_⟩ := hfs.form (by omega)
    rw [hS.len] at he
    injection he with he1 _ he3
    subst he1 he3
    have hfs2 := hfs
    rw [← hS.len] at hfs2
    obtain ⟨c0,c1⟩ := FS.at_ hfs2 i _ hYi
    have hor : OR w6.heap.size wr u r := hfs.rows _ (List.mem_of_getElem? hYi)
    cases gk with
    | zero =>
     obtain ⟨ua,uc,rfl⟩ := own_sh2 hor
     have l2 : ¬ ((k : Int) < (r.length : Int)) := by omega
     clear hk hr hYi hS hfs hfs2 hyl hor
     go_wp2
     go_roundg gko
     case measure => exact Nat.lt_succ_self _
     case rel => exact ⟨i1,Y,rfl,by have := HI1.out; have := HI.out; omega,HS1.out⟩
    | succ gk =>
     have hkl : k < r.length := by omega
     obtain ⟨hb,uc,rfl,hBh,hhl⟩ := World.ownsRow.form hor (by omega)
     obtain ⟨rk,hrk⟩ : ∃ rk,r[k] = rk := ⟨_,rfl⟩
     have hrk2 : r[k]? = some rk := by rw [List.getElem?_eq_getElem hkl,hrk]
     have f2 := World.ownsRow.frozenAt hor (k * 2 + 1)
     have d2 := (World.ownsRow.cellAt hor (k * 2 + 1) (by omega)).trans (rcs_at r k rk hrk2).2
     have l2 : (k : Int) < (r.length : Int) := by omega
     have l3 : (0 : Int) ≤ (k : Int) := by omega
     obtain ⟨k1,hk1⟩ : ∃ k1,k + 1 = k1 := ⟨_,rfl⟩
     have wk2 : IntKind.i64.wrap ((k : Int) + 1) = (k1 : Int) := by rw [show (k : Int) + 1 = (k1 : Int) by omega]; exact IntWalk.i64_in _ (by have := HLL.out; omega)
     have HK1 := Lib.hid hk1
     have HRW := Lib.hid (hS.row_ i _ hb uc r hYi k rk hrk2 (-7))
     have HYN := Lib.hid (show (Y.set i (nm,.slice (some ⟨hb,0,none⟩) r.length uc,r.set k (rk.1,-7)))[i]? = some (nm,.slice (some ⟨hb,0,none⟩) r.length uc,r.set k (rk.1,-7)) by rw [List.getElem?_set,if_pos rfl,if_pos hyl])
     clear hk hr hYi hS hfs hfs2 hyl hor hkl hrk hrk2 hk1
     go_wp2
     go_roundg gk
     case measure => exact Nat.lt_succ_self _
     case rel => exact ⟨k1,_,_,rfl,by have := HK1.out; have := HK.out; omega,by rw [List.length_set]; exact HR1.out,HYN.out,HRW.out⟩
theorem does_any (v c : Value) (m : Int) (w : World) (hm : Wq m w) (hs : FitsS w v) (hc : FitsC w c) :
  Calls Tryz.prog 3 #[v,c] w fun e w' => e = .returned (.bool true) ∧ Below w.heap.size w w' := by
 obtain ⟨s,h⟩ := hs
 obtain ⟨kd,n,K,V,kb,rfl,h0,hK,hV,_⟩ := hc
 cases hl : lightS s with
 | false => exact dw_light v s kd n K V kb m w hm h hK hV hl
 | true =>
  by_cases hn : n.size ≤ 60
  ·cases hr : rightL s with
   | false => exact dw_right v s kd n K V kb m w hm h hK hV hl hn hr
   | true =>
    by_cases hT : textC (kd,n,K,V,kb) = []
    ·exact dw_text v s kd n K V kb m w hm h hK hV hl hn hr hT
    ·exact dw_main v s kd n K V kb m w hm h hK hV hl hn hr hT
  ·exact dw_name v s kd n K V kb m w hm h hK hV hl (by omega)
end Go.Proofs.YtgdabkpahmlkpaaGreatDoor
