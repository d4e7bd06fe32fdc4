/- Taq Tar Tas Tat Tau -/
import Derived.Test.YtjmmninopagpjaaGreatDoorG8
import Derived.Test.YtjmmninopagpjaaGreatDoorG32
import Derived.Test.YtjmmninopagpjaaGreatDoorG33
import Derived.Test.YtjmmninopagpjaaGreatDoorG35
import Derived.Test.YtjmmninopagpjaaGreatDoorG1
set_option linter.unusedSimpArgs false
set_option linter.unusedVariables false
namespace Go.Proofs.YtjmmninopagpjaaGreatDoor
open Go.ChangeShapes Go.WideShapes Go.ChangeAt Go.RowKit Go.ChangeMaps
set_option maxRecDepth 100000
set_option linter.unusedVariables false
set_option linter.unusedSimpArgs false

theorem bb_emp9 (T : Tx) (h : T ≠ []) : (bb T).toList.isEmpty = false := by
 cases hT : (bb T).toList.isEmpty with
 | false => rfl
 | true =>
  rw [List.isEmpty_iff,Lib.toList_data] at hT
  exact absurd (by simpa using hT) h
theorem TabsP.ok {s : List Tb} (h : TabsP s) (hl : s.length ≤ 1000000) : DoOk s :=
 ⟨⟨hl,fun t ht => ⟨by have := (h.each t ht).2.1; omega,by have := (h.each t ht).2.2.len; omega⟩⟩,upW_iff.2 h.up,fun t ht => ⟨(h.each t ht).2.2.up,fun r hr => ((h.each t ht).2.2.ins r hr).2⟩⟩
def txB (kd : Int) (n : ByteArray) (K V : Int) (kb : Bool) : Bool := !(textC (kd,n,K,V,kb)).isEmpty
theorem txB_facts {kd : Int} {n : ByteArray} {K V : Int} {kb : Bool} (h : txB kd n K V kb = true) : (0 < n.size ∧ n.size ≤ 30) ∧ inI K ∧ inI V := by
 have := txt_facts (kd := kd) (n := n) (K := K) (V := V) (kb := kb) (fun e => by unfold txB at h; rw [e] at h; simp at h)
 exact ⟨this.2.1,this.2.2.1,this.2.2.2.1⟩
theorem ctextB (kd : Int) (n : ByteArray) (K V : Int) (kb : Bool) (T : ByteArray) (hT : bb (textC (kd,n,K,V,kb)) = T) (m : Int) (w : World) (hm : Wq m w) (hn : n.size ≤ 1000) (hK : i64B K) (hV : i64B V) :
  Calls Tryz.prog 56 #[.agg #[.int .i64 kd,.string n,.int .i64 K,.int .i64 V,.bool kb]] w fun e w' => e = .returned (.string T) ∧ Below w.heap.size w w' := by
 subst hT
 exact text_any (kd,n,K,V,kb) m w hm hn hK hV
def DoW (s : List Tb) (R : List Tb × List Rw × Int) (w : World) (e : Ending) (w' : World) : Prop := ∃ vs x vr,e = .returned (.tuple #[vs,vr,.int .i64 R.2.2]) ∧ FS w.heap.size w' vs x ∧ tbs x = R.1 ∧ OR w.heap.size w' vr R.2.1 ∧ Below w.heap.size w w'
theorem doW (R : List Tb × List Rw × Int) (v : Value) (s : List Tb) (kd : Int) (n : ByteArray) (K V : Int) (kb : Bool) (hR : doS s kd n K V kb = R) (hd : DoOk s) (hk : 1 ≤ kd ∧ kd ≤ 5) (hn : n.size ≤ 1000000) (w : World) (h : SR w v s) :
  Calls Tryz.prog 57 #[v,.agg #[.int .i64 kd,.string n,.int .i64 K,.int .i64 V,.bool kb]] w (DoW s R w) := by
 subst hR
 refine (stDo_any v s kd n K V kb w h hd hk hn).mono ?_
 rintro e w' ⟨vs,x,vr,k,rfl,h1,h2,h3,h4,rfl⟩
 exact ⟨vs,x,vr,rfl,h1,h4,h2,h3⟩
theorem FS.srE {B : Nat} {w : World} {v : Value} {x : List Tv} {s : List Tb} (h : FS B w v x) (e : tbs x = s) : SR w v s := by rw [← e]; exact h.sr
theorem find9 (v : Value) (s : List Tb) (n : ByteArray) (F : Int) (hF : findN s n 0 = F) (hs : s.length ≤ 1000000) (w : World) (h : SR w v s) :
  Calls Tryz.prog 59 #[v,.string n] w fun e w' => e = .returned (.int .i64 F) ∧ Below w.heap.size w w' := by
 subst hF
 exact find_any v s n w h hs
def TdoP (B g n : Nat) (C : Cdb) (R : Dbp × List Rw × Int) (w : World) (e : Ending) (w' : World) : Prop := ∃ rv,e = .returned (.tuple #[rv,.int .i64 R.2.2]) ∧ RQ w' rv R.2.1 ∧ StD B g n C R.1 w w'
set_option maxHeartbeats 4000000 in
theorem tdo_no (B : Nat) (w : World) (g n : Nat) (C : Cdb) (D : Dbp) (h : CD B w g n C D) (hn : n ≤ 10000) (hB : B ≤ w.heap.size) (id : Int) (hi : I9 id) (kd : Int) (nm : ByteArray) (K V : Int) (kb : Bool) (m : Int) (hw : Wq m w) (hnm : nm.size ≤ 1000) (hK : i64B K) (hV : i64B V) (k : Nat) (hI : InvP D k) (hk : k ≤ 10000) (ht : txB kd nm K V kb = false) :
  Calls Tryz.prog 39 #[SL.ptr g,.int .i64 id,.agg #[.int .i64 kd,.string nm,.int .i64 K,.int .i64 V,.bool kb]] w (TdoP B g n C (D,[],1) w) := by
 have hT : textC (kd,nm,K,V,kb) = [] := by
  unfold txB at ht
  simpa using ht
 obtain ⟨W0,hW0⟩ : ∃ W,w.alloc (.cells #[.int .i64 kd,.string nm,.int .i64 K,.int .i64 V,.bool kb] 34) = W := ⟨_,rfl⟩
 obtain ⟨cb,hcb⟩ : ∃ b,w.heap.size = b := ⟨_,rfl⟩
 have b0 : Below w.heap.size w W0 := by rw [← hW0]; exact (Below.refl _ _).alloc (Nat.le_refl _) _
 have k0 : SL.Bk W0 cb 34 #[.int .i64 kd,.string nm,.int .i64 K,.int .i64 V,.bool kb] := by rw [← hW0,← hcb]; exact SL.Bk.new _ _ _
 have y0 := k0.cell 0
 have y1 := k0.cell 1
 have y2 := k0.cell 2
 have y3 := k0.cell 3
 have y4 := k0.cell 4
 have y0 : W0.cell? ⟨cb,0,none⟩ = some (.int .i64 kd) := y0
 have y1 : W0.cell? ⟨cb,1,none⟩ = some (.string nm) := y1
 have y2 : W0.cell? ⟨cb,2,none⟩ = some (.int .i64 K) := y2
 have y3 : W0.cell? ⟨cb,3,none⟩ = some (.int .i64 V) := y3
 have y4 : W0.cell? ⟨cb,4,none⟩ = some (.bool kb) := y4
 have K0 := Lib.hid k0
 have H := Lib.hid (h.below b0)
 have B0 := Lib.hid b0
 have HX := Lib.hid (ctextB kd nm K V kb ⟨#[]⟩ (by rw [hT]) m W0 (hw.below b0) hnm hK hV)
 clear h hw hI b0 k0 ht hT hK hV
 go_enter Tryz.func39,Tryz.ntmps39
 go_wp2_with fail
 try rw [hW0]
 try rw [hcb]
 go_wp2_with fail
 refine HX.out.mono ?_
 rintro e w1 ⟨rfl,hb1⟩
 have B1 := Lib.hid (B0.out.trans (hb1.mono B0.out.size))
 have H1 := Lib.hid (H.out.below hb1)
 clear hb1 y0 y1 y2 y3 y4
 go_wp2
 go_ret2
 exact ⟨_,rfl,RQ.nil _,StD.pre B1.out (.refl H1.out (Below.refl _ _))⟩

set_option maxHeartbeats 8000000 in
theorem tdo_yes (B : Nat) (w : World) (g n : Nat) (C : Cdb) (D : Dbp) (h : CD B w g n C D) (hn : n ≤ 10000) (hB : B ≤ w.heap.size) (id : Int) (hi : I9 id) (kd : Int) (nm : ByteArray) (K V : Int) (kb : Bool) (m : Int) (hw : Wq m w) (hnm : nm.size ≤ 1000) (hK : i64B K) (hV : i64B V) (k : Nat) (hI : InvP D k) (hk : k ≤ 10000) (ht : txB kd nm K V kb = true) :
  Calls Tryz.prog 39 #[SL.ptr g,.int .i64 id,.agg #[.int .i64 kd,.string nm,.int .i64 K,.int .i64 V,.bool kb]] w (TdoP B g (n + 1) C (doP D id kd nm K V kb) w) := by
 have hT : textC (kd,nm,K,V,kb) ≠ [] := fun e => by unfold txB at ht; rw [e] at ht; simp at ht
 obtain ⟨hk5,hn30,hiK,hiV,_,_⟩ := txt_facts hT
 obtain ⟨T,hTT⟩ : ∃ T,bb (textC (kd,nm,K,V,kb)) = T := ⟨_,rfl⟩
 have hne : T.toList.isEmpty = false := by rw [← hTT]; exact bb_emp9 _ hT
 have hsn := hI.seen id
 have hown := hI.ownT id
 have hdok : DoOk (seenP D id) := hsn.1.ok (by omega)
 have hlen := hI.st.len
 have hSu := hI.st.tabs.up
 obtain ⟨W0,hW0⟩ : ∃ W,w.alloc (.cells #[.int .i64 kd,.string nm,.int .i64 K,.int .i64 V,.bool kb] 34) = W := ⟨_,rfl⟩
 obtain ⟨cb,hcb⟩ : ∃ b,w.heap.size = b := ⟨_,rfl⟩
 have b0 : Below w.heap.size w W0 := by rw [← hW0]; exact (Below.refl _ _).alloc (Nat.le_refl _) _
 have k0 : SL.Bk W0 cb 34 #[.int .i64 kd,.string nm,.int .i64 K,.int .i64 V,.bool kb] := by rw [← hW0,← hcb]; exact SL.Bk.new _ _ _
 have y0 := k0.cell 0
 have y1 := k0.cell 1
 have y2 := k0.cell 2
 have y3 := k0.cell 3
 have y4 := k0.cell 4
 have y0 : W0.cell? ⟨cb,0,none⟩ = some (.int .i64 kd) := y0
 have y1 : W0.cell? ⟨cb,1,none⟩ = some (.string nm) := y1
 have y2 : W0.cell? ⟨cb,2,none⟩ = some (.int .i64 K) := y2
 have y3 : W0.cell? ⟨cb,3,none⟩ = some (.int .i64 V) := y3
 have y4 : W0.cell? ⟨cb,4,none⟩ = some (.bool kb) := y4
 have K0 := Lib.hid k0
 have H := Lib.hid (h.below b0)
 have B0 := Lib.hid b0
 have HX := Lib.hid (ctextB kd nm K V kb T hTT m W0 (hw.below b0) hnm hK hV)
 obtain ⟨R,hR⟩ : ∃ R,doS (seenP D id) kd nm K V kb = R := ⟨_,rfl⟩
 have HSE : Hid (∀ w1,Below W0.heap.size W0 w1 → Calls Tryz.prog 25 #[SL.ptr g,.int .i64 id] w1 (SeeP (seenP D id) w1)) := Lib.hid fun w1 hb => sees_any B w1 g n C D ((h.below b0).below hb) (by omega) id hi hSu hown.1.up (by omega) hdok.few _ rfl
 have HDO : Hid (∀ (w1 : World) (v : Value),SR w1 v (seenP D id) → Calls Tryz.prog 57 #[v,.agg #[.int .i64 kd,.string nm,.int .i64 K,.int .i64 V,.bool kb]] w1 (DoW (seenP D id) R w1)) := Lib.hid fun w1 v hs => doW R v _ kd nm K V kb hR hdok hk5 (by omega) w1 hs
 have HFA : Hid (∀ w1,Below W0.heap.size W0 w1 → Calls Tryz.prog 40 #[SL.ptr g,.int .i64 id] w1 fun e w' => e = .returned (.tuple #[]) ∧ StD B g n C (failP D id) w1 w') := Lib.hid fun w1 hb => fail_any B w1 g n C D ((h.below b0).below hb) (Nat.le_trans (Nat.le_trans hB b0.size) hb.size) id hi
 have HWR : Hid (∀ (w1 : World) (u : Value) (l : List Rw),Below W0.heap.size W0 w1 → RQ w1 u l → Calls Tryz.prog 58 #[SL.ptr g,.int .i64 id,tbV nm u] w1 fun e w' => e = .returned (.tuple #[]) ∧ StD B g (n + 1) C (writeP D id (nm,l)) w1 w') := Lib.hid fun w1 u l hb hq => write_any B w1 g n C D ((h.below b0).below hb) (by omega) (Nat.le_trans (Nat.le_trans hB b0.size) hb.size) id hi nm u l hq (by omega) hSu hown.1.up (by omega)
 have HLK : Hid (R.2.2 = 0 → ∃ (i : Nat) (l : List Rw),findN R.1 nm 0 = (i : Int) ∧ R.1[i]? = some (nm,l) ∧ (lkT R.1 nm).getD [] = l) := Lib.hid fun he => by
  have ht1 := do_tabs (s := seenP D id) (kd := kd) (K := K) (V := V) (n := nm) (kb := kb) hsn.1 hn30 hiK hiV
  have ht2 := do_there (s := seenP D id) (kd := kd) (K := K) (V := V) (n := nm) (kb := kb) hsn.1 (by rw [hR]; exact he)
  rw [hR] at ht1 ht2
  obtain ⟨l,hl⟩ := Option.isSome_iff_exists.1 ht2
  obtain ⟨i,h1,h2⟩ := lk_find ht1.up hl
  exact ⟨i,l,h1,h2,by rw [hl]; rfl⟩
 have HLR : Hid (R.1.length ≤ 1000000) := Lib.hid (by
  have hc := do_cases (seenP D id) kd nm K V kb
  rw [hR] at hc
  have hs2 := hsn.2
  rcases hc with ⟨_,⟨_,e⟩ | ⟨_,_,e⟩ | ⟨_,_,e⟩⟩ | ⟨_,_,e⟩ | ⟨_,i,t,_,_,e⟩ <;> rw [e]
  ·show (seenP D id).length ≤ _; omega
  ·show (seenP D id).length ≤ _; omega
  ·show (madeS (seenP D id) nm).length ≤ _
   unfold madeS
   have := low_le (ltN nm) (seenP D id)
   rw [List.length_append,List.length_cons,List.length_take,List.length_drop]; omega
  ·show (seenP D id).length ≤ _; omega
  ·split
   ·show (seenP D id).length ≤ _; omega
   ·show (List.set _ _ _).length ≤ _
    rw [List.length_set]; omega)
 have HRW : Hid (kd ≠ 1 → R.2.1 = []) := Lib.hid fun hk1 => by rw [← hR]; exact do_rows hk1
 have hdo : doP D id kd nm K V kb = if R.2.2 = 0 then (if kd = 1 then (D,R.2.1,0) else (writeP D id (nm,(lkT R.1 nm).getD []),[],0)) else (failP D id,[],R.2.2) := by
  unfold doP
  rw [hR]
 rw [hdo]
 obtain ⟨ANS,hANS⟩ : ∃ A,(if R.2.2 = 0 then (if kd = 1 then (D,R.2.1,(0 : Int)) else (writeP D id (nm,(lkT R.1 nm).getD []),[],0)) else (failP D id,[],R.2.2)) = A := ⟨_,rfl⟩
 rw [hANS]
 have HAN0 := Lib.hid hANS
 obtain ⟨Z,hZ⟩ : ∃ Z,seenP D id = Z := ⟨_,rfl⟩
 rw [hZ] at HSE HDO
 clear h hw hI b0 k0 ht hT hK hV hk5 hn30 hiK hiV hTT hsn hown hdok hlen hSu hR hdo hZ hi hB hn hk hANS
 obtain ⟨R1,R2,R3⟩ := R
 go_enter Tryz.func39,Tryz.ntmps39
 go_wp2_with fail
 try rw [hW0]
 try rw [hcb]
 go_wp2_with fail
 refine HX.out.mono ?_
 rintro e w1 ⟨rfl,hb1⟩
 have B1 := Lib.hid hb1
 have hk1 := bk_bel K0.out hb1
 have K1 := Lib.hid hk1
 clear hb1 y0 y1 y2 y3 y4
 have y0 : w1.cell? ⟨cb,0,none⟩ = some (.int .i64 kd) := hk1.cell 0
 have y1 : w1.cell? ⟨cb,1,none⟩ = some (.string nm) := hk1.cell 1
 have y2 : w1.cell? ⟨cb,2,none⟩ = some (.int .i64 K) := hk1.cell 2
 have y3 : w1.cell? ⟨cb,3,none⟩ = some (.int .i64 V) := hk1.cell 3
 have y4 : w1.cell? ⟨cb,4,none⟩ = some (.bool kb) := hk1.cell 4
 clear hk1
 go_wp2_with fail
 refine wp_region_held_drew (S := (fun w' => w'.cell? ⟨cb,0,none⟩ = some (.int .i64 kd) ∧ w'.cell? ⟨cb,1,none⟩ = some (.string nm) ∧ w'.cell? ⟨cb,2,none⟩ = some (.int .i64 K) ∧ w'.cell? ⟨cb,3,none⟩ = some (.int .i64 V) ∧ w'.cell? ⟨cb,4,none⟩ = some (.bool kb))) (by kernel_rfl) ?_ (fun hS => ?_)
 ·exact ⟨y0,y1,y2,y3,y4⟩
 refine tkY 0 ?_ rfl hS ?_ ?_;rotate_left
 ·intro wz hz
  go_simp
  all_goals first | with_reducible rfl | omega
 try simp only [Act.put,pu]
 refine tkY 1 ?_ rfl hS ?_ ?_;rotate_left
 ·intro wz hz
  go_simp
  all_goals first | with_reducible rfl | omega
 try simp only [Act.put,pu]
 refine tkY 3 ?_ rfl hS ?_ ?_;rotate_left
 ·intro wz hz
  obtain ⟨z0,z1,z2,z3,z4⟩ := hz
  go_simp
  all_goals first | with_reducible rfl | omega
 try simp only [Act.put,pu]
 refine wpAnyH_ready (rs := [2]) (by kernel_rfl) (by simp) (AllReadyH.cons rfl (fun K' hK' => ?_) AllReadyH.nil)
 go_simp
 have hbd : Below w1.heap.size w1 w1.drew := (Below.refl _ _).drew
 refine (HSE.out w1.drew (B1.out.trans (hbd.mono B1.out.size))).mono ?_
 rintro e w2 ⟨v2,x2,rfl,hx2,hs2,hb2⟩
 have B2 := Lib.hid (B1.out.trans ((hbd.trans (hb2.mono hbd.size)).mono B1.out.size))
 have hk2 := bk_bel K1.out (hbd.trans (hb2.mono hbd.size))
 have K2 := Lib.hid hk2
 have SR2 := Lib.hid (hx2.sqE hs2).sr
 have hform2 : ∃ a c,v2 = .slice a x2.length c := own_sh2 hx2.own
 clear hx2 hs2 hb2 hbd y0 y1 y2 y3 y4
 have y0 : w2.cell? ⟨cb,0,none⟩ = some (.int .i64 kd) := hk2.cell 0
 have y1 : w2.cell? ⟨cb,1,none⟩ = some (.string nm) := hk2.cell 1
 have y2 : w2.cell? ⟨cb,2,none⟩ = some (.int .i64 K) := hk2.cell 2
 have y3 : w2.cell? ⟨cb,3,none⟩ = some (.int .i64 V) := hk2.cell 3
 have y4 : w2.cell? ⟨cb,4,none⟩ = some (.bool kb) := hk2.cell 4
 clear hk2
 obtain ⟨a2,c2,rfl⟩ := hform2
 refine hK'.out _ _ ?_ (fun hSn => ?_)
 ·exact ⟨y0,y1,y2,y3,y4⟩
 clear hK' K' hS
 have hS := hSn
 clear hSn
 try simp only [Act.put,pu]
 refine wpAnyH_ready (rs := [4]) (by kernel_rfl) (by simp) (AllReadyH.cons rfl (fun K' hK' => ?_) AllReadyH.nil)
 go_simp
 refine (HDO.out w2 _ SR2.out).mono ?_
 rintro e w3 ⟨v3,x3,vr,rfl,hx3,hs3,hr3,hb3⟩
 have B3 := Lib.hid (B2.out.trans (hb3.mono B2.out.size))
 have hk3 := bk_bel K2.out hb3
 have K3 := Lib.hid hk3
 have FS3 := Lib.hid hx3
 have TS3 := Lib.hid hs3
 have RQ3 := Lib.hid hr3.rq
 have hform3 : ∃ a c,v3 = .slice a x3.length c := own_sh2 hx3.own
 have hform4 : ∃ a c,vr = .slice a R2.length c := hr3.rq.form
 clear hx3 hs3 hb3 hr3 y0 y1 y2 y3 y4
 have y0 : w3.cell? ⟨cb,0,none⟩ = some (.int .i64 kd) := hk3.cell 0
 have y1 : w3.cell? ⟨cb,1,none⟩ = some (.string nm) := hk3.cell 1
 have y2 : w3.cell? ⟨cb,2,none⟩ = some (.int .i64 K) := hk3.cell 2
 have y3 : w3.cell? ⟨cb,3,none⟩ = some (.int .i64 V) := hk3.cell 3
 have y4 : w3.cell? ⟨cb,4,none⟩ = some (.bool kb) := hk3.cell 4
 clear hk3
 obtain ⟨a3,c3,rfl⟩ := hform3
 obtain ⟨a4,c4,rfl⟩ := hform4
 refine hK'.out _ _ ?_ (fun hSn => ?_)
 ·exact ⟨y0,y1,y2,y3,y4⟩
 clear hK' K' hS
 have hS := hSn
 clear hSn
 try simp only [Act.put,pu]
 refine tkY 5 ?_ rfl hS ?_ ?_;rotate_left
 ·intro wz hz
  go_simp
  all_goals first | with_reducible rfl | omega
 try simp only [Act.put,pu]
 refine tkY 6 ?_ rfl hS ?_ ?_;rotate_left
 ·intro wz hz
  go_simp
  all_goals first | with_reducible rfl | omega
 try simp only [Act.put,pu]
 refine tkY 7 ?_ rfl hS ?_ ?_;rotate_left
 ·intro wz hz
  go_simp
  all_goals first | with_reducible rfl | omega
 try simp only [Act.put,pu]
 refine tkY 8 ?_ rfl hS ?_ ?_;rotate_left
 ·intro wz hz
  go_simp
  all_goals first | with_reducible rfl | omega
 try simp only [Act.put,pu]
 refine tkY 9 ?_ rfl hS ?_ ?_;rotate_left
 ·intro wz hz
  go_simp
  all_goals first | with_reducible rfl | omega
 try simp only [Act.put,pu]
 refine tkY 10 ?_ rfl hS ?_ ?_;rotate_left
 ·intro wz hz
  go_simp
  all_goals first | with_reducible rfl | omega
 try simp only [Act.put,pu]
 refine tkY 11 ?_ rfl hS ?_ ?_;rotate_left
 ·intro wz hz
  go_simp
  all_goals first | with_reducible rfl | omega
 try simp only [Act.put,pu]
 refine wpAnyH_done (by kernel_rfl) ?_ _
 clear hS
 have HANS : Hid ((if R3 = 0 then (if kd = 1 then (D,R2,(0 : Int)) else (writeP D id (nm,(lkT R1 nm).getD []),[],0)) else (failP D id,[],R3)) = ANS) := HAN0
 clear HAN0
 by_cases he : R3 = 0
 ·subst he
  rw [if_pos rfl] at HANS
  by_cases hk1 : kd = 1
  ·subst hk1
   rw [if_pos rfl] at HANS
   go_wp2
   go_ret2
   rw [← HANS.out]
   exact ⟨_,rfl,RQ3.out,StD.pre B0.out (StD.pre B3.out ((StD.refl (H.out.below B3.out) (Below.refl _ _)).mono (Nat.le_succ _)))⟩
  ·rw [if_neg hk1] at HANS
   have hr2 : R2 = [] := HRW.out hk1
   subst hr2
   obtain ⟨i,l,hfi,hri,hgl⟩ := HLK.out rfl
   have TS3 : Hid (tbs x3 = R1) := TS3
   have hsr3 := FS3.out.srE TS3.out
   have hri : R1[i]? = some (nm,l) := hri
   have hfi : findN R1 nm 0 = (i : Int) := hfi
   have hgl : (lkT R1 nm).getD [] = l := hgl
   have hxl : x3.length = R1.length := by rw [← TS3.out,tbs_len]
   have hil := (List.getElem?_eq_some_iff.1 hri).1
   obtain ⟨u,hxu⟩ := tbs_inv x3 i (nm,l) (by rw [TS3.out]; exact hri)
   obtain ⟨gs,cp,hv,_,hgs⟩ := FS3.out.form (by omega)
   have HGS := Lib.hid hgs
   injection hv with ea _ ec
   subst ea ec
   obtain ⟨z0,z1⟩ := FS3.out.at_ i _ hxu
   have hru : RQ w3 u l := (FS3.out.rows _ (List.mem_of_getElem? hxu)).rq
   obtain ⟨ua,uc,rfl⟩ := hru.form
   have z0 : w3.cell? ⟨gs,i * 2,none⟩ = some (.string nm) := z0
   have z1 : w3.cell? ⟨gs,i * 2 + 1,none⟩ = some (.slice ua l.length uc) := z1
   have HFI := Lib.hid (find9 _ R1 nm (i : Int) hfi HLR.out w3 hsr3)
   have HRU := Lib.hid hru
   have HGL := Lib.hid hgl
   have HXL := Lib.hid hxl
   have l0 : (0 : Int) ≤ (i : Int) := by omega
   have l1 : (i : Int) < (x3.length : Int) := by omega
   clear hsr3 hri hfi hgl hxl hil hxu hru hgs
   go_wp2_with fail
   refine HFI.out.mono ?_
   rintro e w4 ⟨rfl,hb4⟩
   have z0 : w4.cell? ⟨gs,i * 2,none⟩ = some (.string nm) := (hb4.cell (p := ⟨gs,i * 2,none⟩) HGS.out).trans z0
   have z1 : w4.cell? ⟨gs,i * 2 + 1,none⟩ = some (.slice ua l.length uc) := (hb4.cell (p := ⟨gs,i * 2 + 1,none⟩) HGS.out).trans z1
   have HB4 := Lib.hid hb4
   have HRU4 := Lib.hid (HRU.out.bel hb4)
   have B4 := Lib.hid (B3.out.trans (hb4.mono B3.out.size))
   clear hb4 y0 y1 y2 y3 y4
   go_wp2_with fail
   refine (HWR.out w4 _ l B4.out HRU4.out).mono ?_
   rintro e w5 ⟨rfl,hs5⟩
   have HS5 := Lib.hid hs5
   clear hs5
   go_wp2
   go_ret2
   rw [← HANS.out,HGL.out]
   exact ⟨_,rfl,(.inl ⟨_,_,rfl,rfl⟩),StD.pre B0.out (StD.pre B4.out HS5.out)⟩
 ·rw [if_neg he] at HANS
  go_wp2_with fail
  refine (HFA.out w3 B3.out).mono ?_
  rintro e w4 ⟨rfl,hs4⟩
  have HS4 := Lib.hid hs4
  clear hs4 y0 y1 y2 y3 y4
  go_wp2
  go_ret2
  rw [← HANS.out]
  exact ⟨_,rfl,RQ.nil _,StD.pre B0.out (StD.pre B3.out (HS4.out.mono (Nat.le_succ _)))⟩

set_option maxHeartbeats 4000000 in
theorem run_none (B : Nat) (w : World) (g n : Nat) (C : Cdb) (D : Dbp) (h : CD B w g n C D) (hn : n ≤ 9000) (hB : B ≤ w.heap.size) (id : Int) (hi : I9 id) (cl kd : Int) (nm : ByteArray) (K V : Int) (kb : Bool) (m : Int) (hw : Wq m w) (hnm : nm.size ≤ 1000) (hK : i64B K) (hV : i64B V) (k : Nat) (hI : InvP D k) (hk : k ≤ 9000) (hs : isS id = false) :
  Calls Tryz.prog 15 #[SL.ptr g,.int .i64 id,.int .i64 cl,.agg #[.int .i64 kd,.string nm,.int .i64 K,.int .i64 V,.bool kb]] w (TdoP B g (n + 1) C (D,[],1) w) := by
 obtain ⟨W0,hW0⟩ : ∃ W,w.alloc (.cells #[.int .i64 kd,.string nm,.int .i64 K,.int .i64 V,.bool kb] 34) = W := ⟨_,rfl⟩
 obtain ⟨cb,hcb⟩ : ∃ b,w.heap.size = b := ⟨_,rfl⟩
 have b0 : Below w.heap.size w W0 := by rw [← hW0]; exact (Below.refl _ _).alloc (Nat.le_refl _) _
 have k0 : SL.Bk W0 cb 34 #[.int .i64 kd,.string nm,.int .i64 K,.int .i64 V,.bool kb] := by rw [← hW0,← hcb]; exact SL.Bk.new _ _ _
 have h0 := h.below b0
 have hB0 : B ≤ W0.heap.size := Nat.le_trans hB b0.size
 have hw0 := hw.below b0
 have H := Lib.hid h0
 have B0 := Lib.hid b0
 have HG := Lib.hid (dgiven_yes W0 g h0.cells.1)
 have HI := Lib.hid (iss_any id W0)
 rw [hs] at HI
 clear h hw hI b0 k0 h0 hB0 hw0 hK hV hi hB hn hk hs
 go_enter Tryz.func15,Tryz.ntmps15
 go_wp2_with fail
 try rw [hW0]
 try rw [hcb]
 refine HG.out.mono ?_
 rintro e w' ⟨rfl,rfl⟩
 go_wp2_with fail
 refine HI.out.mono ?_
 rintro e w' ⟨rfl,rfl⟩
 go_wp2
 go_ret2
 exact ⟨_,rfl,RQ.nil _,StD.pre B0.out ((StD.refl H.out (Below.refl _ _)).mono (Nat.le_succ _))⟩
set_option maxHeartbeats 4000000 in
theorem run_begin (B : Nat) (w : World) (g n : Nat) (C : Cdb) (D : Dbp) (h : CD B w g n C D) (hn : n ≤ 9000) (hB : B ≤ w.heap.size) (id : Int) (hi : I9 id) (cl kd : Int) (nm : ByteArray) (K V : Int) (kb : Bool) (m : Int) (hw : Wq m w) (hnm : nm.size ≤ 1000) (hK : i64B K) (hV : i64B V) (k : Nat) (hI : InvP D k) (hk : k ≤ 9000) (hs : isS id = true) (hc : cl = 3) :
  Calls Tryz.prog 15 #[SL.ptr g,.int .i64 id,.int .i64 cl,.agg #[.int .i64 kd,.string nm,.int .i64 K,.int .i64 V,.bool kb]] w (TdoP B g (n + 1) C ((beginP D id).1,[],(beginP D id).2) w) := by
 obtain ⟨W0,hW0⟩ : ∃ W,w.alloc (.cells #[.int .i64 kd,.string nm,.int .i64 K,.int .i64 V,.bool kb] 34) = W := ⟨_,rfl⟩
 obtain ⟨cb,hcb⟩ : ∃ b,w.heap.size = b := ⟨_,rfl⟩
 have b0 : Below w.heap.size w W0 := by rw [← hW0]; exact (Below.refl _ _).alloc (Nat.le_refl _) _
 have k0 : SL.Bk W0 cb 34 #[.int .i64 kd,.string nm,.int .i64 K,.int .i64 V,.bool kb] := by rw [← hW0,← hcb]; exact SL.Bk.new _ _ _
 have h0 := h.below b0
 have hB0 : B ≤ W0.heap.size := Nat.le_trans hB b0.size
 have hw0 := hw.below b0
 have H := Lib.hid h0
 have B0 := Lib.hid b0
 have HG := Lib.hid (dgiven_yes W0 g h0.cells.1)
 have HI := Lib.hid (iss_any id W0)
 rw [hs] at HI
 subst hc
 have HX := Lib.hid (begin_any B W0 g n C D h0 (by omega) hB0 id hi hs _ rfl)
 obtain ⟨R,hR⟩ : ∃ R,beginP D id = R := ⟨_,rfl⟩
 rw [hR] at HX ⊢
 clear hR
 clear h hw hI b0 k0 h0 hB0 hw0 hK hV hi hB hn hk hs
 go_enter Tryz.func15,Tryz.ntmps15
 go_wp2_with fail
 try rw [hW0]
 try rw [hcb]
 refine HG.out.mono ?_
 rintro e w' ⟨rfl,rfl⟩
 go_wp2_with fail
 refine HI.out.mono ?_
 rintro e w' ⟨rfl,rfl⟩
 go_wp2_with fail
 refine HX.out.mono ?_
 rintro e w1 ⟨rfl,hs1⟩
 have HS1 := Lib.hid hs1
 clear hs1
 go_wp2
 go_ret2
 exact ⟨_,rfl,RQ.nil _,StD.pre B0.out HS1.out⟩
set_option maxHeartbeats 4000000 in
theorem run_roll (B : Nat) (w : World) (g n : Nat) (C : Cdb) (D : Dbp) (h : CD B w g n C D) (hn : n ≤ 9000) (hB : B ≤ w.heap.size) (id : Int) (hi : I9 id) (cl kd : Int) (nm : ByteArray) (K V : Int) (kb : Bool) (m : Int) (hw : Wq m w) (hnm : nm.size ≤ 1000) (hK : i64B K) (hV : i64B V) (k : Nat) (hI : InvP D k) (hk : k ≤ 9000) (hs : isS id = true) (hc : cl = 5) :
  Calls Tryz.prog 15 #[SL.ptr g,.int .i64 id,.int .i64 cl,.agg #[.int .i64 kd,.string nm,.int .i64 K,.int .i64 V,.bool kb]] w (TdoP B g (n + 1) C ((rollP D id).1,[],(rollP D id).2) w) := by
 obtain ⟨W0,hW0⟩ : ∃ W,w.alloc (.cells #[.int .i64 kd,.string nm,.int .i64 K,.int .i64 V,.bool kb] 34) = W := ⟨_,rfl⟩
 obtain ⟨cb,hcb⟩ : ∃ b,w.heap.size = b := ⟨_,rfl⟩
 have b0 : Below w.heap.size w W0 := by rw [← hW0]; exact (Below.refl _ _).alloc (Nat.le_refl _) _
 have k0 : SL.Bk W0 cb 34 #[.int .i64 kd,.string nm,.int .i64 K,.int .i64 V,.bool kb] := by rw [← hW0,← hcb]; exact SL.Bk.new _ _ _
 have h0 := h.below b0
 have hB0 : B ≤ W0.heap.size := Nat.le_trans hB b0.size
 have hw0 := hw.below b0
 have H := Lib.hid h0
 have B0 := Lib.hid b0
 have HG := Lib.hid (dgiven_yes W0 g h0.cells.1)
 have HI := Lib.hid (iss_any id W0)
 rw [hs] at HI
 subst hc
 have HX := Lib.hid (roll_any B W0 g n C D h0 hB0 id hi hs _ rfl)
 obtain ⟨R,hR⟩ : ∃ R,rollP D id = R := ⟨_,rfl⟩
 rw [hR] at HX ⊢
 clear hR
 clear h hw hI b0 k0 h0 hB0 hw0 hK hV hi hB hn hk hs
 go_enter Tryz.func15,Tryz.ntmps15
 go_wp2_with fail
 try rw [hW0]
 try rw [hcb]
 refine HG.out.mono ?_
 rintro e w' ⟨rfl,rfl⟩
 go_wp2_with fail
 refine HI.out.mono ?_
 rintro e w' ⟨rfl,rfl⟩
 go_wp2_with fail
 refine HX.out.mono ?_
 rintro e w1 ⟨rfl,hs1⟩
 have HS1 := Lib.hid hs1
 clear hs1
 go_wp2
 go_ret2
 exact ⟨_,rfl,RQ.nil _,StD.pre B0.out (HS1.out.mono (Nat.le_succ _))⟩
set_option maxHeartbeats 4000000 in
theorem run_commit (B : Nat) (w : World) (g n : Nat) (C : Cdb) (D : Dbp) (h : CD B w g n C D) (hn : n ≤ 9000) (hB : B ≤ w.heap.size) (id : Int) (hi : I9 id) (cl kd : Int) (nm : ByteArray) (K V : Int) (kb : Bool) (m : Int) (hw : Wq m w) (hnm : nm.size ≤ 1000) (hK : i64B K) (hV : i64B V) (k : Nat) (hI : InvP D k) (hk : k ≤ 9000) (hs : isS id = true) (hc : cl = 4) :
  Calls Tryz.prog 15 #[SL.ptr g,.int .i64 id,.int .i64 cl,.agg #[.int .i64 kd,.string nm,.int .i64 K,.int .i64 V,.bool kb]] w (TdoP B g (n + 1) C ((commitP D id).1,[],(commitP D id).2) w) := by
 obtain ⟨W0,hW0⟩ : ∃ W,w.alloc (.cells #[.int .i64 kd,.string nm,.int .i64 K,.int .i64 V,.bool kb] 34) = W := ⟨_,rfl⟩
 obtain ⟨cb,hcb⟩ : ∃ b,w.heap.size = b := ⟨_,rfl⟩
 have b0 : Below w.heap.size w W0 := by rw [← hW0]; exact (Below.refl _ _).alloc (Nat.le_refl _) _
 have k0 : SL.Bk W0 cb 34 #[.int .i64 kd,.string nm,.int .i64 K,.int .i64 V,.bool kb] := by rw [← hW0,← hcb]; exact SL.Bk.new _ _ _
 have h0 := h.below b0
 have hB0 : B ≤ W0.heap.size := Nat.le_trans hB b0.size
 have hw0 := hw.below b0
 have H := Lib.hid h0
 have B0 := Lib.hid b0
 have HG := Lib.hid (dgiven_yes W0 g h0.cells.1)
 have HI := Lib.hid (iss_any id W0)
 rw [hs] at HI
 subst hc
 have hsn := hI.seen id
 have hlen := hI.st.len
 have HX := Lib.hid (commit_any B W0 g n C D h0 (by omega) hB0 id hi hs hI.st.tabs.up (hI.ownT id).1.up (by omega) (hsn.1.ok (by omega)).few _ rfl)
 obtain ⟨R,hR⟩ : ∃ R,commitP D id = R := ⟨_,rfl⟩
 rw [hR] at HX ⊢
 clear hR hsn hlen
 clear h hw hI b0 k0 h0 hB0 hw0 hK hV hi hB hn hk hs
 go_enter Tryz.func15,Tryz.ntmps15
 go_wp2_with fail
 try rw [hW0]
 try rw [hcb]
 refine HG.out.mono ?_
 rintro e w' ⟨rfl,rfl⟩
 go_wp2_with fail
 refine HI.out.mono ?_
 rintro e w' ⟨rfl,rfl⟩
 go_wp2_with fail
 refine HX.out.mono ?_
 rintro e w1 ⟨rfl,hs1⟩
 have HS1 := Lib.hid hs1
 clear hs1
 go_wp2
 go_ret2
 exact ⟨_,rfl,RQ.nil _,StD.pre B0.out (HS1.out.mono (Nat.le_succ _))⟩
set_option maxHeartbeats 4000000 in
theorem run_bad (B : Nat) (w : World) (g n : Nat) (C : Cdb) (D : Dbp) (h : CD B w g n C D) (hn : n ≤ 9000) (hB : B ≤ w.heap.size) (id : Int) (hi : I9 id) (cl kd : Int) (nm : ByteArray) (K V : Int) (kb : Bool) (m : Int) (hw : Wq m w) (hnm : nm.size ≤ 1000) (hK : i64B K) (hV : i64B V) (k : Nat) (hI : InvP D k) (hk : k ≤ 9000) (hs : isS id = true) (h3 : cl ≠ 3) (h4 : cl ≠ 4) (h5 : cl ≠ 5) (he : stO (D.2 id) = 69) :
  Calls Tryz.prog 15 #[SL.ptr g,.int .i64 id,.int .i64 cl,.agg #[.int .i64 kd,.string nm,.int .i64 K,.int .i64 V,.bool kb]] w (TdoP B g (n + 1) C (D,[],13) w) := by
 obtain ⟨W0,hW0⟩ : ∃ W,w.alloc (.cells #[.int .i64 kd,.string nm,.int .i64 K,.int .i64 V,.bool kb] 34) = W := ⟨_,rfl⟩
 obtain ⟨cb,hcb⟩ : ∃ b,w.heap.size = b := ⟨_,rfl⟩
 have b0 : Below w.heap.size w W0 := by rw [← hW0]; exact (Below.refl _ _).alloc (Nat.le_refl _) _
 have k0 : SL.Bk W0 cb 34 #[.int .i64 kd,.string nm,.int .i64 K,.int .i64 V,.bool kb] := by rw [← hW0,← hcb]; exact SL.Bk.new _ _ _
 have h0 := h.below b0
 have hB0 : B ≤ W0.heap.size := Nat.le_trans hB b0.size
 have hw0 := hw.below b0
 have H := Lib.hid h0
 have B0 := Lib.hid b0
 have HG := Lib.hid (dgiven_yes W0 g h0.cells.1)
 have HI := Lib.hid (iss_any id W0)
 rw [hs] at HI
 have hst : statP D id = stO (D.2 id) := by unfold statP; rw [hs]; rfl
 obtain ⟨z,hz⟩ : ∃ z,stO (D.2 id) = z := ⟨_,rfl⟩
 rw [hz] at hst he
 have HST := Lib.hid (status_any B W0 g n C D h0 id hi _ hst)
 subst he
 clear hst hz
 clear h hw hI b0 k0 h0 hB0 hw0 hK hV hi hB hn hk hs
 go_enter Tryz.func15,Tryz.ntmps15
 go_wp2_with fail
 try rw [hW0]
 try rw [hcb]
 refine HG.out.mono ?_
 rintro e w' ⟨rfl,rfl⟩
 go_wp2_with fail
 refine HI.out.mono ?_
 rintro e w' ⟨rfl,rfl⟩
 go_wp2_with fail
 refine HST.out.mono ?_
 rintro e w' ⟨rfl,rfl⟩
 go_wp2
 go_ret2
 exact ⟨_,rfl,RQ.nil _,StD.pre B0.out ((StD.refl H.out (Below.refl _ _)).mono (Nat.le_succ _))⟩
set_option maxHeartbeats 4000000 in
theorem run_empty (B : Nat) (w : World) (g n : Nat) (C : Cdb) (D : Dbp) (h : CD B w g n C D) (hn : n ≤ 9000) (hB : B ≤ w.heap.size) (id : Int) (hi : I9 id) (cl kd : Int) (nm : ByteArray) (K V : Int) (kb : Bool) (m : Int) (hw : Wq m w) (hnm : nm.size ≤ 1000) (hK : i64B K) (hV : i64B V) (k : Nat) (hI : InvP D k) (hk : k ≤ 9000) (hs : isS id = true) (hc : cl = 0) (he : stO (D.2 id) ≠ 69) :
  Calls Tryz.prog 15 #[SL.ptr g,.int .i64 id,.int .i64 cl,.agg #[.int .i64 kd,.string nm,.int .i64 K,.int .i64 V,.bool kb]] w (TdoP B g (n + 1) C (D,[],0) w) := by
 obtain ⟨W0,hW0⟩ : ∃ W,w.alloc (.cells #[.int .i64 kd,.string nm,.int .i64 K,.int .i64 V,.bool kb] 34) = W := ⟨_,rfl⟩
 obtain ⟨cb,hcb⟩ : ∃ b,w.heap.size = b := ⟨_,rfl⟩
 have b0 : Below w.heap.size w W0 := by rw [← hW0]; exact (Below.refl _ _).alloc (Nat.le_refl _) _
 have k0 : SL.Bk W0 cb 34 #[.int .i64 kd,.string nm,.int .i64 K,.int .i64 V,.bool kb] := by rw [← hW0,← hcb]; exact SL.Bk.new _ _ _
 have h0 := h.below b0
 have hB0 : B ≤ W0.heap.size := Nat.le_trans hB b0.size
 have hw0 := hw.below b0
 have H := Lib.hid h0
 have B0 := Lib.hid b0
 have HG := Lib.hid (dgiven_yes W0 g h0.cells.1)
 have HI := Lib.hid (iss_any id W0)
 rw [hs] at HI
 have hst : statP D id = stO (D.2 id) := by unfold statP; rw [hs]; rfl
 obtain ⟨z,hz⟩ : ∃ z,stO (D.2 id) = z := ⟨_,rfl⟩
 rw [hz] at hst he
 have HST := Lib.hid (status_any B W0 g n C D h0 id hi _ hst)
 subst hc
 clear hst hz
 clear h hw hI b0 k0 h0 hB0 hw0 hK hV hi hB hn hk hs
 go_enter Tryz.func15,Tryz.ntmps15
 go_wp2_with fail
 try rw [hW0]
 try rw [hcb]
 refine HG.out.mono ?_
 rintro e w' ⟨rfl,rfl⟩
 go_wp2_with fail
 refine HI.out.mono ?_
 rintro e w' ⟨rfl,rfl⟩
 go_wp2_with fail
 refine HST.out.mono ?_
 rintro e w' ⟨rfl,rfl⟩
 go_wp2
 go_ret2
 exact ⟨_,rfl,RQ.nil _,StD.pre B0.out ((StD.refl H.out (Below.refl _ _)).mono (Nat.le_succ _))⟩
set_option maxHeartbeats 4000000 in
theorem run_state (B : Nat) (w : World) (g n : Nat) (C : Cdb) (D : Dbp) (h : CD B w g n C D) (hn : n ≤ 9000) (hB : B ≤ w.heap.size) (id : Int) (hi : I9 id) (cl kd : Int) (nm : ByteArray) (K V : Int) (kb : Bool) (m : Int) (hw : Wq m w) (hnm : nm.size ≤ 1000) (hK : i64B K) (hV : i64B V) (k : Nat) (hI : InvP D k) (hk : k ≤ 9000) (hs : isS id = true) (hc : cl = 6) (he : stO (D.2 id) ≠ 69) :
  Calls Tryz.prog 15 #[SL.ptr g,.int .i64 id,.int .i64 cl,.agg #[.int .i64 kd,.string nm,.int .i64 K,.int .i64 V,.bool kb]] w (TdoP B g (n + 1) C (D,[],0) w) := by
 obtain ⟨W0,hW0⟩ : ∃ W,w.alloc (.cells #[.int .i64 kd,.string nm,.int .i64 K,.int .i64 V,.bool kb] 34) = W := ⟨_,rfl⟩
 obtain ⟨cb,hcb⟩ : ∃ b,w.heap.size = b := ⟨_,rfl⟩
 have b0 : Below w.heap.size w W0 := by rw [← hW0]; exact (Below.refl _ _).alloc (Nat.le_refl _) _
 have k0 : SL.Bk W0 cb 34 #[.int .i64 kd,.string nm,.int .i64 K,.int .i64 V,.bool kb] := by rw [← hW0,← hcb]; exact SL.Bk.new _ _ _
 have h0 := h.below b0
 have hB0 : B ≤ W0.heap.size := Nat.le_trans hB b0.size
 have hw0 := hw.below b0
 have H := Lib.hid h0
 have B0 := Lib.hid b0
 have HG := Lib.hid (dgiven_yes W0 g h0.cells.1)
 have HI := Lib.hid (iss_any id W0)
 rw [hs] at HI
 have hst : statP D id = stO (D.2 id) := by unfold statP; rw [hs]; rfl
 obtain ⟨z,hz⟩ : ∃ z,stO (D.2 id) = z := ⟨_,rfl⟩
 rw [hz] at hst he
 have HST := Lib.hid (status_any B W0 g n C D h0 id hi _ hst)
 subst hc
 clear hst hz
 clear h hw hI b0 k0 h0 hB0 hw0 hK hV hi hB hn hk hs
 go_enter Tryz.func15,Tryz.ntmps15
 go_wp2_with fail
 try rw [hW0]
 try rw [hcb]
 refine HG.out.mono ?_
 rintro e w' ⟨rfl,rfl⟩
 go_wp2_with fail
 refine HI.out.mono ?_
 rintro e w' ⟨rfl,rfl⟩
 go_wp2_with fail
 refine HST.out.mono ?_
 rintro e w' ⟨rfl,rfl⟩
 go_wp2
 go_ret2
 exact ⟨_,rfl,RQ.nil _,StD.pre B0.out ((StD.refl H.out (Below.refl _ _)).mono (Nat.le_succ _))⟩
set_option maxHeartbeats 4000000 in
theorem run_read (B : Nat) (w : World) (g n : Nat) (C : Cdb) (D : Dbp) (h : CD B w g n C D) (hn : n ≤ 9000) (hB : B ≤ w.heap.size) (id : Int) (hi : I9 id) (cl kd : Int) (nm : ByteArray) (K V : Int) (kb : Bool) (m : Int) (hw : Wq m w) (hnm : nm.size ≤ 1000) (hK : i64B K) (hV : i64B V) (k : Nat) (hI : InvP D k) (hk : k ≤ 9000) (hs : isS id = true) (hc : cl = 1) (he : stO (D.2 id) ≠ 69) :
  Calls Tryz.prog 15 #[SL.ptr g,.int .i64 id,.int .i64 cl,.agg #[.int .i64 kd,.string nm,.int .i64 K,.int .i64 V,.bool kb]] w (TdoP B g (n + 1) C (if txB kd nm K V kb = true then doP D id kd nm K V kb else (D,[],1)) w) := by
 obtain ⟨W0,hW0⟩ : ∃ W,w.alloc (.cells #[.int .i64 kd,.string nm,.int .i64 K,.int .i64 V,.bool kb] 34) = W := ⟨_,rfl⟩
 obtain ⟨cb,hcb⟩ : ∃ b,w.heap.size = b := ⟨_,rfl⟩
 have b0 : Below w.heap.size w W0 := by rw [← hW0]; exact (Below.refl _ _).alloc (Nat.le_refl _) _
 have k0 : SL.Bk W0 cb 34 #[.int .i64 kd,.string nm,.int .i64 K,.int .i64 V,.bool kb] := by rw [← hW0,← hcb]; exact SL.Bk.new _ _ _
 have h0 := h.below b0
 have hB0 : B ≤ W0.heap.size := Nat.le_trans hB b0.size
 have hw0 := hw.below b0
 have H := Lib.hid h0
 have B0 := Lib.hid b0
 have HG := Lib.hid (dgiven_yes W0 g h0.cells.1)
 have HI := Lib.hid (iss_any id W0)
 rw [hs] at HI
 have hst : statP D id = stO (D.2 id) := by unfold statP; rw [hs]; rfl
 obtain ⟨z,hz⟩ : ∃ z,stO (D.2 id) = z := ⟨_,rfl⟩
 rw [hz] at hst he
 have HST := Lib.hid (status_any B W0 g n C D h0 id hi _ hst)
 have y0 : W0.cell? ⟨cb,0,none⟩ = some (.int .i64 kd) := k0.cell 0
 have y1 : W0.cell? ⟨cb,1,none⟩ = some (.string nm) := k0.cell 1
 have y2 : W0.cell? ⟨cb,2,none⟩ = some (.int .i64 K) := k0.cell 2
 have y3 : W0.cell? ⟨cb,3,none⟩ = some (.int .i64 V) := k0.cell 3
 have y4 : W0.cell? ⟨cb,4,none⟩ = some (.bool kb) := k0.cell 4
 subst hc
 obtain ⟨R,hR⟩ : ∃ R,(if txB kd nm K V kb = true then doP D id kd nm K V kb else (D,[],(1 : Int))) = R := ⟨_,rfl⟩
 have HX : Hid (Calls Tryz.prog 39 #[SL.ptr g,.int .i64 id,.agg #[.int .i64 kd,.string nm,.int .i64 K,.int .i64 V,.bool kb]] W0 (TdoP B g (n + 1) C R W0)) := Lib.hid (by
  rw [← hR]
  cases ht : txB kd nm K V kb with
  | true =>
   rw [if_pos rfl]
   exact tdo_yes B W0 g n C D h0 (by omega) hB0 id hi kd nm K V kb m hw0 hnm hK hV k hI (by omega) ht
  | false =>
   rw [if_neg (by simp)]
   refine (tdo_no B W0 g n C D h0 (by omega) hB0 id hi kd nm K V kb m hw0 hnm hK hV k hI (by omega) ht).mono ?_
   rintro e w' ⟨rv,h1,h2,h3⟩
   exact ⟨rv,h1,h2,h3.mono (Nat.le_succ _)⟩)
 rw [hR]
 clear hst hz hR
 clear h hw hI b0 k0 h0 hB0 hw0 hK hV hi hB hn hk hs
 go_enter Tryz.func15,Tryz.ntmps15
 go_wp2_with fail
 try rw [hW0]
 try rw [hcb]
 refine HG.out.mono ?_
 rintro e w' ⟨rfl,rfl⟩
 go_wp2_with fail
 refine HI.out.mono ?_
 rintro e w' ⟨rfl,rfl⟩
 go_wp2_with fail
 refine HST.out.mono ?_
 rintro e w' ⟨rfl,rfl⟩
 go_wp2_with fail
 refine HX.out.mono ?_
 rintro e w1 ⟨rv,rfl,hq,hs1⟩
 have HQ := Lib.hid hq
 have HS1 := Lib.hid hs1
 obtain ⟨ra,rc,rfl⟩ := hq.form
 clear hs1 hq y0 y1 y2 y3 y4
 go_wp2
 go_ret2
 exact ⟨_,rfl,HQ.out,StD.pre B0.out HS1.out⟩
set_option maxHeartbeats 4000000 in
theorem run_write (B : Nat) (w : World) (g n : Nat) (C : Cdb) (D : Dbp) (h : CD B w g n C D) (hn : n ≤ 9000) (hB : B ≤ w.heap.size) (id : Int) (hi : I9 id) (cl kd : Int) (nm : ByteArray) (K V : Int) (kb : Bool) (m : Int) (hw : Wq m w) (hnm : nm.size ≤ 1000) (hK : i64B K) (hV : i64B V) (k : Nat) (hI : InvP D k) (hk : k ≤ 9000) (hs : isS id = true) (hc : cl = 2) (he : stO (D.2 id) ≠ 69) :
  Calls Tryz.prog 15 #[SL.ptr g,.int .i64 id,.int .i64 cl,.agg #[.int .i64 kd,.string nm,.int .i64 K,.int .i64 V,.bool kb]] w (TdoP B g (n + 1) C (if txB kd nm K V kb = true then doP D id kd nm K V kb else (D,[],1)) w) := by
 obtain ⟨W0,hW0⟩ : ∃ W,w.alloc (.cells #[.int .i64 kd,.string nm,.int .i64 K,.int .i64 V,.bool kb] 34) = W := ⟨_,rfl⟩
 obtain ⟨cb,hcb⟩ : ∃ b,w.heap.size = b := ⟨_,rfl⟩
 have b0 : Below w.heap.size w W0 := by rw [← hW0]; exact (Below.refl _ _).alloc (Nat.le_refl _) _
 have k0 : SL.Bk W0 cb 34 #[.int .i64 kd,.string nm,.int .i64 K,.int .i64 V,.bool kb] := by rw [← hW0,← hcb]; exact SL.Bk.new _ _ _
 have h0 := h.below b0
 have hB0 : B ≤ W0.heap.size := Nat.le_trans hB b0.size
 have hw0 := hw.below b0
 have H := Lib.hid h0
 have B0 := Lib.hid b0
 have HG := Lib.hid (dgiven_yes W0 g h0.cells.1)
 have HI := Lib.hid (iss_any id W0)
 rw [hs] at HI
 have hst : statP D id = stO (D.2 id) := by unfold statP; rw [hs]; rfl
 obtain ⟨z,hz⟩ : ∃ z,stO (D.2 id) = z := ⟨_,rfl⟩
 rw [hz] at hst he
 have HST := Lib.hid (status_any B W0 g n C D h0 id hi _ hst)
 have y0 : W0.cell? ⟨cb,0,none⟩ = some (.int .i64 kd) := k0.cell 0
 have y1 : W0.cell? ⟨cb,1,none⟩ = some (.string nm) := k0.cell 1
 have y2 : W0.cell? ⟨cb,2,none⟩ = some (.int .i64 K) := k0.cell 2
 have y3 : W0.cell? ⟨cb,3,none⟩ = some (.int .i64 V) := k0.cell 3
 have y4 : W0.cell? ⟨cb,4,none⟩ = some (.bool kb) := k0.cell 4
 subst hc
 obtain ⟨R,hR⟩ : ∃ R,(if txB kd nm K V kb = true then doP D id kd nm K V kb else (D,[],(1 : Int))) = R := ⟨_,rfl⟩
 have HX : Hid (Calls Tryz.prog 39 #[SL.ptr g,.int .i64 id,.agg #[.int .i64 kd,.string nm,.int .i64 K,.int .i64 V,.bool kb]] W0 (TdoP B g (n + 1) C R W0)) := Lib.hid (by
  rw [← hR]
  cases ht : txB kd nm K V kb with
  | true =>
   rw [if_pos rfl]
   exact tdo_yes B W0 g n C D h0 (by omega) hB0 id hi kd nm K V kb m hw0 hnm hK hV k hI (by omega) ht
  | false =>
   rw [if_neg (by simp)]
   refine (tdo_no B W0 g n C D h0 (by omega) hB0 id hi kd nm K V kb m hw0 hnm hK hV k hI (by omega) ht).mono ?_
   rintro e w' ⟨rv,h1,h2,h3⟩
   exact ⟨rv,h1,h2,h3.mono (Nat.le_succ _)⟩)
 rw [hR]
 clear hst hz hR
 clear h hw hI b0 k0 h0 hB0 hw0 hK hV hi hB hn hk hs
 go_enter Tryz.func15,Tryz.ntmps15
 go_wp2_with fail
 try rw [hW0]
 try rw [hcb]
 refine HG.out.mono ?_
 rintro e w' ⟨rfl,rfl⟩
 go_wp2_with fail
 refine HI.out.mono ?_
 rintro e w' ⟨rfl,rfl⟩
 go_wp2_with fail
 refine HST.out.mono ?_
 rintro e w' ⟨rfl,rfl⟩
 go_wp2_with fail
 refine HX.out.mono ?_
 rintro e w1 ⟨rv,rfl,hq,hs1⟩
 have HQ := Lib.hid hq
 have HS1 := Lib.hid hs1
 obtain ⟨ra,rc,rfl⟩ := hq.form
 clear hs1 hq y0 y1 y2 y3 y4
 go_wp2
 go_ret2
 exact ⟨_,rfl,HQ.out,StD.pre B0.out HS1.out⟩
set_option maxHeartbeats 4000000 in
theorem run_unknown (B : Nat) (w : World) (g n : Nat) (C : Cdb) (D : Dbp) (h : CD B w g n C D) (hn : n ≤ 9000) (hB : B ≤ w.heap.size) (id : Int) (hi : I9 id) (cl kd : Int) (nm : ByteArray) (K V : Int) (kb : Bool) (m : Int) (hw : Wq m w) (hnm : nm.size ≤ 1000) (hK : i64B K) (hV : i64B V) (k : Nat) (hI : InvP D k) (hk : k ≤ 9000) (hs : isS id = true) (hc : cl = 8) (he : stO (D.2 id) ≠ 69) :
  Calls Tryz.prog 15 #[SL.ptr g,.int .i64 id,.int .i64 cl,.agg #[.int .i64 kd,.string nm,.int .i64 K,.int .i64 V,.bool kb]] w (TdoP B g (n + 1) C (if txB kd nm K V kb = true then doP D id kd nm K V kb else (D,[],1)) w) := by
 obtain ⟨W0,hW0⟩ : ∃ W,w.alloc (.cells #[.int .i64 kd,.string nm,.int .i64 K,.int .i64 V,.bool kb] 34) = W := ⟨_,rfl⟩
 obtain ⟨cb,hcb⟩ : ∃ b,w.heap.size = b := ⟨_,rfl⟩
 have b0 : Below w.heap.size w W0 := by rw [← hW0]; exact (Below.refl _ _).alloc (Nat.le_refl _) _
 have k0 : SL.Bk W0 cb 34 #[.int .i64 kd,.string nm,.int .i64 K,.int .i64 V,.bool kb] := by rw [← hW0,← hcb]; exact SL.Bk.new _ _ _
 have h0 := h.below b0
 have hB0 : B ≤ W0.heap.size := Nat.le_trans hB b0.size
 have hw0 := hw.below b0
 have H := Lib.hid h0
 have B0 := Lib.hid b0
 have HG := Lib.hid (dgiven_yes W0 g h0.cells.1)
 have HI := Lib.hid (iss_any id W0)
 rw [hs] at HI
 have hst : statP D id = stO (D.2 id) := by unfold statP; rw [hs]; rfl
 obtain ⟨z,hz⟩ : ∃ z,stO (D.2 id) = z := ⟨_,rfl⟩
 rw [hz] at hst he
 have HST := Lib.hid (status_any B W0 g n C D h0 id hi _ hst)
 have y0 : W0.cell? ⟨cb,0,none⟩ = some (.int .i64 kd) := k0.cell 0
 have y1 : W0.cell? ⟨cb,1,none⟩ = some (.string nm) := k0.cell 1
 have y2 : W0.cell? ⟨cb,2,none⟩ = some (.int .i64 K) := k0.cell 2
 have y3 : W0.cell? ⟨cb,3,none⟩ = some (.int .i64 V) := k0.cell 3
 have y4 : W0.cell? ⟨cb,4,none⟩ = some (.bool kb) := k0.cell 4
 subst hc
 obtain ⟨R,hR⟩ : ∃ R,(if txB kd nm K V kb = true then doP D id kd nm K V kb else (D,[],(1 : Int))) = R := ⟨_,rfl⟩
 have HX : Hid (Calls Tryz.prog 39 #[SL.ptr g,.int .i64 id,.agg #[.int .i64 kd,.string nm,.int .i64 K,.int .i64 V,.bool kb]] W0 (TdoP B g (n + 1) C R W0)) := Lib.hid (by
  rw [← hR]
  cases ht : txB kd nm K V kb with
  | true =>
   rw [if_pos rfl]
   exact tdo_yes B W0 g n C D h0 (by omega) hB0 id hi kd nm K V kb m hw0 hnm hK hV k hI (by omega) ht
  | false =>
   rw [if_neg (by simp)]
   refine (tdo_no B W0 g n C D h0 (by omega) hB0 id hi kd nm K V kb m hw0 hnm hK hV k hI (by omega) ht).mono ?_
   rintro e w' ⟨rv,h1,h2,h3⟩
   exact ⟨rv,h1,h2,h3.mono (Nat.le_succ _)⟩)
 rw [hR]
 clear hst hz hR
 clear h hw hI b0 k0 h0 hB0 hw0 hK hV hi hB hn hk hs
 go_enter Tryz.func15,Tryz.ntmps15
 go_wp2_with fail
 try rw [hW0]
 try rw [hcb]
 refine HG.out.mono ?_
 rintro e w' ⟨rfl,rfl⟩
 go_wp2_with fail
 refine HI.out.mono ?_
 rintro e w' ⟨rfl,rfl⟩
 go_wp2_with fail
 refine HST.out.mono ?_
 rintro e w' ⟨rfl,rfl⟩
 go_wp2_with fail
 refine HX.out.mono ?_
 rintro e w1 ⟨rv,rfl,hq,hs1⟩
 have HQ := Lib.hid hq
 have HS1 := Lib.hid hs1
 obtain ⟨ra,rc,rfl⟩ := hq.form
 clear hs1 hq y0 y1 y2 y3 y4
 go_wp2
 go_ret2
 exact ⟨_,rfl,HQ.out,StD.pre B0.out HS1.out⟩
set_option maxHeartbeats 4000000 in
theorem run_else (B : Nat) (w : World) (g n : Nat) (C : Cdb) (D : Dbp) (h : CD B w g n C D) (hn : n ≤ 9000) (hB : B ≤ w.heap.size) (id : Int) (hi : I9 id) (cl kd : Int) (nm : ByteArray) (K V : Int) (kb : Bool) (m : Int) (hw : Wq m w) (hnm : nm.size ≤ 1000) (hK : i64B K) (hV : i64B V) (k : Nat) (hI : InvP D k) (hk : k ≤ 9000) (hs : isS id = true) (h3 : cl ≠ 3) (h4 : cl ≠ 4) (h5 : cl ≠ 5) (h0c : cl ≠ 0) (h6 : cl ≠ 6) (h1 : cl ≠ 1) (h2 : cl ≠ 2) (h8 : cl ≠ 8) (he : stO (D.2 id) ≠ 69) :
  Calls Tryz.prog 15 #[SL.ptr g,.int .i64 id,.int .i64 cl,.agg #[.int .i64 kd,.string nm,.int .i64 K,.int .i64 V,.bool kb]] w (TdoP B g (n + 1) C (failP D id,[],5) w) := by
 obtain ⟨W0,hW0⟩ : ∃ W,w.alloc (.cells #[.int .i64 kd,.string nm,.int .i64 K,.int .i64 V,.bool kb] 34) = W := ⟨_,rfl⟩
 obtain ⟨cb,hcb⟩ : ∃ b,w.heap.size = b := ⟨_,rfl⟩
 have b0 : Below w.heap.size w W0 := by rw [← hW0]; exact (Below.refl _ _).alloc (Nat.le_refl _) _
 have k0 : SL.Bk W0 cb 34 #[.int .i64 kd,.string nm,.int .i64 K,.int .i64 V,.bool kb] := by rw [← hW0,← hcb]; exact SL.Bk.new _ _ _
 have h0 := h.below b0
 have hB0 : B ≤ W0.heap.size := Nat.le_trans hB b0.size
 have hw0 := hw.below b0
 have H := Lib.hid h0
 have B0 := Lib.hid b0
 have HG := Lib.hid (dgiven_yes W0 g h0.cells.1)
 have HI := Lib.hid (iss_any id W0)
 rw [hs] at HI
 have hst : statP D id = stO (D.2 id) := by unfold statP; rw [hs]; rfl
 obtain ⟨z,hz⟩ : ∃ z,stO (D.2 id) = z := ⟨_,rfl⟩
 rw [hz] at hst he
 have HST := Lib.hid (status_any B W0 g n C D h0 id hi _ hst)
 have HX := Lib.hid (fail_any B W0 g n C D h0 hB0 id hi)
 clear hst hz
 clear h hw hI b0 k0 h0 hB0 hw0 hK hV hi hB hn hk hs
 go_enter Tryz.func15,Tryz.ntmps15
 go_wp2_with fail
 try rw [hW0]
 try rw [hcb]
 refine HG.out.mono ?_
 rintro e w' ⟨rfl,rfl⟩
 go_wp2_with fail
 refine HI.out.mono ?_
 rintro e w' ⟨rfl,rfl⟩
 go_wp2_with fail
 refine HST.out.mono ?_
 rintro e w' ⟨rfl,rfl⟩
 go_wp2_with fail
 refine HX.out.mono ?_
 rintro e w1 ⟨rfl,hs1⟩
 have HS1 := Lib.hid hs1
 clear hs1
 go_wp2
 go_ret2
 exact ⟨_,rfl,RQ.nil _,StD.pre B0.out (HS1.out.mono (Nat.le_succ _))⟩
theorem run_any (B : Nat) (w : World) (g n : Nat) (C : Cdb) (D : Dbp) (h : CD B w g n C D) (hn : n ≤ 9000) (hB : B ≤ w.heap.size) (id : Int) (hi : I9 id) (cl kd : Int) (nm : ByteArray) (K V : Int) (kb : Bool) (m : Int) (hw : Wq m w) (hnm : nm.size ≤ 1000) (hK : i64B K) (hV : i64B V) (k : Nat) (hI : InvP D k) (hk : k ≤ 9000) :
  Calls Tryz.prog 15 #[SL.ptr g,.int .i64 id,.int .i64 cl,.agg #[.int .i64 kd,.string nm,.int .i64 K,.int .i64 V,.bool kb]] w (TdoP B g (n + 1) C (runP D id cl kd nm K V kb (txB kd nm K V kb)) w) := by
 unfold runP
 cases hs : isS id with
 | false =>
  rw [if_neg (by simp)]
  exact run_none B w g n C D h hn hB id hi cl kd nm K V kb m hw hnm hK hV k hI hk hs
 | true =>
  rw [if_pos rfl]
  unfold runS
  by_cases h3 : cl = 3
  ·rw [if_pos h3]; exact run_begin B w g n C D h hn hB id hi cl kd nm K V kb m hw hnm hK hV k hI hk hs h3
  rw [if_neg h3]
  by_cases h4 : cl = 4
  ·rw [if_pos h4]; exact run_commit B w g n C D h hn hB id hi cl kd nm K V kb m hw hnm hK hV k hI hk hs h4
  rw [if_neg h4]
  by_cases h5 : cl = 5
  ·rw [if_pos h5]; exact run_roll B w g n C D h hn hB id hi cl kd nm K V kb m hw hnm hK hV k hI hk hs h5
  rw [if_neg h5]
  by_cases he : stO (D.2 id) = 69
  ·rw [if_pos he]; exact run_bad B w g n C D h hn hB id hi cl kd nm K V kb m hw hnm hK hV k hI hk hs h3 h4 h5 he
  rw [if_neg he]
  by_cases h0 : cl = 0
  ·rw [if_pos (.inl h0)]; exact run_empty B w g n C D h hn hB id hi cl kd nm K V kb m hw hnm hK hV k hI hk hs h0 he
  by_cases h6 : cl = 6
  ·rw [if_pos (.inr h6)]; exact run_state B w g n C D h hn hB id hi cl kd nm K V kb m hw hnm hK hV k hI hk hs h6 he
  rw [if_neg (by omega)]
  by_cases h1 : cl = 1
  ·rw [if_pos (.inl h1)]; exact run_read B w g n C D h hn hB id hi cl kd nm K V kb m hw hnm hK hV k hI hk hs h1 he
  by_cases h2 : cl = 2
  ·rw [if_pos (.inr (.inl h2))]; exact run_write B w g n C D h hn hB id hi cl kd nm K V kb m hw hnm hK hV k hI hk hs h2 he
  by_cases h8 : cl = 8
  ·rw [if_pos (.inr (.inr h8))]; exact run_unknown B w g n C D h hn hB id hi cl kd nm K V kb m hw hnm hK hV k hI hk hs h8 he
  rw [if_neg (by omega)]
  exact run_else B w g n C D h hn hB id hi cl kd nm K V kb m hw hnm hK hV k hI hk hs h3 h4 h5 h0 h6 h1 h2 h8 he

def NewD (B : Nat) (s : List Tb) (w : World) (e : Ending) (w' : World) : Prop := ∃ g C,e = .returned (.tuple #[SL.ptr g,.int .i64 0]) ∧ CD B w' g 0 C (s,fun _ => none) ∧ (∀ b,C.own g b → w.heap.size ≤ b) ∧ Below w.heap.size w w'
theorem new_no (v : Value) (s : List Tb) (w : World) (h : SR w v s) (hr : rightL s = false) :
  Calls Tryz.prog 10 #[v] w fun e w' => e = .returned (.tuple #[.pointer none,.int .i64 4]) ∧ Below w.heap.size w w' := by
 have HR := Lib.hid (right_any v s w h)
 rw [hr] at HR
 obtain ⟨a,c,rfl⟩ := h.form
 clear h hr
 go_enter Tryz.func10,Tryz.ntmps10
 go_wp2_with fail
 refine HR.out.mono ?_
 rintro e w1 ⟨rfl,hb1⟩
 have B1 := Lib.hid hb1
 clear hb1
 go_wp2
 go_ret2
 exact ⟨rfl,B1.out⟩
set_option maxHeartbeats 2000000 in
theorem new_yes (B : Nat) (v : Value) (s : List Tb) (w : World) (h : SR w v s) (hr : rightL s = true) (hB : B ≤ w.heap.size) :
  Calls Tryz.prog 10 #[v] w (NewD B s w) := by
 have hp := (right_iff s).1 hr
 have hf : FewS s := (hp.tabs.ok (by have := hp.len; omega)).few
 have HR := Lib.hid (right_any v s w h)
 rw [hr] at HR
 have HC : Hid (∀ w1,Below w.heap.size w w1 → Calls Tryz.prog 31 #[v] w1 (CopP s w1)) := Lib.hid fun w1 hb => copy_any v s w1 (h.below hb) hf
 have HB := Lib.hid hB
 obtain ⟨a,c,rfl⟩ := h.form
 clear h hr hp hf hB
 go_enter Tryz.func10,Tryz.ntmps10
 go_wp2_with fail
 refine HR.out.mono ?_
 rintro e w1 ⟨rfl,hb1⟩
 have B1 := Lib.hid hb1
 clear hb1
 go_wp2_with fail
 refine (HC.out w1 B1.out).mono ?_
 rintro e w2 ⟨g2,x,rfl,_,hx,hs,_,hb2⟩
 have HM := Lib.hid (made9_any B _ s w2 (hx.sqE hs) (Nat.le_trans (Nat.le_trans HB.out B1.out.size) hb2.size))
 have B2 := Lib.hid (B1.out.trans (hb2.mono B1.out.size))
 clear hx hs hb2
 go_wp2_with fail
 refine HM.out.mono ?_
 rintro e w3 ⟨g,C,rfl,hcd,hown,_,_,hb3⟩
 have HCD := Lib.hid hcd
 have HOW := Lib.hid hown
 have B3 := Lib.hid (B2.out.trans (hb3.mono B2.out.size))
 have HZ := Lib.hid B2.out.size
 clear hcd hown hb3
 go_wp2
 go_ret2
 exact ⟨g,C,rfl,HCD.out,fun b hb => Nat.le_trans HZ.out (HOW.out b hb),B3.out⟩
theorem drun_nil (id cl kd : Int) (nm : ByteArray) (K V : Int) (kb : Bool) (w : World) :
  Calls Tryz.prog 15 #[.pointer none,.int .i64 id,.int .i64 cl,.agg #[.int .i64 kd,.string nm,.int .i64 K,.int .i64 V,.bool kb]] w fun e w' => e = .returned (.tuple #[.slice none 0 0,.int .i64 12]) ∧ Below w.heap.size w w' := by
 obtain ⟨W0,hW0⟩ : ∃ W,w.alloc (.cells #[.int .i64 kd,.string nm,.int .i64 K,.int .i64 V,.bool kb] 34) = W := ⟨_,rfl⟩
 have b0 : Below w.heap.size w W0 := by rw [← hW0]; exact (Below.refl _ _).alloc (Nat.le_refl _) _
 have B0 := Lib.hid b0
 have HG := Lib.hid (dgiven_nil W0)
 clear b0
 go_enter Tryz.func15,Tryz.ntmps15
 go_wp2_with fail
 try rw [hW0]
 refine HG.out.mono ?_
 rintro e w' ⟨rfl,rfl⟩
 go_wp2
 go_ret2
 exact ⟨rfl,B0.out⟩
theorem drun_zero (id cl kd : Int) (nm : ByteArray) (K V : Int) (kb : Bool) (w : World) (z : Nat) (h : w.cell? ⟨z,0,none⟩ = some (.pointer none)) :
  Calls Tryz.prog 15 #[SL.ptr z,.int .i64 id,.int .i64 cl,.agg #[.int .i64 kd,.string nm,.int .i64 K,.int .i64 V,.bool kb]] w fun e w' => e = .returned (.tuple #[.slice none 0 0,.int .i64 12]) ∧ Below w.heap.size w w' := by
 obtain ⟨W0,hW0⟩ : ∃ W,w.alloc (.cells #[.int .i64 kd,.string nm,.int .i64 K,.int .i64 V,.bool kb] 34) = W := ⟨_,rfl⟩
 have b0 : Below w.heap.size w W0 := by rw [← hW0]; exact (Below.refl _ _).alloc (Nat.le_refl _) _
 have B0 := Lib.hid b0
 have HG := Lib.hid (dgiven_zero W0 z ((b0.cell (p := ⟨z,0,none⟩) (World.block_lt_of_cell? w _ h)).trans h))
 clear b0
 clear h
 go_enter Tryz.func15,Tryz.ntmps15
 go_wp2_with fail
 try rw [hW0]
 refine HG.out.mono ?_
 rintro e w' ⟨rfl,rfl⟩
 go_wp2
 go_ret2
 exact ⟨rfl,B0.out⟩
theorem dend_nil (id : Int) (w : World) :
  Calls Tryz.prog 12 #[.pointer none,.int .i64 id] w fun e w' => e = .returned (.tuple #[]) ∧ Below w.heap.size w w' := by
 have HG := Lib.hid (dgiven_nil w)
 go_enter Tryz.func12,Tryz.ntmps12
 go_wp2_with fail
 refine HG.out.mono ?_
 rintro e w' ⟨rfl,rfl⟩
 go_wp2
 first | go_end0 | (refine bodyPost_ret (v := .tuple #[]) (by simp [results,Tryz.results12,go_sem]) rfl ?_)
 exact ⟨rfl,Below.refl _ _⟩
theorem dend_zero (id : Int) (w : World) (z : Nat) (h : w.cell? ⟨z,0,none⟩ = some (.pointer none)) :
  Calls Tryz.prog 12 #[SL.ptr z,.int .i64 id] w fun e w' => e = .returned (.tuple #[]) ∧ Below w.heap.size w w' := by
 have HG := Lib.hid (dgiven_zero w z h)
 clear h
 go_enter Tryz.func12,Tryz.ntmps12
 go_wp2_with fail
 refine HG.out.mono ?_
 rintro e w' ⟨rfl,rfl⟩
 go_wp2
 first | go_end0 | (refine bodyPost_ret (v := .tuple #[]) (by simp [results,Tryz.results12,go_sem]) rfl ?_)
 exact ⟨rfl,Below.refl _ _⟩
theorem dstat_nil (id : Int) (w : World) :
  Calls Tryz.prog 20 #[.pointer none,.int .i64 id] w fun e w' => e = .returned (.int .u8 0) ∧ Below w.heap.size w w' := by
 have HG := Lib.hid (dgiven_nil w)
 go_enter Tryz.func20,Tryz.ntmps20
 go_wp2_with fail
 refine HG.out.mono ?_
 rintro e w' ⟨rfl,rfl⟩
 go_wp2
 go_ret
 exact ⟨rfl,Below.refl _ _⟩
theorem dstat_zero (id : Int) (w : World) (z : Nat) (h : w.cell? ⟨z,0,none⟩ = some (.pointer none)) :
  Calls Tryz.prog 20 #[SL.ptr z,.int .i64 id] w fun e w' => e = .returned (.int .u8 0) ∧ Below w.heap.size w w' := by
 have HG := Lib.hid (dgiven_zero w z h)
 clear h
 go_enter Tryz.func20,Tryz.ntmps20
 go_wp2_with fail
 refine HG.out.mono ?_
 rintro e w' ⟨rfl,rfl⟩
 go_wp2
 go_ret
 exact ⟨rfl,Below.refl _ _⟩
theorem dcomm_nil (w : World) :
  Calls Tryz.prog 19 #[.pointer none] w fun e w' => e = .returned (.slice none 0 0) ∧ Below w.heap.size w w' := by
 have HG := Lib.hid (dgiven_nil w)
 go_enter Tryz.func19,Tryz.ntmps19
 go_wp2_with fail
 refine HG.out.mono ?_
 rintro e w' ⟨rfl,rfl⟩
 go_wp2
 go_ret
 exact ⟨rfl,Below.refl _ _⟩
theorem dsees_zero (id : Int) (w : World) (z : Nat) (h : w.cell? ⟨z,0,none⟩ = some (.pointer none)) :
  Calls Tryz.prog 25 #[SL.ptr z,.int .i64 id] w fun e w' => e = .returned (.slice none 0 0) ∧ Below w.heap.size w w' := by
 have HG := Lib.hid (dgiven_zero w z h)
 clear h
 go_enter Tryz.func25,Tryz.ntmps25
 go_wp2_with fail
 refine HG.out.mono ?_
 rintro e w' ⟨rfl,rfl⟩
 go_wp2
 go_ret
 exact ⟨rfl,Below.refl _ _⟩
theorem dwrit_nil (id : Int) (w : World) :
  Calls Tryz.prog 23 #[.pointer none,.int .i64 id] w fun e w' => e = .returned (.slice none 0 0) ∧ Below w.heap.size w w' := by
 have HG := Lib.hid (dgiven_nil w)
 go_enter Tryz.func23,Tryz.ntmps23
 go_wp2_with fail
 refine HG.out.mono ?_
 rintro e w' ⟨rfl,rfl⟩
 go_wp2
 go_ret
 exact ⟨rfl,Below.refl _ _⟩
theorem dcopy_nil (w : World) :
  Calls Tryz.prog 14 #[.pointer none] w fun e w' => e = .returned (.pointer none) ∧ Below w.heap.size w w' := by
 have HG := Lib.hid (dgiven_nil w)
 go_enter Tryz.func14,Tryz.ntmps14
 go_wp2_with fail
 refine HG.out.mono ?_
 rintro e w' ⟨rfl,rfl⟩
 go_wp2
 go_ret
 exact ⟨rfl,Below.refl _ _⟩
theorem dcopy_zero (w : World) (z : Nat) (h : w.cell? ⟨z,0,none⟩ = some (.pointer none)) :
  Calls Tryz.prog 14 #[SL.ptr z] w fun e w' => e = .returned (.pointer none) ∧ Below w.heap.size w w' := by
 have HG := Lib.hid (dgiven_zero w z h)
 clear h
 go_enter Tryz.func14,Tryz.ntmps14
 go_wp2_with fail
 refine HG.out.mono ?_
 rintro e w' ⟨rfl,rfl⟩
 go_wp2
 go_ret
 exact ⟨rfl,Below.refl _ _⟩

def LD (w0 w : World) (g n : Nat) (D : Dbp) : Prop := ∃ C,CD w0.heap.size w g n C D ∧ Below w0.heap.size w0 w
def LD2 (w0 w : World) (g n : Nat) (D : Dbp) (g2 n2 : Nat) (D2 : Dbp) : Prop := ∃ C C2,CD w0.heap.size w g n C D ∧ CD w0.heap.size w g2 n2 C2 D2 ∧ (∀ b,C.own g b → ¬ C2.own g2 b) ∧ Below w0.heap.size w0 w
section
variable {w0 w w' : World} {g n m g2 n2 : Nat} {D D' D2 : Dbp}
theorem LD.bel (h : LD w0 w g n D) : Below w0.heap.size w0 w := by obtain ⟨C,_,h⟩ := h; exact h
theorem LD.below (h : LD w0 w g n D) (hb : Below w.heap.size w w') : LD w0 w' g n D := by
 obtain ⟨C,h1,h2⟩ := h
 exact ⟨C,h1.below hb,h2.trans (hb.mono h2.size)⟩
theorem LD.mono (h : LD w0 w g n D) (hm : n ≤ m) : LD w0 w g m D := by
 obtain ⟨C,h1,h2⟩ := h
 exact ⟨C,h1.mono hm,h2⟩
theorem LD2.bel (h : LD2 w0 w g n D g2 n2 D2) : Below w0.heap.size w0 w := by obtain ⟨C,C2,_,_,_,h⟩ := h; exact h
theorem LD2.below (h : LD2 w0 w g n D g2 n2 D2) (hb : Below w.heap.size w w') : LD2 w0 w' g n D g2 n2 D2 := by
 obtain ⟨C,C2,h1,h2,h3,h4⟩ := h
 exact ⟨C,C2,h1.below hb,h2.below hb,h3,h4.trans (hb.mono h4.size)⟩
theorem LD2.swap (h : LD2 w0 w g n D g2 n2 D2) : LD2 w0 w g2 n2 D2 g n D := by
 obtain ⟨C,C2,h1,h2,h3,h4⟩ := h
 exact ⟨C2,C,h2,h1,fun b hb hc => h3 b hc hb,h4⟩
theorem LD2.left (h : LD2 w0 w g n D g2 n2 D2) : LD w0 w g n D := by
 obtain ⟨C,C2,h1,h2,h3,h4⟩ := h
 exact ⟨C,h1,h4⟩
theorem LD2.right (h : LD2 w0 w g n D g2 n2 D2) : LD w0 w g2 n2 D2 := h.swap.left
theorem std_bel {B : Nat} {C : Cdb} (h : CD B w g n C D) (hB : B ≤ w.heap.size) (hs : StD B g m C D' w w') : Below B w w' := by
 obtain ⟨C',_,h2,_⟩ := hs
 exact h2.below hB fun b hb ho => by have := h.bs b ho; omega
theorem std_kc {B : Nat} {C : Cdb} (h : CD B w g n C D) (hs : StD B g m C D' w w') : Kc w w' := by
 obtain ⟨C',_,h2,_⟩ := hs
 exact h.kc h2 fun _ e => e
theorem ld_of {C : Cdb} (h : CD w0.heap.size w g n C D) (hb : Below w0.heap.size w0 w) (hs : StD w0.heap.size g m C D' w w') : LD w0 w' g m D' ∧ Kc w w' := by
 have h2 := std_bel h hb.size hs
 have h3 := std_kc h hs
 obtain ⟨C',h1,_,_⟩ := hs
 exact ⟨⟨C',h1,hb.trans h2⟩,h3⟩
theorem ld2_of {C C2 : Cdb} (h : CD w0.heap.size w g n C D) (k : CD w0.heap.size w g2 n2 C2 D2) (hap : ∀ b,C.own g b → ¬ C2.own g2 b) (hb : Below w0.heap.size w0 w) (hs : StD w0.heap.size g m C D' w w') : LD2 w0 w' g m D' g2 n2 D2 ∧ Kc w w' := by
 have h2 := std_bel h hb.size hs
 have h3 := std_kc h hs
 obtain ⟨C',h1,hc,ho⟩ := hs
 refine ⟨⟨C',C2,h1,k.keep h3.kt fun b hb2 => hc.block b (k.lt hb2) (fun e => hap b e hb2),fun b hb2 hc2 => ?_,hb.trans h2⟩,h3⟩
 rcases ho b hb2 with e | e
 ·exact hap b e hc2
 ·have := k.lt hc2; omega
def RunQ (w0 : World) (g n : Nat) (R : Dbp × List Rw × Int) (w : World) (e : Ending) (w' : World) : Prop := ∃ rv,e = .returned (.tuple #[rv,.int .i64 R.2.2]) ∧ RQ w' rv R.2.1 ∧ LD w0 w' g n R.1 ∧ Kc w w'
def RunQ2 (w0 : World) (g n : Nat) (g2 n2 : Nat) (D2 : Dbp) (R : Dbp × List Rw × Int) (w : World) (e : Ending) (w' : World) : Prop := ∃ rv,e = .returned (.tuple #[rv,.int .i64 R.2.2]) ∧ RQ w' rv R.2.1 ∧ LD2 w0 w' g n R.1 g2 n2 D2 ∧ Kc w w'
theorem ld_run (h : LD w0 w g n D) (hn : n ≤ 9000) (id : Int) (hi : I9 id) (cl kd : Int) (nm : ByteArray) (K V : Int) (kb : Bool) (m : Int) (hw : Wq m w) (hnm : nm.size ≤ 1000) (hK : i64B K) (hV : i64B V) (k : Nat) (hI : InvP D k) (hk : k ≤ 9000) (R : Dbp × List Rw × Int) (hR : runP D id cl kd nm K V kb (txB kd nm K V kb) = R) :
  Calls Tryz.prog 15 #[SL.ptr g,.int .i64 id,.int .i64 cl,.agg #[.int .i64 kd,.string nm,.int .i64 K,.int .i64 V,.bool kb]] w (RunQ w0 g (n + 1) R w) := by
 subst hR
 obtain ⟨C,h1,h2⟩ := h
 refine (run_any _ w g n C D h1 hn h2.size id hi cl kd nm K V kb m hw hnm hK hV k hI hk).mono ?_
 rintro e w' ⟨rv,he,hq,hs⟩
 obtain ⟨a,b⟩ := ld_of h1 h2 hs
 exact ⟨rv,he,hq,a,b⟩
theorem ld2_run (h : LD2 w0 w g n D g2 n2 D2) (hn : n ≤ 9000) (id : Int) (hi : I9 id) (cl kd : Int) (nm : ByteArray) (K V : Int) (kb : Bool) (m : Int) (hw : Wq m w) (hnm : nm.size ≤ 1000) (hK : i64B K) (hV : i64B V) (k : Nat) (hI : InvP D k) (hk : k ≤ 9000) (R : Dbp × List Rw × Int) (hR : runP D id cl kd nm K V kb (txB kd nm K V kb) = R) :
  Calls Tryz.prog 15 #[SL.ptr g,.int .i64 id,.int .i64 cl,.agg #[.int .i64 kd,.string nm,.int .i64 K,.int .i64 V,.bool kb]] w (RunQ2 w0 g (n + 1) g2 n2 D2 R w) := by
 subst hR
 obtain ⟨C,C2,h1,k1,hap,h2⟩ := h
 refine (run_any _ w g n C D h1 hn h2.size id hi cl kd nm K V kb m hw hnm hK hV k hI hk).mono ?_
 rintro e w' ⟨rv,he,hq,hs⟩
 obtain ⟨a,b⟩ := ld2_of h1 k1 hap h2 hs
 exact ⟨rv,he,hq,a,b⟩
theorem ld_end (h : LD w0 w g n D) (id : Int) (hi : I9 id) :
  Calls Tryz.prog 12 #[SL.ptr g,.int .i64 id] w fun e w' => e = .returned (.tuple #[]) ∧ LD w0 w' g n (endP D id) ∧ Kc w w' := by
 obtain ⟨C,h1,h2⟩ := h
 refine (end_any _ w g n C D h1 h2.size id hi).mono ?_
 rintro e w' ⟨he,hs⟩
 exact ⟨he,ld_of h1 h2 hs⟩
theorem ld_stat (h : LD w0 w g n D) (id : Int) (hi : I9 id) (R : Int) (hR : statP D id = R) :
  Calls Tryz.prog 20 #[SL.ptr g,.int .i64 id] w fun e w' => e = .returned (.int .u8 R) ∧ w = w' := by
 obtain ⟨C,h1,h2⟩ := h
 exact status_any _ w g n C D h1 id hi R hR
def SeeQ (s : List Tb) (w : World) (e : Ending) (w' : World) : Prop := ∃ v,e = .returned v ∧ SQ w' v s ∧ Below w.heap.size w w'
theorem SeeP.q {s : List Tb} {e : Ending} (h : SeeP s w e w') : SeeQ s w e w' := by
 obtain ⟨v,x,h1,h2,h3,h4⟩ := h
 exact ⟨v,h1,h2.sqE h3,h4⟩
theorem ld_comm (h : LD w0 w g n D) {k : Nat} (hI : InvP D k) (S : List Tb) (hS : D.1 = S) :
  Calls Tryz.prog 19 #[SL.ptr g] w (SeeQ S w) := by
 subst hS
 obtain ⟨C,h1,h2⟩ := h
 exact (committed_any _ w g n C D h1 (hI.st.tabs.ok (by have := hI.st.len; omega)).few).mono fun _ _ h => h.q
theorem ld_sees (h : LD w0 w g n D) (hn : n ≤ 9000) {k : Nat} (hI : InvP D k) (hk : k ≤ 9000) (id : Int) (hi : I9 id) (S : List Tb) (hS : seenP D id = S) :
  Calls Tryz.prog 25 #[SL.ptr g,.int .i64 id] w (SeeQ S w) := by
 obtain ⟨C,h1,h2⟩ := h
 have hsn := hI.seen id
 have hl := hI.st.len
 exact (sees_any _ w g n C D h1 (by omega) id hi hI.st.tabs.up (hI.ownT id).1.up (by omega) (hsn.1.ok (by omega)).few S hS).mono fun _ _ h => h.q
theorem ld_writ (h : LD w0 w g n D) (hn : n ≤ 9000) {k : Nat} (hI : InvP D k) (id : Int) (hi : I9 id) (R : List ByteArray) (hR : (ownO (D.2 id)).map (·.1) = R) :
  Calls Tryz.prog 23 #[SL.ptr g,.int .i64 id] w (WriP R w) := by
 obtain ⟨C,h1,h2⟩ := h
 exact written_any _ w g n C D h1 (by omega) id hi (hI.ownT id).1.up R hR
theorem ld_new (v : Value) (s : List Tb) (h : SR w v s) (hr : rightL s = true) (hb : Below w0.heap.size w0 w) :
  Calls Tryz.prog 10 #[v] w fun e w' => ∃ g,e = .returned (.tuple #[SL.ptr g,.int .i64 0]) ∧ LD w0 w' g 0 (s,fun _ => none) ∧ Below w.heap.size w w' := by
 refine (new_yes w0.heap.size v s w h hr hb.size).mono ?_
 rintro e w' ⟨g,C,he,h1,h2,h3⟩
 exact ⟨g,he,⟨C,h1,hb.trans (h3.mono hb.size)⟩,h3⟩
theorem ld2_new (h2 : LD w0 w g2 n2 D2) (v : Value) (s : List Tb) (h : SR w v s) (hr : rightL s = true) :
  Calls Tryz.prog 10 #[v] w fun e w' => ∃ g,e = .returned (.tuple #[SL.ptr g,.int .i64 0]) ∧ LD2 w0 w' g 0 (s,fun _ => none) g2 n2 D2 ∧ Below w.heap.size w w' := by
 obtain ⟨C2,k1,hb⟩ := h2
 refine (new_yes w0.heap.size v s w h hr hb.size).mono ?_
 rintro e w' ⟨g,C,he,h1,h2,h3⟩
 exact ⟨g,he,⟨C,C2,h1,k1.below h3,fun b hb2 hc => by have := h2 b hb2; have := k1.lt hc; omega,hb.trans (h3.mono hb.size)⟩,h3⟩
theorem inv_new {s : List Tb} (h : rightL s = true) : InvP (s,fun _ => none) 0 := ⟨(right_iff s).1 h,fun id p hp => by cases hp⟩
theorem InvP.runT {D : Dbp} {k : Nat} (h : InvP D k) (id cl kd : Int) (nm : ByteArray) (K V : Int) (kb : Bool) : InvP (runP D id cl kd nm K V kb (txB kd nm K V kb)).1 (k + 1) := h.run id cl fun ht => txB_facts ht
end
theorem wq_bel {m : Int} {w0 w : World} (h : Wq m w0) (hb : Below w0.heap.size w0 w) : Wq m w := h.below hb
end Go.Proofs.YtjmmninopagpjaaGreatDoor
