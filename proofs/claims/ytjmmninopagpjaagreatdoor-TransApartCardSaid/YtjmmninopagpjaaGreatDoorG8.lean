/- Tan Tao Tap -/
import Derived.Test.YtjmmninopagpjaaGreatDoorG7
import Derived.Test.YtjmmninopagpjaaGreatDoorItr
import Derived.Sort.KeysCollected
import Derived.Test.YtjmmninopagpjaaGreatDoorG1
set_option linter.unusedSimpArgs false
set_option linter.unusedVariables false
namespace Go.Proofs.YtjmmninopagpjaaGreatDoor
open Go.ChangeShapes Go.WideShapes Go.ChangeAt Go.RowKit Go.ChangeMaps
set_option maxRecDepth 100000
set_option linter.unusedVariables false
set_option linter.unusedSimpArgs false

theorem StD.cd {B : Nat} {w w' : World} {g n : Nat} {C : Cdb} {D : Dbp} (h : StD B g n C D w w') : ∃ C',CD B w' g n C' D := by obtain ⟨C',h,_⟩ := h; exact ⟨C',h⟩
theorem StD.size {B : Nat} {w w' : World} {g n : Nat} {C : Cdb} {D : Dbp} (h : StD B g n C D w w') : w.heap.size ≤ w'.heap.size := by obtain ⟨C',_,h,_⟩ := h; exact h.size
theorem StD.kt {B : Nat} {w w' : World} {g n : Nat} {C : Cdb} {D D' : Dbp} (h0 : CD B w g n C D) (h : StD B g n C D' w w') : Kt w w' := by obtain ⟨C',_,h,_⟩ := h; exact (h0.kc h fun _ e => e).kt
set_option maxHeartbeats 4000000 in
theorem commit_any (B : Nat) (w : World) (g n : Nat) (C : Cdb) (D : Dbp) (h : CD B w g n C D) (hn : n ≤ 100000) (hB : B ≤ w.heap.size) (id : Int) (hi : I9 id) (hs : isS id = true) (hS : upW D.1) (hT : upW (ownO (D.2 id))) (hl : D.1.length ≤ 100000) (hf : FewS (seenP D id)) (R : Dbp × Int) (hR : commitP D id = R) :
  Calls Tryz.prog 37 #[SL.ptr g,.int .i64 id] w fun e w' => e = .returned (.int .i64 R.2) ∧ StD B g n C R.1 w w' := by
 have hst : statP D id = stO (D.2 id) := by unfold statP; rw [hs]; rfl
 have HST := Lib.hid (status_any B w g n C D h id hi _ hst)
 have HSE := Lib.hid (sees_any B w g n C D h hn id hi hS hT hl hf _ rfl)
 have HRO : Hid (∀ w1 : World,Below w.heap.size w w1 → Calls Tryz.prog 38 #[SL.ptr g,.int .i64 id] w1 fun e w' => e = .returned (.int .i64 (rollP D id).2) ∧ StD B g n C (rollP D id).1 w1 w') := Lib.hid fun w1 hb => roll_any B w1 g n C D (h.below hb) (Nat.le_trans hB hb.size) id hi hs _ rfl
 have H := Lib.hid h
 have HB := Lib.hid hB
 obtain ⟨S,hSE⟩ : ∃ S,seenP D id = S := ⟨_,rfl⟩
 rw [hSE] at HSE
 have HSEE := Lib.hid hSE
 clear hst hSE hf hl hT hS hs
 unfold rollP at HRO
 unfold commitP at hR
 clear h hB hi hn
 cases hd : D.2 id with
 | none =>
  rw [hd] at HST HRO hR
  subst hR
  have HST : Hid (Calls Tryz.prog 20 #[SL.ptr g,.int .i64 id] w fun e w' => e = .returned (.int .u8 73) ∧ w = w') := HST
  have HRO : Hid (∀ w1 : World,Below w.heap.size w w1 → Calls Tryz.prog 38 #[SL.ptr g,.int .i64 id] w1 fun e w' => e = .returned (.int .i64 10) ∧ StD B g n C D w1 w') := HRO
  clear hd
  go_enter Tryz.func37,Tryz.ntmps37
  go_wp2_with fail
  refine HST.out.mono ?_
  rintro e w' ⟨rfl,rfl⟩
  go_wp2_with fail
  refine HSE.out.mono ?_
  rintro e w1 ⟨v,x,rfl,hx1,hx2,hb1⟩
  have hlx : x.length = S.length := by rw [← hx2,tbs_len]
  obtain ⟨a1,c1,rfl⟩ : ∃ a c,v = .slice a S.length c := by rw [← hlx]; exact own_sh2 hx1.own
  have HSQ := Lib.hid (hx1.sqE hx2)
  have HB1 := Lib.hid hb1
  have hRO := HRO.out w1 hb1
  have HRO := Lib.hid hRO
  clear hx1 hx2 hb1 hlx hRO
  go_wp2_with fail
  refine HRO.out.mono ?_
  rintro e w2 ⟨rfl,hs2⟩
  have HS2 := Lib.hid hs2
  clear hs2
  go_wp2
  go_ret
  exact ⟨rfl,.pre HB1.out HS2.out⟩
 | some q =>
  obtain ⟨b,T⟩ := q
  have hse : S = overS D.1 T := by
   rw [← HSEE.out]
   unfold seenP
   rw [hd]; rfl
  rw [hd] at HST HRO hR
  have HRO : Hid (∀ w1 : World,Below w.heap.size w w1 → Calls Tryz.prog 38 #[SL.ptr g,.int .i64 id] w1 fun e w' => e = .returned (.int .i64 0) ∧ StD B g n C (endP D id) w1 w') := HRO
  cases b with
  | true =>
   have HST : Hid (Calls Tryz.prog 20 #[SL.ptr g,.int .i64 id] w fun e w' => e = .returned (.int .u8 69) ∧ w = w') := HST
   subst hR
   clear hd hse
   go_enter Tryz.func37,Tryz.ntmps37
   go_wp2_with fail
   refine HST.out.mono ?_
   rintro e w' ⟨rfl,rfl⟩
   go_wp2_with fail
   refine HSE.out.mono ?_
   rintro e w1 ⟨v,x,rfl,hx1,hx2,hb1⟩
   have hlx : x.length = S.length := by rw [← hx2,tbs_len]
   obtain ⟨a1,c1,rfl⟩ : ∃ a c,v = .slice a S.length c := by rw [← hlx]; exact own_sh2 hx1.own
   have HSQ := Lib.hid (hx1.sqE hx2)
   have HB1 := Lib.hid hb1
   have hRO := HRO.out w1 hb1
   have HRO := Lib.hid hRO
   clear hx1 hx2 hb1 hlx hRO
   go_wp2_with fail
   refine HRO.out.mono ?_
   rintro e w2 ⟨rfl,hs2⟩
   have HS2 := Lib.hid hs2
   clear hs2
   go_wp2
   go_ret
   exact ⟨rfl,.pre HB1.out HS2.out⟩
  | false =>
   have HST : Hid (Calls Tryz.prog 20 #[SL.ptr g,.int .i64 id] w fun e w' => e = .returned (.int .u8 84) ∧ w = w') := HST
   have hR : (if 16 < S.length then (endP D id,(11 : Int)) else ((S,setO D.2 id none),0)) = R := by rw [hse]; exact hR
   clear hd hse
   by_cases hlen : 16 < S.length
   ·rw [if_pos hlen] at hR
    subst hR
    have hl1 : (16 : Int) < (S.length : Int) := by omega
    clear hlen
    go_enter Tryz.func37,Tryz.ntmps37
    go_wp2_with fail
    refine HST.out.mono ?_
    rintro e w' ⟨rfl,rfl⟩
    go_wp2_with fail
    refine HSE.out.mono ?_
    rintro e w1 ⟨v,x,rfl,hx1,hx2,hb1⟩
    have hlx : x.length = S.length := by rw [← hx2,tbs_len]
    obtain ⟨a1,c1,rfl⟩ : ∃ a c,v = .slice a S.length c := by rw [← hlx]; exact own_sh2 hx1.own
    have HSQ := Lib.hid (hx1.sqE hx2)
    have HB1 := Lib.hid hb1
    have hRO := HRO.out w1 hb1
    have HRO := Lib.hid hRO
    clear hx1 hx2 hb1 hlx hRO
    go_wp2_with fail
    refine HRO.out.mono ?_
    rintro e w2 ⟨rfl,hs2⟩
    have HS2 := Lib.hid hs2
    clear hs2
    go_wp2
    go_ret
    exact ⟨rfl,.pre HB1.out HS2.out⟩
   ·rw [if_neg hlen] at hR
    subst hR
    have hl1 : ¬ ((16 : Int) < (S.length : Int)) := by omega
    clear hlen
    go_enter Tryz.func37,Tryz.ntmps37
    go_wp2_with fail
    refine HST.out.mono ?_
    rintro e w' ⟨rfl,rfl⟩
    go_wp2_with fail
    refine HSE.out.mono ?_
    rintro e w1 ⟨v,x,rfl,hx1,hx2,hb1⟩
    have hlx : x.length = S.length := by rw [← hx2,tbs_len]
    obtain ⟨a1,c1,rfl⟩ : ∃ a c,v = .slice a S.length c := by rw [← hlx]; exact own_sh2 hx1.own
    have HSQ := Lib.hid (hx1.sqE hx2)
    have HB1 := Lib.hid hb1
    have hRO := HRO.out w1 hb1
    have HRO := Lib.hid hRO
    clear hx1 hx2 hb1 hlx hRO
    go_wp2_with fail
    refine HRO.out.mono ?_
    rintro e w2 ⟨rfl,hs2⟩
    have HS2 := Lib.hid hs2
    clear hs2
    obtain ⟨C2,hc2⟩ := HS2.out.cd
    have f1 : w2.frozen? ⟨g,1,none⟩ = false := hc2.bk.frozen 1
    have k1 : w2.cell? ⟨g,1,none⟩ = some C2.vs := hc2.bk.cell 1
    have HF := Lib.hid (hc2.com (.slice a1 S.length c1) S (HSQ.out.kt (StD.kt (H.out.below HB1.out) HS2.out)) (Nat.le_trans (Nat.le_trans HB.out HB1.out.size) HS2.out.size))
    obtain ⟨av,hav⟩ : ∃ a c,C2.vs = .slice a D.1.length c := hc2.sq.form
    obtain ⟨cv,hav⟩ := hav
    rw [hav] at k1
    have HW : Hid (StD B g n C (S,setO D.2 id none) w1 (w2.setCell ⟨g,1,none⟩ (.slice a1 S.length c1))) := Lib.hid (HS2.out.trans fun C1 hc1 => hc1.com (.slice a1 S.length c1) S (HSQ.out.kt (StD.kt (H.out.below HB1.out) HS2.out)) (Nat.le_trans (Nat.le_trans HB.out HB1.out.size) HS2.out.size))
    clear hc2 hav
    go_wp2
    go_ret
    exact ⟨rfl,.pre HB1.out HW.out⟩

theorem names_sort {T : List Tb} (hT : upW T) {ss : List (List UInt8)} (hp : ss.Perm (T.map fun t => t.1.data.toList)) : (ss.mergeSort fun x y => decide (x ≤ y)) = T.map fun t => t.1.data.toList := by
 have tr : ∀ a b c : List UInt8,(decide (a ≤ b)) = true → (decide (b ≤ c)) = true → (decide (a ≤ c)) = true := fun a b c h1 h2 => by simp only [decide_eq_true_eq] at *; exact List.le_trans h1 h2
 have tot : ∀ a b : List UInt8,(decide (a ≤ b) || decide (b ≤ a)) = true := fun a b => by simp only [Bool.or_eq_true,decide_eq_true_eq]; exact List.le_total a b
 refine List.Perm.eq_of_pairwise (le := fun a b => decide (a ≤ b) = true) (fun a b _ _ h1 h2 => ?_) (List.pairwise_mergeSort tr tot ss) ?_ ((List.mergeSort_perm ss _).trans hp)
 ·simp only [decide_eq_true_eq] at h1 h2
  exact List.le_antisymm h1 h2
 ·refine List.pairwise_map.2 (List.Pairwise.imp ?_ hT)
  intro a b h
  exact decide_eq_true (List.le_of_lt h)
theorem names_nodup {T : List Tb} (hT : upW T) : (T.map fun t => t.1.data.toList).Nodup := by
 refine List.pairwise_map.2 (List.Pairwise.imp ?_ hT)
 intro a b h e
 rw [e] at h
 exact List.lt_irrefl _ h
theorem OwnM.perm {w : World} {b n : Nat} {T : List Tb} {U : ByteArray → Option (Value × List Rw)} {D0 : DataW Value} (hown : w.ownsMap Tryz.prog 9 MV.vE b n D0) (ha : MV.Agr D0 (MV.fS fun x => (U x).map fun p => tbV x p.1)) (hU : ∀ x,(U x).map (·.2) = lkT T x) (hT : upW T) : (T.map fun t => t.1.data.toList).Perm (strKeys D0) := by
 obtain ⟨es,hD,hpw,_⟩ := hown.entries strK9
 obtain ⟨es',hD',hko⟩ := hown.keysOf
 obtain rfl : es = es' := by rw [hD] at hD'; simpa using hD'
 subst hD
 refine perm_strKeys hpw (fun p hp => by obtain ⟨v,hv⟩ := hko p hp; obtain ⟨x,_,hx,_⟩ := Maps.keyOf_str Tryz.underlying9 hv; exact ⟨x,hx⟩) (names_nodup hT) fun x => ?_
 rw [(ha (.string x) (show WideAt.IsKeyLit (Lit.string _) from trivial)).1]
 show _ ↔ ((U ⟨x.toArray⟩).map fun p => tbV ⟨x.toArray⟩ p.1).isSome = true
 have hu := hU ⟨x.toArray⟩
 rw [List.mem_map]
 constructor
 ·rintro ⟨t,ht,rfl⟩
  have e : (⟨t.1.data.toList.toArray⟩ : ByteArray) = t.1 := MV.ba_of (by simp)
  rw [e] at hu ⊢
  have hl : lkT T t.1 = some t.2 := (lk_some hT).2 ht
  rw [hl] at hu
  cases hU2 : U t.1 with
  | none => rw [hU2] at hu; cases hu
  | some p => rfl
 ·intro h
  cases hU2 : U ⟨x.toArray⟩ with
  | none => rw [hU2] at h; cases h
  | some p =>
   rw [hU2] at hu
   exact ⟨_,lk_mem hu.symm,by simp⟩
def WriP (R : List ByteArray) (w : World) (e : Ending) (w' : World) : Prop := ∃ v,e = .returned v ∧ SL.OT w.heap.size w' v R ∧ Below w.heap.size w w'
set_option maxHeartbeats 4000000 in
theorem written_any (B : Nat) (w : World) (g n : Nat) (C : Cdb) (D : Dbp) (h : CD B w g n C D) (hn : n ≤ 100000) (id : Int) (hi : I9 id) (hT : upW (ownO (D.2 id))) (R : List ByteArray) (hR : (ownO (D.2 id)).map (·.1) = R) :
  Calls Tryz.prog 23 #[SL.ptr g,.int .i64 id] w (WriP R w) := by
 obtain ⟨c0,c1,c2⟩ := h.cells
 have HG := Lib.hid (dgiven_yes w g c0)
 have HO := Lib.hid (own9_any B w g n C D h id hi)
 rcases h.at_ id with ⟨hg,hd⟩ | ⟨⟨tb,ob⟩,q,hg,hd,_,hom⟩
 ·rw [hg] at HO
  have HO : Hid (Calls Tryz.prog 48 #[SL.ptr g,.int .i64 id] w fun e w' => e = .returned (.map none) ∧ w = w') := HO
  rw [hd] at hR
  have hR : [] = R := hR
  subst hR
  have HK := Lib.hid (Tryz.mapKeys_any none w)
  have HS := Lib.hid (Tryz.sortedKeys_nil w)
  have HB := Lib.hid ((Below.refl w.heap.size w).alloc (Nat.le_refl _) (.cells #[.map none] 71))
  clear h c0 c1 c2 hg hd hT hi
  go_enter Tryz.func23,Tryz.ntmps23
  go_wp2_with fail
  refine HG.out.mono ?_
  rintro e w' ⟨rfl,rfl⟩
  go_wp2_with fail
  refine HO.out.mono ?_
  rintro e w' ⟨rfl,rfl⟩
  go_wp2_with fail
  refine HK.out.mono ?_
  rintro e w1 ⟨rfl,hw1⟩
  subst hw1
  go_wp2_with fail
  refine HS.out.mono ?_
  rintro e w2 ⟨rfl,hb2⟩
  have HB2 := Lib.hid (HB.out.trans (hb2.mono HB.out.size))
  clear hb2
  go_wp2
  go_ret
  exact ⟨_,rfl,SL.OT.nil _ _,HB2.out⟩
 ·rw [hg] at HO
  have HO : Hid (Calls Tryz.prog 48 #[SL.ptr g,.int .i64 id] w fun e w' => e = .returned (.map (some ob)) ∧ w = w') := HO
  have ho : ownO (D.2 id) = q.2 := by rw [hd]; rfl
  rw [ho] at hT hR
  obtain ⟨U,⟨D0,hown,ha⟩,_,hU⟩ := hom
  have hsz := hown.size_le
  have HP := Lib.hid (OwnM.perm hown ha hU hT)
  have HK := Lib.hid (Tryz.mapKeys_any (some ob) w)
  have HS := Lib.hid (Tryz.sortedKeys_any ob n D0 MV.vE w hown (by unfold maxLen; omega) (by omega))
  have HB := Lib.hid ((Below.refl w.heap.size w).alloc (Nat.le_refl _) (.cells #[.map (some ob)] 71))
  have HT := Lib.hid hT
  have HR := Lib.hid hR
  clear h c0 c1 c2 hg hd hT hi ho hown ha hU hsz hR
  go_enter Tryz.func23,Tryz.ntmps23
  go_wp2_with fail
  refine HG.out.mono ?_
  rintro e w' ⟨rfl,rfl⟩
  go_wp2_with fail
  refine HO.out.mono ?_
  rintro e w' ⟨rfl,rfl⟩
  go_wp2_with fail
  refine HK.out.mono ?_
  rintro e w1 ⟨rfl,hw1⟩
  subst hw1
  go_wp2_with fail
  refine HS.out.mono ?_
  rintro e w2 ⟨v,ss,rfl,hp,hrow,_,hb2⟩
  have HB2 := Lib.hid (HB.out.trans (hb2.mono HB.out.size))
  have hss := names_sort HT.out (hp.trans HP.out.symm)
  have hlen : ss.length = R.length := by
   have := (hp.trans HP.out.symm).length_eq
   rw [this,← HR.out,List.length_map,List.length_map]
  rw [hss] at hrow
  have hm : (List.map (fun t : Tb => t.1.data.toList) q.2).map encStr = R.map SL.bV := by
   rw [← HR.out,List.map_map,List.map_map]
   refine List.map_congr_left fun t _ => ?_
   show Value.string ⟨t.1.data.toList.toArray⟩ = Value.string t.1
   rw [MV.ba_of (a := ⟨t.1.data.toList.toArray⟩) (b := t.1) (by simp)]
  rw [hm,hlen] at hrow
  have HROW : Hid (SL.OT w.heap.size w2 v R) := Lib.hid (own_mono hrow HB.out.size)
  clear hp hrow hb2 hss hm hlen
  have hform : ∃ a c,v = .slice a R.length c := by
   rcases HROW.out.2 with ⟨rfl,hz⟩ | ⟨g9,cap,cur,rfl,_⟩
   ·exact ⟨none,0,by rw [hz]⟩
   ·exact ⟨_,_,rfl⟩
  obtain ⟨av,cv,rfl⟩ := hform
  go_wp2
  go_ret
  exact ⟨_,rfl,HROW.out,HB2.out⟩

theorem OwnM.put {w w' : World} {b n : Nat} {T : List Tb} {U : ByteArray → Option (Value × List Rw)} {nm : ByteArray} {u : Value} {l : List Rw} (hT : upW T) (hk : Kt w w') (hu : RQ w' u l) (hr : ∀ x p,U x = some p → RQ w p.1 p.2) (hU : ∀ x,(U x).map (·.2) = lkT T x)
  (hm : MV.MapV Tryz.prog 9 w' b n (MV.fS fun x => if x = nm then some (tbV nm u) else (U x).map fun p => tbV x p.1)) : OwnM w' b n (putS T (nm,l)) := by
 refine ⟨fun x => if x = nm then some (u,l) else U x,hm.congr fun kl => ?_,fun x p hp => ?_,fun x => ?_⟩
 ·congr 1
  funext x
  show _ = Option.map (fun p => tbV x p.1) (if x = nm then some (u,l) else U x)
  by_cases e : x = nm
  ·subst e; rw [if_pos rfl,if_pos rfl]; rfl
  ·rw [if_neg e,if_neg e]
 ·simp only at hp
  split at hp
  ·injection hp with hp; subst hp; exact hu
  ·exact (hr x p hp).kt hk
 ·rw [put_lk hT]
  show Option.map (·.2) (if x = nm then some (u,l) else U x) = if nm = x then some l else lkT T x
  by_cases e : x = nm
  ·subst e; rw [if_pos rfl,if_pos rfl]; rfl
  ·rw [if_neg e,if_neg (fun e2 => e e2.symm)]; exact hU x
set_option maxHeartbeats 4000000 in
theorem write_any (B : Nat) (w : World) (g n : Nat) (C : Cdb) (D : Dbp) (h : CD B w g n C D) (hn : n ≤ 100000) (hB : B ≤ w.heap.size) (id : Int) (hi : I9 id) (nm : ByteArray) (u : Value) (l : List Rw) (hq : RQ w u l) (hnm : nm.size ≤ 281474976710656) (hS : upW D.1) (hT : upW (ownO (D.2 id))) (hl : D.1.length ≤ 1000000) :
  Calls Tryz.prog 58 #[SL.ptr g,.int .i64 id,tbV nm u] w fun e w' => e = .returned (.tuple #[]) ∧ StD B g (n + 1) C (writeP D id (nm,l)) w w' := by
 obtain ⟨ua,uc,rfl⟩ := hq.form
 obtain ⟨W0,hW0⟩ : ∃ W,w.alloc (.cells #[.string nm,.slice ua l.length uc] 63) = W := ⟨_,rfl⟩
 obtain ⟨tb,htb⟩ : ∃ b,w.heap.size = b := ⟨_,rfl⟩
 have b0 : Below w.heap.size w W0 := by rw [← hW0]; exact (Below.refl _ _).alloc (Nat.le_refl _) _
 have k0 : SL.Bk W0 tb 63 #[.string nm,.slice ua l.length uc] := by rw [← hW0,← htb]; exact SL.Bk.new _ _ _
 have h0 := h.below b0
 have hq0 := hq.bel b0
 have hgt : g < tb := by have := h.bk.lt; omega
 obtain ⟨c0,c1,c2⟩ := h0.cells
 have hl0 := open_look h0 id hi
 have t0 : W0.cell? ⟨tb,0,none⟩ = some (.string nm) := k0.cell 0
 have t1 : W0.cell? ⟨tb,1,none⟩ = some (.slice ua l.length uc) := k0.cell 1
 have H := Lib.hid h0
 have HQ := Lib.hid hq0
 have HB0 := Lib.hid b0
 have HBW : Hid (B ≤ W0.heap.size) := Lib.hid (Nat.le_trans hB b0.size)
 rcases h0.at_ id with ⟨hg,hd⟩ | ⟨⟨tr,ob⟩,q,hg,hd,hk,hom⟩
 ·rw [hg] at hl0
  have e : writeP D id (nm,l) = (putS D.1 (nm,l),D.2) := by unfold writeP; rw [hd]
  rw [e]
  obtain ⟨av,cv,hv⟩ : ∃ a c,C.vs = .slice a D.1.length c := h0.sq.form
  rw [hv] at c1
  have hsq := h0.sq
  rw [hv] at hsq
  have HSQ := Lib.hid hsq
  have HS := Lib.hid hS
  have HL := Lib.hid hl
  have HGT : Hid (g < tb ∧ tb < W0.heap.size) := Lib.hid ⟨hgt,k0.lt⟩
  have hf1 : ∀ w3,Below W0.heap.size W0 w3 → w3.cell? ⟨g,1,none⟩ = some (.slice av D.1.length cv) ∧ w3.frozen? ⟨g,1,none⟩ = false := fun w3 hb => by
   have hk := bk_bel h0.bk hb
   exact ⟨by rw [← hv]; exact hk.cell 1,hk.frozen 1⟩
  have HF1 := Lib.hid hf1
  clear h h0 hq hq0 hB hd hg b0 k0 hS hT hl hi hsq hv hn hgt e c0 hf1
  simp only [Option.map_none,Option.getD_none,Option.isSome_none] at hl0
  go_enter Tryz.func58,Tryz.ntmps58
  go_wp2_with fail
  try rw [hW0]
  try rw [htb]
  go_wp2_with fail
  refine wp_region_held_drew (S := (fun w' => w'.cell? ⟨tb,0,none⟩ = some (.string nm) ∧ w'.cell? ⟨tb,1,none⟩ = some (.slice ua l.length uc))) (by kernel_rfl) ?_ (fun hS => ?_)
  ·exact ⟨t0,t1⟩
  refine tkY 0 ?_ rfl hS ?_ ?_;rotate_left
  ·intro wz hz
   go_simp
   all_goals first | with_reducible rfl | omega
  try simp only [Act.put,pu]
  refine tkY 1 ?_ rfl hS ?_ ?_;rotate_left
  ·intro wz hz
   go_simp
   all_goals first | with_reducible rfl | omega
  try simp only [Act.put,pu]
  refine tkY 2 ?_ rfl hS ?_ ?_;rotate_left
  ·intro wz hz
   go_simp
   all_goals first | with_reducible rfl | omega
  try simp only [Act.put,pu]
  refine tkY 3 ?_ rfl hS ?_ ?_;rotate_left
  ·intro wz hz
   go_simp
   all_goals first | with_reducible rfl | omega
  try simp only [Act.put,pu]
  refine tkY 5 ?_ rfl hS ?_ ?_;rotate_left
  ·intro wz hz
   obtain ⟨z0,z1⟩ := hz
   go_simp
   all_goals first | with_reducible rfl | omega
  try simp only [Act.put,pu]
  have d1 : W0.drew.cell? ⟨g,1,none⟩ = some (.slice av D.1.length cv) := c1
  refine wpAnyH_ready (rs := [4]) (by kernel_rfl) (by simp) (AllReadyH.cons rfl (fun K' hK' => ?_) AllReadyH.nil)
  go_simp

  refine hK'.out _ _ ?_ (fun hSn => ?_)
  ·exact hS
  clear hK' K' hS
  have hS := hSn
  clear hSn
  try simp only [Act.put,pu]
  clear d1
  refine wpAnyH_ready (rs := [6]) (by kernel_rfl) (by simp) (AllReadyH.cons rfl (fun K' hK' => ?_) AllReadyH.nil)
  go_simp
  have hbd : Below W0.heap.size W0 W0.drew := (Below.refl _ _).drew
  refine (with_any _ D.1 nm _ l W0.drew (HSQ.out.bel hbd) HS.out HL.out (HQ.out.bel hbd)).mono ?_
  rintro e w3 ⟨v3,rfl,hsq3,hb3⟩
  have hb4 : Below W0.heap.size W0 w3 := hbd.trans (hb3.mono hbd.size)
  have HSQ3 := Lib.hid hsq3
  have HB4 := Lib.hid hb4
  have y0 : w3.cell? ⟨tb,0,none⟩ = some (.string nm) := (hb4.cell (p := ⟨tb,0,none⟩) HGT.out.2).trans t0
  have y1 : w3.cell? ⟨tb,1,none⟩ = some (.slice ua l.length uc) := (hb4.cell (p := ⟨tb,1,none⟩) HGT.out.2).trans t1
  clear hsq3 hb3 hbd hb4
  refine hK'.out _ _ ?_ (fun hSn => ?_)
  ·exact ⟨y0,y1⟩
  clear hK' K' hS
  have hS := hSn
  clear hSn
  try simp only [Act.put,pu]
  refine tkY 7 ?_ rfl hS ?_ ?_;rotate_left
  ·intro wz hz
   go_simp
   all_goals first | with_reducible rfl | omega
  try simp only [Act.put,pu]
  refine tkY 8 ?_ rfl hS ?_ ?_;rotate_left
  ·intro wz hz
   go_simp
   all_goals first | with_reducible rfl | omega
  try simp only [Act.put,pu]
  obtain ⟨a3,c3,rfl⟩ := HSQ3.out.form
  obtain ⟨x1,x2⟩ := HF1.out w3 HB4.out
  refine wpAnyH_ready (rs := [9]) (by kernel_rfl) (by simp) (AllReadyH.cons rfl (fun K' hK' => ?_) AllReadyH.nil)
  go_simp

  refine hK'.out _ _ ?_ (fun hSn => ?_)
  ·exact ⟨(World.cell?_setCell_far _ _ _ _ (by show g ≠ tb; have := HGT.out.1; omega)).trans y0,(World.cell?_setCell_far _ _ _ _ (by show g ≠ tb; have := HGT.out.1; omega)).trans y1⟩
  clear hK' K' hS
  have hS := hSn
  clear hSn
  try simp only [Act.put,pu]
  refine wpAnyH_done (by kernel_rfl) ?_ _
  clear hS
  first | go_end0 | (refine bodyPost_ret (v := .tuple #[]) (by simp [results,Tryz.results58,go_sem]) rfl ?_)
  have hst : StD B g n C (putS D.1 (nm,l),D.2) W0 (w3.setCell ⟨g,1,none⟩ (.slice a3 (putS D.1 (nm,l)).length c3)) := .pre HB4.out ((H.out.below HB4.out).com _ _ HSQ3.out (Nat.le_trans HBW.out HB4.out.size))
  exact ⟨rfl,(StD.pre HB0.out hst).mono (Nat.le_succ _)⟩
 ·rw [hg] at hl0
  have e : writeP D id (nm,l) = (D.1,setO D.2 id (some (q.1,putS q.2 (nm,l)))) := by unfold writeP; rw [hd]
  rw [e]
  have ho : ownO (D.2 id) = q.2 := by rw [hd]; rfl
  rw [ho] at hT
  have x1 : W0.cell? ⟨tr,1,none⟩ = some (.map (some ob)) := hk.cell 1
  obtain ⟨U,hm,hur,hU⟩ := hom
  have hmd : MV.MapV Tryz.prog 9 W0.drew ob n (MV.fS fun x => (U x).map fun p => tbV x p.1) := hm.keep rfl
  obtain ⟨w3,hrun,hm3,ht3⟩ := hmd.put strK9 Tryz.underlying71 (by unfold maxLen; omega) (keyS9 nm hnm) (tbV nm (.slice ua l.length uc))
  have hg3 := ht3.grown
  have hne : tr ≠ ob := bk_nmap hk hm.obj
  have hown : C.own g ob := .inr (.inr ⟨id,(tr,ob),hg,.inr rfl⟩)
  have hc : SL.Chg (C.own g) W0 w3 := ((SL.Chg.refl _ _).drew).grown hg3 fun k hk _ => by injection hk with hk; subst hk; exact hown
  have hkt := (h0.kc hc fun _ e => e).kt
  have hb3 : ∀ b,b < W0.heap.size → b ≠ ob → w3.heap[b]? = W0.heap[b]? := fun b hb hne => hg3.block b hb (fun e => hne (by injection e))
  have hst : StD B g (n + 1) C (D.1,setO D.2 id (some (q.1,putS q.2 (nm,l)))) W0 w3 := by
   refine h0.alt (Nat.le_succ n) (Nat.le_trans hB b0.size) hc id (some (tr,ob)) _ (hb3 g h0.bk.lt (bk_nmap h0.bk hm.obj)) ?_ (fun i r hi hr => ?_) (fun r hr => ?_) (fun e => by cases e)
   ·rw [← hg,setG_self]
    exact (h0.mp.keep (hb3 C.mb h0.mp.lt (fun e => h0.mo id (tr,ob) hg e.symm))).mono (Nat.le_succ _)
   ·obtain ⟨x,_,h2,h3⟩ := h0.tr i r hr
    exact ⟨hb3 r.1 h2.lt (bk_nmap h2 hm.obj),hb3 r.2 h3.lt (h0.ap i id r (tr,ob) hr hg hi).2⟩
   ·injection hr with hr
    subst hr
    refine ⟨(q.1,putS q.2 (nm,l)),rfl,hk.heap (hb3 tr hk.lt hne),OwnM.put hT hkt (hq0.kt hkt) hur hU (hm3.congr fun kl => ?_),h0.mo id (tr,ob) hg,fun i r hi hr => ?_,.inl ⟨.inr (.inr ⟨id,(tr,ob),hg,.inl rfl⟩),hown⟩⟩
    ·rw [← MV.fS_put]
    ·have := h0.ap i id r (tr,ob) hr hg hi
     exact ⟨this.1.symm,this.2.symm⟩
  have HST := Lib.hid hst
  clear h h0 hq hq0 hB hd hg b0 k0 hS hT hl hi hn hgt e c0 c1 hm hmd hm3 ht3 hg3 hc hkt hb3 hst hk hown hne ho hur hU
  simp only [Option.map_some,Option.getD_some,Option.isSome_some] at hl0
  go_enter Tryz.func58,Tryz.ntmps58
  go_wp2_with fail
  try rw [hW0]
  try rw [htb]
  go_wp2_with fail
  go_region
  go_wp2
  first | go_end0 | (refine bodyPost_ret (v := .tuple #[]) (by simp [results,Tryz.results58,go_sem]) rfl ?_)
  exact ⟨rfl,StD.pre HB0.out HST.out⟩
end Go.Proofs.YtjmmninopagpjaaGreatDoor
