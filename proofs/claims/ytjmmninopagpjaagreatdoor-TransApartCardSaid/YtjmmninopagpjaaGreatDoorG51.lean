/- Tbd -/
import Derived.Test.YtjmmninopagpjaaGreatDoorG50
import Derived.Test.YtjmmninopagpjaaGreatDoorG1
set_option linter.unusedSimpArgs false
set_option linter.unusedVariables false
namespace Go.Proofs.YtjmmninopagpjaaGreatDoor
open Go.ChangeShapes Go.WideShapes Go.ChangeAt Go.RowKit Go.ChangeMaps
set_option maxRecDepth 100000
set_option linter.unusedVariables false
set_option linter.unusedSimpArgs false

theorem st_idle {D : Dbp} {id : Int} (h : statP D id = 73) : D.2 id = none := by
 unfold statP at h
 split at h
 ·cases hd : D.2 id with
  | none => rfl
  | some p =>
   obtain ⟨b,T⟩ := p
   rw [hd] at h
   cases b <;> cases h
 ·cases h
theorem st_in {D : Dbp} {id : Int} (h : statP D id = 84) : isS id = true ∧ ∃ T,D.2 id = some (false,T) := by
 unfold statP at h
 split at h
 ·rename_i hs
  refine ⟨hs,?_⟩
  cases hd : D.2 id with
  | none => rw [hd] at h; cases h
  | some p =>
   obtain ⟨b,T⟩ := p
   rw [hd] at h
   cases b with
   | false => exact ⟨T,rfl⟩
   | true => cases h
 ·cases h
theorem st_failed {D : Dbp} {id : Int} (h : statP D id = 69) : isS id = true ∧ ∃ T,D.2 id = some (true,T) := by
 unfold statP at h
 split at h
 ·rename_i hs
  refine ⟨hs,?_⟩
  cases hd : D.2 id with
  | none => rw [hd] at h; cases h
  | some p =>
   obtain ⟨b,T⟩ := p
   rw [hd] at h
   cases b with
   | false => cases h
   | true => exact ⟨T,rfl⟩
 ·cases h
theorem st_of {D : Dbp} {id : Int} (hs : isS id = true) {b : Bool} {T : List Tb} (h : D.2 id = some (b,T)) : statP D id = if b = true then 69 else 84 := by
 unfold statP
 rw [if_pos hs,h]
 cases b <;> rfl
theorem in_query {D : Dbp} {id cl kd K V : Int} {n : ByteArray} {kb tx : Bool} (hs : isS id = true) {T : List Tb} (hd : D.2 id = some (false,T)) (hc : cl = 1 ∨ cl = 2 ∨ cl = 8) :
  statP (runP D id cl kd n K V kb tx).1 id ≠ 73 ∧ ((runP D id cl kd n K V kb tx).2.2 = 0 ∨ (runP D id cl kd n K V kb tx).2.2 = 1 ∨ statP (runP D id cl kd n K V kb tx).1 id = 69) := by
 have hst : stO (D.2 id) ≠ 69 := by rw [hd]; show (84 : Int) ≠ 69; decide
 have hD : statP D id = 84 := st_of hs hd
 unfold runP
 rw [if_pos hs]
 unfold runS
 rw [if_neg (by omega),if_neg (by omega),if_neg (by omega),if_neg hst,if_neg (by omega),if_pos hc]
 cases tx with
 | false => rw [if_neg (by simp)]; exact ⟨by rw [hD]; decide,.inr (.inl rfl)⟩
 | true =>
  rw [if_pos rfl]
  unfold doP
  split
  ·split
   ·exact ⟨by rw [hD]; decide,.inl rfl⟩
   ·refine ⟨?_,.inl rfl⟩
    have e : ∀ t,(writeP D id t).2 id = some (false,putS T t) := fun t => by
     unfold writeP
     simp only [hd]
     exact setO_at _ _ _
    rw [st_of hs (e _)]
    decide
  ·have e : (failP D id).2 id = some (true,T) := by
    unfold failP
    simp only [setO_at]
    rw [hd]; rfl
   have e2 : statP (failP D id) id = 69 := st_of hs e
   exact ⟨by show statP (failP D id) id ≠ 73; rw [e2]; decide,.inr (.inr e2)⟩
theorem failed_query {D : Dbp} {id cl kd K V : Int} {n : ByteArray} {kb tx : Bool} (hs : isS id = true) {T : List Tb} (hd : D.2 id = some (true,T)) (hc : cl = 1 ∨ cl = 2 ∨ cl = 8) :
  runP D id cl kd n K V kb tx = (D,[],13) := by
 have hst : stO (D.2 id) = 69 := by rw [hd]; rfl
 unfold runP
 rw [if_pos hs]
 unfold runS
 rw [if_neg (by omega),if_neg (by omega),if_neg (by omega),if_pos hst]
def Ways (S S2 : List Tb) (st st2 cl code : Int) : Prop :=
 (st = 84 ∧ cl = 4) ∨ (st = 84 ∧ cl ≠ 4 ∧ S2 = S ∧ (cl = 1 ∨ cl = 2 ∨ cl = 8 → st2 ≠ 73 ∧ (code = 0 ∨ code = 1 ∨ st2 = 69))) ∨ (st = 69 ∧ S2 = S ∧ (cl = 1 ∨ cl = 2 ∨ cl = 8 → code = 13 ∧ st2 ≠ 73)) ∨ (st ≠ 84 ∧ st ≠ 69)
theorem ways {D : Dbp} {id cl kd K V : Int} {n : ByteArray} {kb tx : Bool} {D2 : Dbp} {rl : List Rw} {code : Int} (h : runP D id cl kd n K V kb tx = (D2,rl,code)) : Ways D.1 D2.1 (statP D id) (statP D2 id) cl code := by
 by_cases h1 : statP D id = 84
 ·obtain ⟨hs,T,hd⟩ := st_in h1
  by_cases h4 : cl = 4
  ·exact .inl ⟨h1,h4⟩
  ·refine .inr (.inl ⟨h1,h4,?_,fun hc => ?_⟩)
   ·have := run_keeps (D := D) (id := id) (cl := cl) (kd := kd) (K := K) (V := V) (n := n) (kb := kb) (tx := tx) (by rw [hd]; simp) (.inl h4)
    rw [h] at this
    exact this
   ·have := in_query (kd := kd) (K := K) (V := V) (n := n) (kb := kb) (tx := tx) hs hd hc
    rw [h] at this
    exact this
 ·by_cases h2 : statP D id = 69
  ·obtain ⟨hs,T,hd⟩ := st_failed h2
   refine .inr (.inr (.inl ⟨h2,?_,fun hc => ?_⟩))
   ·have := run_keeps (D := D) (id := id) (cl := cl) (kd := kd) (K := K) (V := V) (n := n) (kb := kb) (tx := tx) (by rw [hd]; simp) (.inr (by rw [hd]; rfl))
    rw [h] at this
    exact this
   ·have := failed_query (kd := kd) (K := K) (V := V) (n := n) (kb := kb) (tx := tx) hs hd hc
    rw [h] at this
    injection this with a b
    injection b with _ c
    subst a c
    exact ⟨rfl,by rw [h2]; decide⟩
  ·exact .inr (.inr (.inr ⟨h1,h2⟩))
theorem idle_sees {D : Dbp} {id : Int} (h : statP D id = 73) : seenP D id = D.1 ∧ (ownO (D.2 id)).map (·.1) = [] := by
 have e := st_idle h
 unfold seenP
 rw [e]
 exact ⟨rfl,rfl⟩
set_option maxHeartbeats 4000000 in
theorem apart_light (v l : Value) (s : List Tb) (L : List Op9) (m : Int) (w : World) (hm : Wq m w) (hs : SR w v s) (hL : OsR w l L) (hl : lightS s = false) :
  Calls Tryz.prog 4 #[v,l] w fun e w' => e = .returned (.bool true) ∧ Below w.heap.size w w' := by
 have HM := Lib.hid hm
 have HS := Lib.hid hs
 have HCL := Lib.hid hL
 obtain ⟨va,vc,rfl⟩ := hs.form
 obtain ⟨la,lc,rfl⟩ := hL.form
 clear hm hs hL
 go_enter Tryz.func4,Tryz.ntmps4
 go_wp2_with fail
 refine (light9 _ s false hl w HS.out).mono ?_
 rintro e w1 ⟨rfl,hb⟩
 have HB := Lib.hid hb
 clear hb
 go_wp2_with fail
 refine (known9_any m _ (wq_bel HM.out HB.out)).mono ?_
 rintro e w9 ⟨rfl,hb⟩
 have HB := Lib.hid ((HB.out).trans (hb.mono (HB.out).size))
 clear hb
 go_wp2
 go_ret
 exact ⟨rfl,HB.out⟩
set_option maxHeartbeats 4000000 in
theorem apart_right (v l : Value) (s : List Tb) (L : List Op9) (m : Int) (w : World) (hm : Wq m w) (hs : SR w v s) (hL : OsR w l L) (hl : lightS s = true) (hr : rightL s = false) :
  Calls Tryz.prog 4 #[v,l] w fun e w' => e = .returned (.bool true) ∧ Below w.heap.size w w' := by
 have HM := Lib.hid hm
 have HS := Lib.hid hs
 have HCL := Lib.hid hL
 obtain ⟨va,vc,rfl⟩ := hs.form
 obtain ⟨la,lc,rfl⟩ := hL.form
 clear hm hs hL
 go_enter Tryz.func4,Tryz.ntmps4
 go_wp2_with fail
 refine (light9 _ s true hl w HS.out).mono ?_
 rintro e w1 ⟨rfl,hb⟩
 have HB := Lib.hid hb
 clear hb
 go_wp2_with fail
 refine (rright9 _ s false hr (light_fewS hl) w1 (HS.out.below HB.out)).mono ?_
 rintro e w2 ⟨rfl,hb⟩
 have HB := Lib.hid (HB.out.trans (hb.mono HB.out.size))
 clear hb
 go_wp2_with fail
 refine (known9_any m _ (wq_bel HM.out HB.out)).mono ?_
 rintro e w9 ⟨rfl,hb⟩
 have HB := Lib.hid ((HB.out).trans (hb.mono (HB.out).size))
 clear hb
 go_wp2
 go_ret
 exact ⟨rfl,HB.out⟩
theorem few_of {D : Dbp} {k : Nat} {S : List Tb} (h : InvP D k) (hS : D.1 = S) : FewS S := by
 rw [← hS]
 exact (h.st.tabs.ok (by have := h.st.len; omega)).few
set_option maxHeartbeats 64000000 in
theorem apart_main (v l : Value) (s : List Tb) (L : List Op9) (m : Int) (w : World) (hm : Wq m w) (hs : SR w v s) (hL : OsR w l L) (hl : lightS s = true) (hr : rightL s = true) :
  Calls Tryz.prog 4 #[v,l] w fun e w' => e = .returned (.bool true) ∧ Below w.heap.size w w' := by
 have HM := Lib.hid hm
 have HS := Lib.hid hs
 have HCL := Lib.hid hL
 obtain ⟨va,vc,rfl⟩ := hs.form
 obtain ⟨la,lc,rfl⟩ := hL.form
 have HRT := Lib.hid hr
 clear hm hs hL
 go_enter Tryz.func4,Tryz.ntmps4
 go_wp2_with fail
 refine (light9 _ s true hl w HS.out).mono ?_
 rintro e w1 ⟨rfl,hb⟩
 have HB := Lib.hid hb
 clear hb
 go_wp2_with fail
 refine (rright9 _ s true hr (light_fewS hl) w1 (HS.out.below HB.out)).mono ?_
 rintro e w2 ⟨rfl,hb⟩
 have HB := Lib.hid (HB.out.trans (hb.mono HB.out.size))
 clear hb
 go_wp2_with fail
 refine (ld_new (w0 := w) _ s (HS.out.below HB.out) HRT.out HB.out).mono ?_
 rintro e w3 ⟨a,rfl,hl1,hb⟩
 have HL4 := Lib.hid hl1
 have HIV : Hid (InvP (s,noO) 0) := Lib.hid (inv_new HRT.out)
 clear hb hl1 HB HRT hl hr
 go_wp2
 go_loopg [7] L.length (fun gk u7 wr => ∃ (i : Nat) (D : Dbp),u7 = .int .i64 (i : Int) ∧ i + gk = L.length ∧ Hid (LD w wr a i D) ∧ Hid (InvP D i))
 case atStart => exact ⟨0,_,rfl,by omega,HL4,HIV⟩
 case round =>
  obtain ⟨i,D,rfl,hig,hld,hiv⟩ := hrel
  clear HL4 HIV
  by_cases hil : i < L.length
  ·have l2 : (i : Int) < (L.length : Int) := by omega
   by_cases hi40 : i < 40
   ·have l4 : (i : Int) < 40 := by omega
    have l3 : (0 : Int) ≤ (i : Int) := by omega
    obtain ⟨i1,hi1⟩ : ∃ i1,i + 1 = i1 := ⟨_,rfl⟩
    have wk : IntKind.i64.wrap ((i : Int) + 1) = (i1 : Int) := by rw [show (i : Int) + 1 = (i1 : Int) by omega]; exact IntWalk.i64_in _ (by omega)
    have HGK : Hid (i1 + (gk - 1) = L.length ∧ gk - 1 < gk) := Lib.hid (by omega)
    have HI1 := Lib.hid hi1
    have HIL : Hid (i ≤ 40) := Lib.hid (by omega)
    obtain ⟨c,hc⟩ : ∃ c,L[i]? = some c := ⟨L[i],List.getElem?_eq_getElem hil⟩
    obtain ⟨cg,co,cp,he,hcp,hx⟩ := (HCL.out.below hld.out.bel).inv (by omega)
    injection he with ea _ ec
    subst ea ec
    have HC9 := Lib.hid hc
    clear hc
    obtain ⟨id,cl,kd,nm,K,V,kb⟩ := c
    obtain ⟨hcb,x0,x1,x2,x3,x4,x5,x6⟩ := hx i _ HC9.out
    obtain ⟨hid,hclb,hcmb⟩ := hcb
    have HID : Hid (I9 id) := Lib.hid hid
    have HCB : Hid (cmB (kd,nm,K,V,kb)) := Lib.hid hcmb
    have hid : i64B id := hid
    clear hx HC9 hil hig hi1 hid hclb hcmb
    obtain ⟨W0,hW0⟩ : ∃ W,wr.alloc (.cells #[.int .i64 id,.int .i64 cl,.int .i64 kd,.string nm,.int .i64 K,.int .i64 V,.bool kb] 36) = W := ⟨_,rfl⟩
    obtain ⟨cb,hcb⟩ : ∃ b,wr.heap.size = b := ⟨_,rfl⟩
    have b0 : Below wr.heap.size wr W0 := by rw [← hW0]; exact (Below.refl _ _).alloc (Nat.le_refl _) _
    have k0 : SL.Bk W0 cb 36 #[.int .i64 id,.int .i64 cl,.int .i64 kd,.string nm,.int .i64 K,.int .i64 V,.bool kb] := by rw [← hW0,← hcb]; exact SL.Bk.new _ _ _
    have KB := Lib.hid k0
    have HLD := Lib.hid (hld.out.below b0)
    clear b0 k0
    have y0 : W0.cell? ⟨cb,0,none⟩ = some (.int .i64 id) := KB.out.cell 0
    have y1 : W0.cell? ⟨cb,1,none⟩ = some (.int .i64 cl) := KB.out.cell 1
    have y2 : W0.cell? ⟨cb,2,none⟩ = some (.int .i64 kd) := KB.out.cell 2
    have y3 : W0.cell? ⟨cb,3,none⟩ = some (.string nm) := KB.out.cell 3
    have y4 : W0.cell? ⟨cb,4,none⟩ = some (.int .i64 K) := KB.out.cell 4
    have y5 : W0.cell? ⟨cb,5,none⟩ = some (.int .i64 V) := KB.out.cell 5
    have y6 : W0.cell? ⟨cb,6,none⟩ = some (.bool kb) := KB.out.cell 6
    by_cases hlong : nm.size ≤ 60
    ·have l5 : (nm.size : Int) ≤ 60 := by omega
     by_cases hc19 : cl ≤ 19
     ·obtain ⟨S,hS⟩ : ∃ S,D.1 = S := ⟨_,rfl⟩
      obtain ⟨st,hst⟩ : ∃ st,statP D id = st := ⟨_,rfl⟩
      obtain ⟨R,hR⟩ : ∃ R,runP D id cl kd nm K V kb (txB kd nm K V kb) = R := ⟨_,rfl⟩
      have hiv2 := hiv.out.runT id cl kd nm K V kb
      rw [hR] at hiv2
      obtain ⟨D2,rl,code⟩ := R
      have hwy := ways hR
      rw [hS,hst] at hwy
      obtain ⟨S2,hS2⟩ : ∃ S,D2.1 = S := ⟨_,rfl⟩
      obtain ⟨st2,hst2⟩ : ∃ st,statP D2 id = st := ⟨_,rfl⟩
      rw [hS2,hst2] at hwy
      have HWY := Lib.hid hwy
      have HS1 := Lib.hid hS
      have HS2 := Lib.hid hS2
      have HST1 := Lib.hid hst
      have HST2 := Lib.hid hst2
      have HR := Lib.hid hR
      have HIV2 : Hid (InvP D2 (i + 1)) := Lib.hid hiv2
      clear hwy hS hS2 hst hst2 hR hiv2
      go_wp2_with fail
      try rw [hW0]
      try rw [hcb]
      try clear hW0 hcb
      refine (ld_comm HLD.out hiv.out S HS1.out).mono ?_
      rintro e w5 ⟨v5,rfl,hq,hb⟩
      have HQB := Lib.hid hq
      obtain ⟨p5,c5,rfl⟩ := hq.form
      have HLD := Lib.hid (HLD.out.below hb)
      have KB := Lib.hid (bk_bel KB.out hb)
      clear hq hb y0 y1 y2 y3 y4 y5 y6 x0 x1 x2 x3 x4 x5 x6 hld
      have y0 : w5.cell? ⟨cb,0,none⟩ = some (.int .i64 id) := KB.out.cell 0
      have y1 : w5.cell? ⟨cb,1,none⟩ = some (.int .i64 cl) := KB.out.cell 1
      have y2 : w5.cell? ⟨cb,2,none⟩ = some (.int .i64 kd) := KB.out.cell 2
      have y3 : w5.cell? ⟨cb,3,none⟩ = some (.string nm) := KB.out.cell 3
      have y4 : w5.cell? ⟨cb,4,none⟩ = some (.int .i64 K) := KB.out.cell 4
      have y5 : w5.cell? ⟨cb,5,none⟩ = some (.int .i64 V) := KB.out.cell 5
      have y6 : w5.cell? ⟨cb,6,none⟩ = some (.bool kb) := KB.out.cell 6
      go_wp2_with fail
      refine (ld_stat HLD.out id HID.out st HST1.out).mono ?_
      rintro e w' ⟨rfl,rfl⟩
      go_wp2_with fail
      refine (ld_run HLD.out (by have := HIL.out; omega) id HID.out cl kd nm K V kb m (wq_bel HM.out HLD.out.bel) (by omega) HCB.out.2.1 HCB.out.2.2 i hiv.out (by have := HIL.out; omega) _ HR.out).mono ?_
      rintro e w6 ⟨r6,rfl,hq,hl6,hk⟩
      have HLD : Hid (LD w w6 a (i + 1) D2) := Lib.hid hl6
      have HQB := Lib.hid (HQB.out.kt hk.kt)
      have KB := Lib.hid (bk_kc KB.out hk (by decide) (by decide))
      obtain ⟨p6,c6,rfl⟩ := hq.form
      clear hq hl6 hk y0 y1 y2 y3 y4 y5 y6 hiv HR
      have y0 : w6.cell? ⟨cb,0,none⟩ = some (.int .i64 id) := KB.out.cell 0
      have y1 : w6.cell? ⟨cb,1,none⟩ = some (.int .i64 cl) := KB.out.cell 1
      rcases HWY.out with ⟨h1,h2⟩ | ⟨h1,h2,h3,h4⟩ | ⟨h1,h2,h3⟩ | ⟨h1,h2⟩
      ·subst h1 h2
       clear HWY
       by_cases z : st2 = 73
       ·as_aux_lemma =>
         subst z
         have HSE := Lib.hid (idle_sees HST2.out)
         go_wp2_with fail
         refine (ld_stat HLD.out id HID.out 73 HST2.out).mono ?_
         rintro e w' ⟨rfl,rfl⟩
         go_wp2_with fail
         refine (ld_sees HLD.out (by have := HIL.out; omega) HIV2.out (by have := HIL.out; omega) id HID.out S2 (HSE.out.1.trans HS2.out)).mono ?_
         rintro e w21 ⟨vw21,rfl,hq,hb⟩
         have HQ1 := Lib.hid hq
         obtain ⟨pw21,cw21,rfl⟩ := hq.form
         clear hq
         have HLD := Lib.hid (HLD.out.below hb)
         have HQB := Lib.hid (HQB.out.bel hb)
         have KB := Lib.hid (bk_bel KB.out hb)
         clear hb y0 y1
         have y0 : w21.cell? ⟨cb,0,none⟩ = some (.int .i64 id) := KB.out.cell 0
         have y1 : w21.cell? ⟨cb,1,none⟩ = some (.int .i64 4) := KB.out.cell 1
         have HFE := Lib.hid (few_of HIV2.out HS2.out)
         go_wp2_with fail
         refine (ld_comm HLD.out HIV2.out S2 HS2.out).mono ?_
         rintro e w22 ⟨vw22,rfl,hq,hb⟩
         have HQ1 := Lib.hid (HQ1.out.bel hb)
         have HQ2 := Lib.hid hq
         obtain ⟨pw22,cw22,rfl⟩ := hq.form
         clear hq
         have HLD := Lib.hid (HLD.out.below hb)
         have HQB := Lib.hid (HQB.out.bel hb)
         have KB := Lib.hid (bk_bel KB.out hb)
         clear hb y0 y1
         have y0 : w22.cell? ⟨cb,0,none⟩ = some (.int .i64 id) := KB.out.cell 0
         have y1 : w22.cell? ⟨cb,1,none⟩ = some (.int .i64 4) := KB.out.cell 1
         go_wp2_with fail
         refine (same9 _ _ S2 S2 true (decide_eq_true rfl) HFE.out w22 HQ1.out.sr HQ2.out.sr).mono ?_
         rintro e w23 ⟨rfl,hb⟩
         have HLD := Lib.hid (HLD.out.below hb)
         have HQB := Lib.hid (HQB.out.bel hb)
         have KB := Lib.hid (bk_bel KB.out hb)
         clear hb y0 y1
         have y0 : w23.cell? ⟨cb,0,none⟩ = some (.int .i64 id) := KB.out.cell 0
         have y1 : w23.cell? ⟨cb,1,none⟩ = some (.int .i64 4) := KB.out.cell 1
         go_wp2_with fail
         refine (ld_stat HLD.out id HID.out 73 HST2.out).mono ?_
         rintro e w' ⟨rfl,rfl⟩
         go_wp2_with fail
         refine (ld_writ HLD.out (by have := HIL.out; omega) HIV2.out id HID.out [] HSE.out.2).mono ?_
         rintro e w24 ⟨vw24,rfl,ho,hb⟩
         obtain ⟨pw24,cw24,rfl⟩ := OT.ln ho
         clear ho
         have HLD := Lib.hid (HLD.out.below hb)
         have HQB := Lib.hid (HQB.out.bel hb)
         have KB := Lib.hid (bk_bel KB.out hb)
         clear hb y0 y1
         have y0 : w24.cell? ⟨cb,0,none⟩ = some (.int .i64 id) := KB.out.cell 0
         have y1 : w24.cell? ⟨cb,1,none⟩ = some (.int .i64 4) := KB.out.cell 1
         go_wp2
         go_roundg (gk - 1)
         case measure => exact HGK.out.2
         case rel => exact ⟨i1,D2,rfl,HGK.out.1,by rw [← HI1.out]; exact HLD,by rw [← HI1.out]; exact HIV2⟩
       ·as_aux_lemma =>
         go_wp2_with fail
         refine (ld_stat HLD.out id HID.out st2 HST2.out).mono ?_
         rintro e w' ⟨rfl,rfl⟩
         go_wp2_with fail
         refine (ld_stat HLD.out id HID.out st2 HST2.out).mono ?_
         rintro e w' ⟨rfl,rfl⟩
         go_wp2
         go_roundg (gk - 1)
         case measure => exact HGK.out.2
         case rel => exact ⟨i1,D2,rfl,HGK.out.1,by rw [← HI1.out]; exact HLD,by rw [← HI1.out]; exact HIV2⟩
      ·subst h1 h3
       clear HWY
       have HFB := Lib.hid (few_of HIV2.out HS2.out)
       go_wp2_with fail
       refine (ld_comm HLD.out HIV2.out S2 HS2.out).mono ?_
       rintro e w25 ⟨vw25,rfl,hq,hb⟩
       have HQ3 := Lib.hid hq
       obtain ⟨pw25,cw25,rfl⟩ := hq.form
       clear hq
       have HLD := Lib.hid (HLD.out.below hb)
       have HQB := Lib.hid (HQB.out.bel hb)
       have KB := Lib.hid (bk_bel KB.out hb)
       clear hb y0 y1
       have y0 : w25.cell? ⟨cb,0,none⟩ = some (.int .i64 id) := KB.out.cell 0
       have y1 : w25.cell? ⟨cb,1,none⟩ = some (.int .i64 cl) := KB.out.cell 1
       go_wp2_with fail
       refine (same9 _ _ S2 S2 true (decide_eq_true rfl) HFB.out w25 HQ3.out.sr HQB.out.sr).mono ?_
       rintro e w26 ⟨rfl,hb⟩
       have HLD := Lib.hid (HLD.out.below hb)
       have HQB := Lib.hid (HQB.out.bel hb)
       have KB := Lib.hid (bk_bel KB.out hb)
       clear hb y0 y1
       have y0 : w26.cell? ⟨cb,0,none⟩ = some (.int .i64 id) := KB.out.cell 0
       have y1 : w26.cell? ⟨cb,1,none⟩ = some (.int .i64 cl) := KB.out.cell 1
       by_cases z : st2 = 73
       ·as_aux_lemma =>
         subst z
         have HSE := Lib.hid (idle_sees HST2.out)
         go_wp2_with fail
         refine (ld_stat HLD.out id HID.out 73 HST2.out).mono ?_
         rintro e w' ⟨rfl,rfl⟩
         go_wp2_with fail
         refine (ld_sees HLD.out (by have := HIL.out; omega) HIV2.out (by have := HIL.out; omega) id HID.out S2 (HSE.out.1.trans HS2.out)).mono ?_
         rintro e w27 ⟨vw27,rfl,hq,hb⟩
         have HQ1 := Lib.hid hq
         obtain ⟨pw27,cw27,rfl⟩ := hq.form
         clear hq
         have HLD := Lib.hid (HLD.out.below hb)
         have HQB := Lib.hid (HQB.out.bel hb)
         have KB := Lib.hid (bk_bel KB.out hb)
         clear hb y0 y1
         have y0 : w27.cell? ⟨cb,0,none⟩ = some (.int .i64 id) := KB.out.cell 0
         have y1 : w27.cell? ⟨cb,1,none⟩ = some (.int .i64 cl) := KB.out.cell 1
         have HFE := Lib.hid (few_of HIV2.out HS2.out)
         go_wp2_with fail
         refine (ld_comm HLD.out HIV2.out S2 HS2.out).mono ?_
         rintro e w28 ⟨vw28,rfl,hq,hb⟩
         have HQ1 := Lib.hid (HQ1.out.bel hb)
         have HQ2 := Lib.hid hq
         obtain ⟨pw28,cw28,rfl⟩ := hq.form
         clear hq
         have HLD := Lib.hid (HLD.out.below hb)
         have HQB := Lib.hid (HQB.out.bel hb)
         have KB := Lib.hid (bk_bel KB.out hb)
         clear hb y0 y1
         have y0 : w28.cell? ⟨cb,0,none⟩ = some (.int .i64 id) := KB.out.cell 0
         have y1 : w28.cell? ⟨cb,1,none⟩ = some (.int .i64 cl) := KB.out.cell 1
         go_wp2_with fail
         refine (same9 _ _ S2 S2 true (decide_eq_true rfl) HFE.out w28 HQ1.out.sr HQ2.out.sr).mono ?_
         rintro e w29 ⟨rfl,hb⟩
         have HLD := Lib.hid (HLD.out.below hb)
         have HQB := Lib.hid (HQB.out.bel hb)
         have KB := Lib.hid (bk_bel KB.out hb)
         clear hb y0 y1
         have y0 : w29.cell? ⟨cb,0,none⟩ = some (.int .i64 id) := KB.out.cell 0
         have y1 : w29.cell? ⟨cb,1,none⟩ = some (.int .i64 cl) := KB.out.cell 1
         go_wp2_with fail
         refine (ld_stat HLD.out id HID.out 73 HST2.out).mono ?_
         rintro e w' ⟨rfl,rfl⟩
         go_wp2_with fail
         refine (ld_writ HLD.out (by have := HIL.out; omega) HIV2.out id HID.out [] HSE.out.2).mono ?_
         rintro e w30 ⟨vw30,rfl,ho,hb⟩
         obtain ⟨pw30,cw30,rfl⟩ := OT.ln ho
         clear ho
         have HLD := Lib.hid (HLD.out.below hb)
         have HQB := Lib.hid (HQB.out.bel hb)
         have KB := Lib.hid (bk_bel KB.out hb)
         clear hb y0 y1
         have y0 : w30.cell? ⟨cb,0,none⟩ = some (.int .i64 id) := KB.out.cell 0
         have y1 : w30.cell? ⟨cb,1,none⟩ = some (.int .i64 cl) := KB.out.cell 1
         by_cases q1 : cl = 1
         ·exact absurd rfl (h4 (by omega)).1
         ·by_cases q2 : cl = 2
          ·exact absurd rfl (h4 (by omega)).1
          ·by_cases q8 : cl = 8
           ·exact absurd rfl (h4 (by omega)).1
           ·go_wp2
            go_roundg (gk - 1)
            case measure => exact HGK.out.2
            case rel => exact ⟨i1,D2,rfl,HGK.out.1,by rw [← HI1.out]; exact HLD,by rw [← HI1.out]; exact HIV2⟩
       ·as_aux_lemma =>
         go_wp2_with fail
         refine (ld_stat HLD.out id HID.out st2 HST2.out).mono ?_
         rintro e w' ⟨rfl,rfl⟩
         go_wp2_with fail
         refine (ld_stat HLD.out id HID.out st2 HST2.out).mono ?_
         rintro e w' ⟨rfl,rfl⟩
         by_cases q1 : cl = 1
         ·have h5 := (h4 (by omega)).2
          subst q1
          clear h4
          by_cases k0 : code = 0
          ·subst k0
           clear h5
           go_wp2
           go_roundg (gk - 1)
           case measure => exact HGK.out.2
           case rel => exact ⟨i1,D2,rfl,HGK.out.1,by rw [← HI1.out]; exact HLD,by rw [← HI1.out]; exact HIV2⟩
          ·by_cases k1 : code = 1
           ·subst k1
            clear h5
            go_wp2
            go_roundg (gk - 1)
            case measure => exact HGK.out.2
            case rel => exact ⟨i1,D2,rfl,HGK.out.1,by rw [← HI1.out]; exact HLD,by rw [← HI1.out]; exact HIV2⟩
           ·obtain rfl : st2 = 69 := by omega
            clear h5 z
            go_wp2_with fail
            refine (ld_stat HLD.out id HID.out 69 HST2.out).mono ?_
            rintro e w' ⟨rfl,rfl⟩
            go_wp2
            go_roundg (gk - 1)
            case measure => exact HGK.out.2
            case rel => exact ⟨i1,D2,rfl,HGK.out.1,by rw [← HI1.out]; exact HLD,by rw [← HI1.out]; exact HIV2⟩
         ·by_cases q2 : cl = 2
          ·have h5 := (h4 (by omega)).2
           subst q2
           clear h4
           by_cases k0 : code = 0
           ·subst k0
            clear h5
            go_wp2
            go_roundg (gk - 1)
            case measure => exact HGK.out.2
            case rel => exact ⟨i1,D2,rfl,HGK.out.1,by rw [← HI1.out]; exact HLD,by rw [← HI1.out]; exact HIV2⟩
           ·by_cases k1 : code = 1
            ·subst k1
             clear h5
             go_wp2
             go_roundg (gk - 1)
             case measure => exact HGK.out.2
             case rel => exact ⟨i1,D2,rfl,HGK.out.1,by rw [← HI1.out]; exact HLD,by rw [← HI1.out]; exact HIV2⟩
            ·obtain rfl : st2 = 69 := by omega
             clear h5 z
             go_wp2_with fail
             refine (ld_stat HLD.out id HID.out 69 HST2.out).mono ?_
             rintro e w' ⟨rfl,rfl⟩
             go_wp2
             go_roundg (gk - 1)
             case measure => exact HGK.out.2
             case rel => exact ⟨i1,D2,rfl,HGK.out.1,by rw [← HI1.out]; exact HLD,by rw [← HI1.out]; exact HIV2⟩
          ·by_cases q8 : cl = 8
           ·have h5 := (h4 (by omega)).2
            subst q8
            clear h4
            by_cases k0 : code = 0
            ·subst k0
             clear h5
             go_wp2
             go_roundg (gk - 1)
             case measure => exact HGK.out.2
             case rel => exact ⟨i1,D2,rfl,HGK.out.1,by rw [← HI1.out]; exact HLD,by rw [← HI1.out]; exact HIV2⟩
            ·by_cases k1 : code = 1
             ·subst k1
              clear h5
              go_wp2
              go_roundg (gk - 1)
              case measure => exact HGK.out.2
              case rel => exact ⟨i1,D2,rfl,HGK.out.1,by rw [← HI1.out]; exact HLD,by rw [← HI1.out]; exact HIV2⟩
             ·obtain rfl : st2 = 69 := by omega
              clear h5 z
              go_wp2_with fail
              refine (ld_stat HLD.out id HID.out 69 HST2.out).mono ?_
              rintro e w' ⟨rfl,rfl⟩
              go_wp2
              go_roundg (gk - 1)
              case measure => exact HGK.out.2
              case rel => exact ⟨i1,D2,rfl,HGK.out.1,by rw [← HI1.out]; exact HLD,by rw [← HI1.out]; exact HIV2⟩
           ·clear h4
            go_wp2
            go_roundg (gk - 1)
            case measure => exact HGK.out.2
            case rel => exact ⟨i1,D2,rfl,HGK.out.1,by rw [← HI1.out]; exact HLD,by rw [← HI1.out]; exact HIV2⟩
      ·subst h1 h2
       clear HWY
       have HFB := Lib.hid (few_of HIV2.out HS2.out)
       go_wp2_with fail
       refine (ld_comm HLD.out HIV2.out S2 HS2.out).mono ?_
       rintro e w31 ⟨vw31,rfl,hq,hb⟩
       have HQ3 := Lib.hid hq
       obtain ⟨pw31,cw31,rfl⟩ := hq.form
       clear hq
       have HLD := Lib.hid (HLD.out.below hb)
       have HQB := Lib.hid (HQB.out.bel hb)
       have KB := Lib.hid (bk_bel KB.out hb)
       clear hb y0 y1
       have y0 : w31.cell? ⟨cb,0,none⟩ = some (.int .i64 id) := KB.out.cell 0
       have y1 : w31.cell? ⟨cb,1,none⟩ = some (.int .i64 cl) := KB.out.cell 1
       go_wp2_with fail
       refine (same9 _ _ S2 S2 true (decide_eq_true rfl) HFB.out w31 HQ3.out.sr HQB.out.sr).mono ?_
       rintro e w32 ⟨rfl,hb⟩
       have HLD := Lib.hid (HLD.out.below hb)
       have HQB := Lib.hid (HQB.out.bel hb)
       have KB := Lib.hid (bk_bel KB.out hb)
       clear hb y0 y1
       have y0 : w32.cell? ⟨cb,0,none⟩ = some (.int .i64 id) := KB.out.cell 0
       have y1 : w32.cell? ⟨cb,1,none⟩ = some (.int .i64 cl) := KB.out.cell 1
       by_cases z : st2 = 73
       ·as_aux_lemma =>
         subst z
         have HSE := Lib.hid (idle_sees HST2.out)
         go_wp2_with fail
         refine (ld_stat HLD.out id HID.out 73 HST2.out).mono ?_
         rintro e w' ⟨rfl,rfl⟩
         go_wp2_with fail
         refine (ld_sees HLD.out (by have := HIL.out; omega) HIV2.out (by have := HIL.out; omega) id HID.out S2 (HSE.out.1.trans HS2.out)).mono ?_
         rintro e w33 ⟨vw33,rfl,hq,hb⟩
         have HQ1 := Lib.hid hq
         obtain ⟨pw33,cw33,rfl⟩ := hq.form
         clear hq
         have HLD := Lib.hid (HLD.out.below hb)
         have HQB := Lib.hid (HQB.out.bel hb)
         have KB := Lib.hid (bk_bel KB.out hb)
         clear hb y0 y1
         have y0 : w33.cell? ⟨cb,0,none⟩ = some (.int .i64 id) := KB.out.cell 0
         have y1 : w33.cell? ⟨cb,1,none⟩ = some (.int .i64 cl) := KB.out.cell 1
         have HFE := Lib.hid (few_of HIV2.out HS2.out)
         go_wp2_with fail
         refine (ld_comm HLD.out HIV2.out S2 HS2.out).mono ?_
         rintro e w34 ⟨vw34,rfl,hq,hb⟩
         have HQ1 := Lib.hid (HQ1.out.bel hb)
         have HQ2 := Lib.hid hq
         obtain ⟨pw34,cw34,rfl⟩ := hq.form
         clear hq
         have HLD := Lib.hid (HLD.out.below hb)
         have HQB := Lib.hid (HQB.out.bel hb)
         have KB := Lib.hid (bk_bel KB.out hb)
         clear hb y0 y1
         have y0 : w34.cell? ⟨cb,0,none⟩ = some (.int .i64 id) := KB.out.cell 0
         have y1 : w34.cell? ⟨cb,1,none⟩ = some (.int .i64 cl) := KB.out.cell 1
         go_wp2_with fail
         refine (same9 _ _ S2 S2 true (decide_eq_true rfl) HFE.out w34 HQ1.out.sr HQ2.out.sr).mono ?_
         rintro e w35 ⟨rfl,hb⟩
         have HLD := Lib.hid (HLD.out.below hb)
         have HQB := Lib.hid (HQB.out.bel hb)
         have KB := Lib.hid (bk_bel KB.out hb)
         clear hb y0 y1
         have y0 : w35.cell? ⟨cb,0,none⟩ = some (.int .i64 id) := KB.out.cell 0
         have y1 : w35.cell? ⟨cb,1,none⟩ = some (.int .i64 cl) := KB.out.cell 1
         go_wp2_with fail
         refine (ld_stat HLD.out id HID.out 73 HST2.out).mono ?_
         rintro e w' ⟨rfl,rfl⟩
         go_wp2_with fail
         refine (ld_writ HLD.out (by have := HIL.out; omega) HIV2.out id HID.out [] HSE.out.2).mono ?_
         rintro e w36 ⟨vw36,rfl,ho,hb⟩
         obtain ⟨pw36,cw36,rfl⟩ := OT.ln ho
         clear ho
         have HLD := Lib.hid (HLD.out.below hb)
         have HQB := Lib.hid (HQB.out.bel hb)
         have KB := Lib.hid (bk_bel KB.out hb)
         clear hb y0 y1
         have y0 : w36.cell? ⟨cb,0,none⟩ = some (.int .i64 id) := KB.out.cell 0
         have y1 : w36.cell? ⟨cb,1,none⟩ = some (.int .i64 cl) := KB.out.cell 1
         by_cases q1 : cl = 1
         ·exact absurd rfl (h3 (by omega)).2
         ·by_cases q2 : cl = 2
          ·exact absurd rfl (h3 (by omega)).2
          ·by_cases q8 : cl = 8
           ·exact absurd rfl (h3 (by omega)).2
           ·go_wp2
            go_roundg (gk - 1)
            case measure => exact HGK.out.2
            case rel => exact ⟨i1,D2,rfl,HGK.out.1,by rw [← HI1.out]; exact HLD,by rw [← HI1.out]; exact HIV2⟩
       ·as_aux_lemma =>
         go_wp2_with fail
         refine (ld_stat HLD.out id HID.out st2 HST2.out).mono ?_
         rintro e w' ⟨rfl,rfl⟩
         go_wp2_with fail
         refine (ld_stat HLD.out id HID.out st2 HST2.out).mono ?_
         rintro e w' ⟨rfl,rfl⟩
         by_cases q1 : cl = 1
         ·obtain rfl : code = 13 := (h3 (by omega)).1
          subst q1
          clear h3
          go_wp2
          go_roundg (gk - 1)
          case measure => exact HGK.out.2
          case rel => exact ⟨i1,D2,rfl,HGK.out.1,by rw [← HI1.out]; exact HLD,by rw [← HI1.out]; exact HIV2⟩
         ·by_cases q2 : cl = 2
          ·obtain rfl : code = 13 := (h3 (by omega)).1
           subst q2
           clear h3
           go_wp2
           go_roundg (gk - 1)
           case measure => exact HGK.out.2
           case rel => exact ⟨i1,D2,rfl,HGK.out.1,by rw [← HI1.out]; exact HLD,by rw [← HI1.out]; exact HIV2⟩
          ·by_cases q8 : cl = 8
           ·obtain rfl : code = 13 := (h3 (by omega)).1
            subst q8
            clear h3
            go_wp2
            go_roundg (gk - 1)
            case measure => exact HGK.out.2
            case rel => exact ⟨i1,D2,rfl,HGK.out.1,by rw [← HI1.out]; exact HLD,by rw [← HI1.out]; exact HIV2⟩
           ·clear h3
            go_wp2
            go_roundg (gk - 1)
            case measure => exact HGK.out.2
            case rel => exact ⟨i1,D2,rfl,HGK.out.1,by rw [← HI1.out]; exact HLD,by rw [← HI1.out]; exact HIV2⟩
      ·clear HWY
       by_cases z : st2 = 73
       ·as_aux_lemma =>
         subst z
         have HSE := Lib.hid (idle_sees HST2.out)
         go_wp2_with fail
         refine (ld_stat HLD.out id HID.out 73 HST2.out).mono ?_
         rintro e w' ⟨rfl,rfl⟩
         go_wp2_with fail
         refine (ld_sees HLD.out (by have := HIL.out; omega) HIV2.out (by have := HIL.out; omega) id HID.out S2 (HSE.out.1.trans HS2.out)).mono ?_
         rintro e w37 ⟨vw37,rfl,hq,hb⟩
         have HQ1 := Lib.hid hq
         obtain ⟨pw37,cw37,rfl⟩ := hq.form
         clear hq
         have HLD := Lib.hid (HLD.out.below hb)
         have HQB := Lib.hid (HQB.out.bel hb)
         have KB := Lib.hid (bk_bel KB.out hb)
         clear hb y0 y1
         have y0 : w37.cell? ⟨cb,0,none⟩ = some (.int .i64 id) := KB.out.cell 0
         have y1 : w37.cell? ⟨cb,1,none⟩ = some (.int .i64 cl) := KB.out.cell 1
         have HFE := Lib.hid (few_of HIV2.out HS2.out)
         go_wp2_with fail
         refine (ld_comm HLD.out HIV2.out S2 HS2.out).mono ?_
         rintro e w38 ⟨vw38,rfl,hq,hb⟩
         have HQ1 := Lib.hid (HQ1.out.bel hb)
         have HQ2 := Lib.hid hq
         obtain ⟨pw38,cw38,rfl⟩ := hq.form
         clear hq
         have HLD := Lib.hid (HLD.out.below hb)
         have HQB := Lib.hid (HQB.out.bel hb)
         have KB := Lib.hid (bk_bel KB.out hb)
         clear hb y0 y1
         have y0 : w38.cell? ⟨cb,0,none⟩ = some (.int .i64 id) := KB.out.cell 0
         have y1 : w38.cell? ⟨cb,1,none⟩ = some (.int .i64 cl) := KB.out.cell 1
         go_wp2_with fail
         refine (same9 _ _ S2 S2 true (decide_eq_true rfl) HFE.out w38 HQ1.out.sr HQ2.out.sr).mono ?_
         rintro e w39 ⟨rfl,hb⟩
         have HLD := Lib.hid (HLD.out.below hb)
         have HQB := Lib.hid (HQB.out.bel hb)
         have KB := Lib.hid (bk_bel KB.out hb)
         clear hb y0 y1
         have y0 : w39.cell? ⟨cb,0,none⟩ = some (.int .i64 id) := KB.out.cell 0
         have y1 : w39.cell? ⟨cb,1,none⟩ = some (.int .i64 cl) := KB.out.cell 1
         go_wp2_with fail
         refine (ld_stat HLD.out id HID.out 73 HST2.out).mono ?_
         rintro e w' ⟨rfl,rfl⟩
         go_wp2_with fail
         refine (ld_writ HLD.out (by have := HIL.out; omega) HIV2.out id HID.out [] HSE.out.2).mono ?_
         rintro e w40 ⟨vw40,rfl,ho,hb⟩
         obtain ⟨pw40,cw40,rfl⟩ := OT.ln ho
         clear ho
         have HLD := Lib.hid (HLD.out.below hb)
         have HQB := Lib.hid (HQB.out.bel hb)
         have KB := Lib.hid (bk_bel KB.out hb)
         clear hb y0 y1
         have y0 : w40.cell? ⟨cb,0,none⟩ = some (.int .i64 id) := KB.out.cell 0
         have y1 : w40.cell? ⟨cb,1,none⟩ = some (.int .i64 cl) := KB.out.cell 1
         by_cases q1 : cl = 1
         ·subst q1
          go_wp2
          go_roundg (gk - 1)
          case measure => exact HGK.out.2
          case rel => exact ⟨i1,D2,rfl,HGK.out.1,by rw [← HI1.out]; exact HLD,by rw [← HI1.out]; exact HIV2⟩
         ·by_cases q2 : cl = 2
          ·subst q2
           go_wp2
           go_roundg (gk - 1)
           case measure => exact HGK.out.2
           case rel => exact ⟨i1,D2,rfl,HGK.out.1,by rw [← HI1.out]; exact HLD,by rw [← HI1.out]; exact HIV2⟩
          ·by_cases q8 : cl = 8
           ·subst q8
            go_wp2
            go_roundg (gk - 1)
            case measure => exact HGK.out.2
            case rel => exact ⟨i1,D2,rfl,HGK.out.1,by rw [← HI1.out]; exact HLD,by rw [← HI1.out]; exact HIV2⟩
           ·go_wp2
            go_roundg (gk - 1)
            case measure => exact HGK.out.2
            case rel => exact ⟨i1,D2,rfl,HGK.out.1,by rw [← HI1.out]; exact HLD,by rw [← HI1.out]; exact HIV2⟩
       ·as_aux_lemma =>
         go_wp2_with fail
         refine (ld_stat HLD.out id HID.out st2 HST2.out).mono ?_
         rintro e w' ⟨rfl,rfl⟩
         go_wp2_with fail
         refine (ld_stat HLD.out id HID.out st2 HST2.out).mono ?_
         rintro e w' ⟨rfl,rfl⟩
         by_cases q1 : cl = 1
         ·subst q1
          go_wp2
          go_roundg (gk - 1)
          case measure => exact HGK.out.2
          case rel => exact ⟨i1,D2,rfl,HGK.out.1,by rw [← HI1.out]; exact HLD,by rw [← HI1.out]; exact HIV2⟩
         ·by_cases q2 : cl = 2
          ·subst q2
           go_wp2
           go_roundg (gk - 1)
           case measure => exact HGK.out.2
           case rel => exact ⟨i1,D2,rfl,HGK.out.1,by rw [← HI1.out]; exact HLD,by rw [← HI1.out]; exact HIV2⟩
          ·by_cases q8 : cl = 8
           ·subst q8
            go_wp2
            go_roundg (gk - 1)
            case measure => exact HGK.out.2
            case rel => exact ⟨i1,D2,rfl,HGK.out.1,by rw [← HI1.out]; exact HLD,by rw [← HI1.out]; exact HIV2⟩
           ·go_wp2
            go_roundg (gk - 1)
            case measure => exact HGK.out.2
            case rel => exact ⟨i1,D2,rfl,HGK.out.1,by rw [← HI1.out]; exact HLD,by rw [← HI1.out]; exact HIV2⟩
     ·have l6 : ¬ (cl ≤ 19) := hc19
      clear hc19
      go_wp2_with fail
      try rw [hW0]
      try rw [hcb]
      go_wp2
      go_roundg (gk - 1)
      case measure => exact HGK.out.2
      case rel => exact ⟨i1,D,rfl,HGK.out.1,Lib.hid (by rw [← HI1.out]; exact HLD.out.mono (Nat.le_succ _)),Lib.hid (by rw [← HI1.out]; exact hiv.out.mono (Nat.le_succ _))⟩
    ·have l5 : ¬ ((nm.size : Int) ≤ 60) := by omega
     go_wp2_with fail
     try rw [hW0]
     try rw [hcb]
     go_wp2
     go_roundg (gk - 1)
     case measure => exact HGK.out.2
     case rel => exact ⟨i1,D,rfl,HGK.out.1,Lib.hid (by rw [← HI1.out]; exact HLD.out.mono (Nat.le_succ _)),Lib.hid (by rw [← HI1.out]; exact hiv.out.mono (Nat.le_succ _))⟩
   ·have l4 : ¬ ((i : Int) < 40) := by omega
    clear hil hig
    go_wp2_with fail
    refine (known9_any m _ (wq_bel HM.out hld.out.bel)).mono ?_
    rintro e w9 ⟨rfl,hb⟩
    have HB := Lib.hid ((hld.out.bel).trans (hb.mono (hld.out.bel).size))
    clear hb
    go_wp2
    go_ret
    exact ⟨rfl,HB.out⟩
  ·have l2 : ¬ ((i : Int) < (L.length : Int)) := by omega
   clear hil hig
   go_wp2_with fail
   refine (known9_any m _ (wq_bel HM.out hld.out.bel)).mono ?_
   rintro e w9 ⟨rfl,hb⟩
   have HB := Lib.hid ((hld.out.bel).trans (hb.mono (hld.out.bel).size))
   clear hb
   go_wp2
   go_ret
   exact ⟨rfl,HB.out⟩
theorem apart9_any (v l : Value) (m : Int) (w : World) (hm : Wq m w) (hs : FitsS w v) (hl : FitsOs w l) :
  Calls Tryz.prog 4 #[v,l] w fun e w' => e = .returned (.bool true) ∧ Below w.heap.size w w' := by
 obtain ⟨s,hs⟩ := hs
 obtain ⟨L,hL⟩ := hl
 cases h1 : lightS s with
 | false => exact apart_light v l s L m w hm hs hL h1
 | true =>
  cases h2 : rightL s with
  | false => exact apart_right v l s L m w hm hs hL h1 h2
  | true => exact apart_main v l s L m w hm hs hL h1 h2
end Go.Proofs.YtjmmninopagpjaaGreatDoor
