/- Tav Taw -/
import Derived.Test.YtjmmninopagpjaaGreatDoorG36
import Derived.Test.YtjmmninopagpjaaGreatDoorG39
import Derived.Test.YtjmmninopagpjaaGreatDoorG40
import Derived.Test.YtjmmninopagpjaaGreatDoorG46
import Derived.Test.YtjmmninopagpjaaGreatDoorG1
set_option linter.unusedSimpArgs false
set_option linter.unusedVariables false
namespace Go.Proofs.YtjmmninopagpjaaGreatDoor
open Go.ChangeShapes Go.WideShapes Go.ChangeAt Go.RowKit Go.ChangeMaps
set_option maxRecDepth 100000
set_option linter.unusedVariables false
set_option linter.unusedSimpArgs false

theorem TS.srt {w : World} {v : Value} {d : List ByteArray} (h : SL.TS w v d) : SRT w v (d.map fun x => x.data.toList) := by
 rcases h with ⟨A,cap,rfl,rfl⟩ | ⟨g,off,cap,rfl,hc,hx⟩
 ·exact .inl ⟨_,_,rfl,rfl⟩
 ·refine .inr ⟨g,off,cap,by rw [List.length_map],by rw [List.length_map]; exact hc,fun i x hi => ?_⟩
  rw [List.getElem?_map] at hi
  cases hd : d[i]? with
  | none => rw [hd] at hi; cases hi
  | some y =>
   rw [hd] at hi
   injection hi with hi
   subst hi
   rw [hx i y hd]
theorem names_inj {d e : List ByteArray} : (d.map fun x => x.data.toList) = (e.map fun x => x.data.toList) ↔ d = e := by
 constructor
 ·intro h
  induction d generalizing e with
  | nil => cases e with
   | nil => rfl
   | cons a e => simp at h
  | cons a d ih => cases e with
   | nil => simp at h
   | cons b e =>
    rw [List.map_cons,List.map_cons] at h
    injection h with h1 h2
    rw [MV.ba_of h1,ih h2]
 ·rintro rfl; rfl
theorem texts9 (v1 v2 : Value) (d e : List ByteArray) (R : Bool) (hR : decide (d = e) = R) (w : World) (h1 : SL.TS w v1 d) (h2 : SL.TS w v2 e) (hl : d.length ≤ 1000000) (hl2 : e.length ≤ 1000000) :
  Calls Tryz.prog 22 #[v1,v2] w fun r w' => r = .returned (.bool R) ∧ Below w.heap.size w w' := by
 subst hR
 refine (rtexts_any v1 v2 _ _ w (TS.srt h1) (TS.srt h2) (by rw [List.length_map]; omega) (by rw [List.length_map]; omega)).mono ?_
 rintro r w' ⟨rfl,n,rfl⟩
 refine ⟨?_,SL.below_drewN _ _ _⟩
 congr 2
 exact decide_eq_decide.2 names_inj
theorem rows9 (v1 v2 : Value) (l m : List Rw) (R : Bool) (hR : decide (l = m) = R) (w : World) (h1 : RR w v1 l) (h2 : RR w v2 m) (hl : l.length ≤ 1000000) :
  Calls Tryz.prog 17 #[v1,v2] w fun r w' => r = .returned (.bool R) ∧ Below w.heap.size w w' := by
 subst hR
 refine (rrows_any v1 v2 l m w h1 h2 hl).mono ?_
 rintro r w' ⟨rfl,n,rfl⟩
 exact ⟨rfl,SL.below_drewN _ _ _⟩
theorem light9 (v : Value) (s : List Tb) (b : Bool) (hb : lightS s = b) (w : World) (h : SR w v s) :
  Calls Tryz.prog 8 #[v] w fun e w' => e = .returned (.bool b) ∧ Below w.heap.size w w' := by
 refine (light8_any v s w h).mono ?_
 rintro e w' ⟨he,n,rfl⟩
 exact ⟨by rw [he,hb],SL.below_drewN _ _ _⟩
theorem rright9 (v : Value) (s : List Tb) (b : Bool) (hb : rightL s = b) (hf : FewS s) (w : World) (h : SR w v s) :
  Calls Tryz.prog 27 #[v] w fun e w' => e = .returned (.bool b) ∧ Below w.heap.size w w' := by
 have := rright_any v s w h hf
 rw [hb] at this
 exact this
theorem fewR_of {s : List Tb} (h : FewS s) : FewR s := ⟨h.1,fun t ht => (h.2 t ht).2⟩
theorem same9 (v1 v2 : Value) (s t : List Tb) (R : Bool) (hR : decide (s = t) = R) (hf : FewS s) (w : World) (h1 : SR w v1 s) (h2 : SR w v2 t) : Calls Tryz.prog 18 #[v1,v2] w fun e w' => e = .returned (.bool R) ∧ Below w.heap.size w w' := by
 subst hR
 refine (rsame_any v1 v2 s t w h1 h2 (fewR_of hf)).mono ?_
 rintro e w' ⟨he,n,rfl⟩
 exact ⟨he,SL.below_drewN _ _ _⟩
theorem OT.kc {B : Nat} {w w' : World} {v : Value} {d : List ByteArray} (h : SL.OT B w v d) (hk : Kc w w') : SL.OT B w' v d := h.keep fun g hg => by
 obtain ⟨cur,hc⟩ := own_type h hg
 exact (hk g cur _ _ (by decide) (by decide) hc).trans hc.symm
theorem bk_kc {w w' : World} {g : Nat} {t : TypeId} {cs : Array Value} (h : SL.Bk w g t cs) (hk : Kc w w') (h1 : t ≠ 58) (h2 : t ≠ 73) : SL.Bk w' g t cs := hk g cs t _ h1 h2 h
theorem light_fewS {s : List Tb} (h : lightS s = true) : FewS s := by
 unfold lightS at h
 rw [Bool.and_eq_true,decide_eq_true_eq,List.all_eq_true] at h
 refine ⟨by omega,fun t ht => ?_⟩
 have := h.2 t ht
 unfold lightT at this
 rw [Bool.and_eq_true,decide_eq_true_eq,decide_eq_true_eq] at this
 omega
theorem OT.ln {B : Nat} {w : World} {v : Value} {d : List ByteArray} (h : SL.OT B w v d) : ∃ a c,v = .slice a d.length c := by
 rcases h.2 with ⟨rfl,hz⟩ | ⟨g,cap,cur,rfl,_⟩
 ·exact ⟨none,0,by rw [hz]⟩
 ·exact ⟨_,_,rfl⟩
theorem tabl9_any (w : World) : Calls Tryz.prog 28 #[] w fun e w' => ∃ v,e = .returned v ∧ SR w' v [(⟨#[116]⟩,[])] ∧ Below w.heap.size w w' := by
 go_enter Tryz.func28,Tryz.ntmps28
 go_wp2
 go_ret
 have hk : SL.Bk (w.alloc (.cells #[.string ⟨#[116]⟩,.slice none 0 0] 63)) w.heap.size 63 #[.string ⟨#[116]⟩,.slice none 0 0] := SL.Bk.new _ _ _
 refine ⟨_,rfl,.inr ⟨w.heap.size,0,1,rfl,by simp,fun i t hi => ?_⟩,(Below.refl _ _).alloc (Nat.le_refl _) _⟩
 cases i with
 | zero =>
  simp at hi
  subst hi
  exact ⟨hk.cell 0,.slice none 0 0,hk.cell 1,.inl ⟨_,_,rfl,rfl⟩⟩
 | succ i => simp at hi

abbrev k9t : ByteArray := ⟨#[116]⟩
abbrev k9u : ByteArray := ⟨#[117]⟩
abbrev k9e : ByteArray := ⟨#[]⟩
def k9s : List Tb := [(k9t,[])]
def k9r : List Tb := [(k9t,[(1,2)])]
def k9D0 : Dbp := (k9s,fun _ => none)
def k9D1 : Dbp := (k9s,setO k9D0.2 1 (some (false,[])))
def k9D2 : Dbp := (k9s,setO k9D1.2 1 (some (false,k9r)))
def k9D3 : Dbp := (k9r,setO k9D2.2 1 none)
def k9D4 : Dbp := (k9r,setO k9D3.2 3 (some (false,[])))
def k9D5 : Dbp := (k9r,setO k9D4.2 3 (some (true,[])))
theorem k9q1 : runP k9D0 1 3 0 k9e 0 0 false (txB 0 k9e 0 0 false) = (k9D1,[],0) := by kernel_rfl
theorem k9q2 : runP k9D1 1 2 2 k9t 1 2 true (txB 2 k9t 1 2 true) = (k9D2,[],0) := by kernel_rfl
theorem k9q3 : runP k9D2 1 1 1 k9t 0 0 false (txB 1 k9t 0 0 false) = (k9D2,[(1,2)],0) := by kernel_rfl
theorem k9q4 : runP k9D2 2 1 1 k9t 0 0 false (txB 1 k9t 0 0 false) = (k9D2,[],0) := by kernel_rfl
theorem k9q5 : runP k9D2 1 4 0 k9e 0 0 false (txB 0 k9e 0 0 false) = (k9D3,[],0) := by kernel_rfl
theorem k9q6 : runP k9D3 2 1 1 k9t 0 0 false (txB 1 k9t 0 0 false) = (k9D3,[(1,2)],0) := by kernel_rfl
theorem k9q7 : runP k9D3 2 4 0 k9e 0 0 false (txB 0 k9e 0 0 false) = (k9D3,[],10) := by kernel_rfl
theorem k9q8 : runP k9D3 3 3 0 k9e 0 0 false (txB 0 k9e 0 0 false) = (k9D4,[],0) := by kernel_rfl
theorem k9q9 : runP k9D4 3 1 1 k9u 0 0 false (txB 1 k9u 0 0 false) = (k9D5,[],8) := by kernel_rfl
theorem k9q10 : runP k9D5 3 1 1 k9t 0 0 false (txB 1 k9t 0 0 false) = (k9D5,[],13) := by kernel_rfl
theorem k9i0 : InvP k9D0 0 := inv_new (s := k9s) (by kernel_rfl)
theorem k9i1 : InvP k9D1 1 := by
 have := k9i0.runT 1 3 0 k9e 0 0 false
 rw [k9q1] at this
 exact this
theorem k9i2 : InvP k9D2 2 := by
 have := k9i1.runT 1 2 2 k9t 1 2 true
 rw [k9q2] at this
 exact this
theorem k9i3 : InvP k9D3 3 := by
 have := k9i2.runT 1 4 0 k9e 0 0 false
 rw [k9q5] at this
 exact this
theorem k9i4 : InvP k9D4 4 := by
 have := k9i3.runT 3 3 0 k9e 0 0 false
 rw [k9q8] at this
 exact this
theorem k9i5 : InvP k9D5 5 := by
 have := k9i4.runT 3 1 1 k9u 0 0 false
 rw [k9q9] at this
 exact this
set_option maxHeartbeats 16000000 in
theorem known9_any (m : Int) (w : World) (hm : Wq m w) :
  Calls Tryz.prog 9 #[] w fun e w' => e = .returned (.bool true) ∧ Below w.heap.size w w' := by
 have HM := Lib.hid hm
 clear hm
 go_enter Tryz.func9,Tryz.ntmps9
 go_wp2_with fail
 refine (tabl9_any w).mono ?_
 rintro e w1 ⟨v1,rfl,hs1,hb1⟩
 have B1 := Lib.hid hb1
 have HN := Lib.hid (ld_new (w0 := w) v1 k9s hs1 (by kernel_rfl) hb1)
 obtain ⟨a1,c1,rfl⟩ := hs1.form
 clear hs1 hb1
 go_wp2_with fail
 refine HN.out.mono ?_
 rintro e w2 ⟨g,rfl,hl2,hb2⟩
 have HL := Lib.hid hl2
 clear hl2 hb2 HN
 go_wp2_with fail
 obtain ⟨W3,hW3⟩ : ∃ W,w2.alloc (.cells #[.string ⟨#[]⟩,.slice none 0 0] 63) = W := ⟨_,rfl⟩
 have b3 : Below w2.heap.size w2 W3 := by rw [← hW3]; exact (Below.refl _ _).alloc (Nat.le_refl _) _
 have k3 : SL.Bk W3 w2.heap.size 63 #[.string ⟨#[]⟩,.slice none 0 0] := by rw [← hW3]; exact SL.Bk.new _ _ _
 have hs3 : SR W3 (.slice (some ⟨w2.heap.size,0,none⟩) 1 1) [(k9e,[])] := .inr ⟨w2.heap.size,0,1,rfl,by simp,fun i t hi => by
  cases i with
  | zero =>
   simp at hi
   subst hi
   exact ⟨k3.cell 0,.slice none 0 0,k3.cell 1,.inl ⟨_,_,rfl,rfl⟩⟩
  | succ i => simp at hi⟩
 have HN := Lib.hid (new_no _ _ W3 hs3 (by kernel_rfl))
 have HL := Lib.hid (HL.out.below b3)
 clear b3 k3 hs3
 rw [hW3]
 refine HN.out.mono ?_
 rintro e w4 ⟨rfl,hb4⟩
 have HL := Lib.hid (HL.out.below hb4)
 clear hb4 HN hW3
 go_wp2_with fail
 obtain ⟨W5,hW5⟩ : ∃ W,w4.alloc (.cells #[.int .i64 1,.string ⟨#[116]⟩,.int .i64 0,.int .i64 0,.bool false] 34) = W := ⟨_,rfl⟩
 obtain ⟨cb,hcb⟩ : ∃ b,w4.heap.size = b := ⟨_,rfl⟩
 have b5 : Below w4.heap.size w4 W5 := by rw [← hW5]; exact (Below.refl _ _).alloc (Nat.le_refl _) _
 have k5 : SL.Bk W5 cb 34 #[.int .i64 1,.string ⟨#[116]⟩,.int .i64 0,.int .i64 0,.bool false] := by rw [← hW5,← hcb]; exact SL.Bk.new _ _ _
 have HL := Lib.hid (HL.out.below b5)
 have KB := Lib.hid k5
 clear b5 k5
 try rw [hW5]
 try rw [hcb]
 clear hW5 hcb
 have y0 : W5.cell? ⟨cb,0,none⟩ = some (.int .i64 1) := KB.out.cell 0
 have y1 : W5.cell? ⟨cb,1,none⟩ = some (.string ⟨#[116]⟩) := KB.out.cell 1
 have y2 : W5.cell? ⟨cb,2,none⟩ = some (.int .i64 0) := KB.out.cell 2
 have y3 : W5.cell? ⟨cb,3,none⟩ = some (.int .i64 0) := KB.out.cell 3
 have y4 : W5.cell? ⟨cb,4,none⟩ = some (.bool false) := KB.out.cell 4
 refine (ld_run HL.out (by decide) 1 (by decide) 3 0 k9e 0 0 false m (wq_bel HM.out HL.out.bel) (by decide) (by unfold i64B; decide) (by unfold i64B; decide) _ k9i0 (by decide) _ k9q1).mono ?_
 rintro e w6 ⟨r1,rfl,hq,hl,hk⟩
 have HL := Lib.hid hl
 have KB := Lib.hid (bk_kc KB.out hk (by decide) (by decide))
 have R1 : Hid (RQ w6 r1 []) := Lib.hid hq
 clear hq hl hk y0 y1 y2 y3 y4
 obtain ⟨ra1,rc1,rfl⟩ := R1.out.form
 have y0 : w6.cell? ⟨cb,0,none⟩ = some (.int .i64 1) := KB.out.cell 0
 have y1 : w6.cell? ⟨cb,1,none⟩ = some (.string ⟨#[116]⟩) := KB.out.cell 1
 have y2 : w6.cell? ⟨cb,2,none⟩ = some (.int .i64 0) := KB.out.cell 2
 have y3 : w6.cell? ⟨cb,3,none⟩ = some (.int .i64 0) := KB.out.cell 3
 have y4 : w6.cell? ⟨cb,4,none⟩ = some (.bool false) := KB.out.cell 4
 go_wp2_with fail
 refine (ld_run HL.out (by decide) 1 (by decide) 2 2 k9t 1 2 true m (wq_bel HM.out HL.out.bel) (by decide) (by unfold i64B; decide) (by unfold i64B; decide) _ k9i1 (by decide) _ k9q2).mono ?_
 rintro e w7 ⟨r2,rfl,hq,hl,hk⟩
 have HL := Lib.hid hl
 have KB := Lib.hid (bk_kc KB.out hk (by decide) (by decide))
 have R1 := Lib.hid (R1.out.kt hk.kt)
 have R2 : Hid (RQ w7 r2 []) := Lib.hid hq
 clear hq hl hk y0 y1 y2 y3 y4
 obtain ⟨ra2,rc2,rfl⟩ := R2.out.form
 have y0 : w7.cell? ⟨cb,0,none⟩ = some (.int .i64 1) := KB.out.cell 0
 have y1 : w7.cell? ⟨cb,1,none⟩ = some (.string ⟨#[116]⟩) := KB.out.cell 1
 have y2 : w7.cell? ⟨cb,2,none⟩ = some (.int .i64 0) := KB.out.cell 2
 have y3 : w7.cell? ⟨cb,3,none⟩ = some (.int .i64 0) := KB.out.cell 3
 have y4 : w7.cell? ⟨cb,4,none⟩ = some (.bool false) := KB.out.cell 4
 go_wp2_with fail
 refine (ld_run HL.out (by decide) 1 (by decide) 1 1 k9t 0 0 false m (wq_bel HM.out HL.out.bel) (by decide) (by unfold i64B; decide) (by unfold i64B; decide) _ k9i2 (by decide) _ k9q3).mono ?_
 rintro e w8 ⟨r3,rfl,hq,hl,hk⟩
 have HL := Lib.hid hl
 have KB := Lib.hid (bk_kc KB.out hk (by decide) (by decide))
 have R1 := Lib.hid (R1.out.kt hk.kt)
 have R2 := Lib.hid (R2.out.kt hk.kt)
 have R3 : Hid (RQ w8 r3 [(1,2)]) := Lib.hid hq
 clear hq hl hk y0 y1 y2 y3 y4
 obtain ⟨ra3,rc3,rfl⟩ := R3.out.form
 have y0 : w8.cell? ⟨cb,0,none⟩ = some (.int .i64 1) := KB.out.cell 0
 have y1 : w8.cell? ⟨cb,1,none⟩ = some (.string ⟨#[116]⟩) := KB.out.cell 1
 have y2 : w8.cell? ⟨cb,2,none⟩ = some (.int .i64 0) := KB.out.cell 2
 have y3 : w8.cell? ⟨cb,3,none⟩ = some (.int .i64 0) := KB.out.cell 3
 have y4 : w8.cell? ⟨cb,4,none⟩ = some (.bool false) := KB.out.cell 4
 go_wp2_with fail
 refine (ld_run HL.out (by decide) 2 (by decide) 1 1 k9t 0 0 false m (wq_bel HM.out HL.out.bel) (by decide) (by unfold i64B; decide) (by unfold i64B; decide) _ k9i2 (by decide) _ k9q4).mono ?_
 rintro e w9 ⟨r4,rfl,hq,hl,hk⟩
 have HL := Lib.hid hl
 have KB := Lib.hid (bk_kc KB.out hk (by decide) (by decide))
 have R1 := Lib.hid (R1.out.kt hk.kt)
 have R2 := Lib.hid (R2.out.kt hk.kt)
 have R3 := Lib.hid (R3.out.kt hk.kt)
 have R4 : Hid (RQ w9 r4 []) := Lib.hid hq
 clear hq hl hk y0 y1 y2 y3 y4
 obtain ⟨ra4,rc4,rfl⟩ := R4.out.form
 have y0 : w9.cell? ⟨cb,0,none⟩ = some (.int .i64 1) := KB.out.cell 0
 have y1 : w9.cell? ⟨cb,1,none⟩ = some (.string ⟨#[116]⟩) := KB.out.cell 1
 have y2 : w9.cell? ⟨cb,2,none⟩ = some (.int .i64 0) := KB.out.cell 2
 have y3 : w9.cell? ⟨cb,3,none⟩ = some (.int .i64 0) := KB.out.cell 3
 have y4 : w9.cell? ⟨cb,4,none⟩ = some (.bool false) := KB.out.cell 4
 go_wp2_with fail
 refine (ld_writ HL.out (by decide) k9i2 1 (by decide) [k9t] rfl).mono ?_
 rintro e w10 ⟨vw,rfl,ho,hb⟩
 have HL := Lib.hid (HL.out.below hb)
 have KB := Lib.hid (bk_bel KB.out hb)
 have R1 := Lib.hid (R1.out.bel hb)
 have R2 := Lib.hid (R2.out.bel hb)
 have R3 := Lib.hid (R3.out.bel hb)
 have R4 := Lib.hid (R4.out.bel hb)
 have HW : Hid (SL.OT w9.heap.size w10 vw [k9t]) := Lib.hid ho
 clear ho hb y0 y1 y2 y3 y4
 obtain ⟨wa,wc,rfl⟩ := OT.ln HW.out
 have y0 : w10.cell? ⟨cb,0,none⟩ = some (.int .i64 1) := KB.out.cell 0
 have y1 : w10.cell? ⟨cb,1,none⟩ = some (.string ⟨#[116]⟩) := KB.out.cell 1
 have y2 : w10.cell? ⟨cb,2,none⟩ = some (.int .i64 0) := KB.out.cell 2
 have y3 : w10.cell? ⟨cb,3,none⟩ = some (.int .i64 0) := KB.out.cell 3
 have y4 : w10.cell? ⟨cb,4,none⟩ = some (.bool false) := KB.out.cell 4
 go_wp2_with fail
 refine (ld_stat HL.out 1 (by decide) 84 (by kernel_rfl)).mono ?_
 rintro e w' ⟨rfl,rfl⟩
 go_wp2_with fail
 refine (ld_run HL.out (by decide) 1 (by decide) 4 0 k9e 0 0 false m (wq_bel HM.out HL.out.bel) (by decide) (by unfold i64B; decide) (by unfold i64B; decide) _ k9i2 (by decide) _ k9q5).mono ?_
 rintro e w11 ⟨r5,rfl,hq,hl,hk⟩
 have HL := Lib.hid hl
 have KB := Lib.hid (bk_kc KB.out hk (by decide) (by decide))
 have R1 := Lib.hid (R1.out.kt hk.kt)
 have R2 := Lib.hid (R2.out.kt hk.kt)
 have R3 := Lib.hid (R3.out.kt hk.kt)
 have R4 := Lib.hid (R4.out.kt hk.kt)
 have HW := Lib.hid (OT.kc HW.out hk)
 have R5 : Hid (RQ w11 r5 []) := Lib.hid hq
 clear hq hl hk y0 y1 y2 y3 y4
 obtain ⟨ra5,rc5,rfl⟩ := R5.out.form
 have y0 : w11.cell? ⟨cb,0,none⟩ = some (.int .i64 1) := KB.out.cell 0
 have y1 : w11.cell? ⟨cb,1,none⟩ = some (.string ⟨#[116]⟩) := KB.out.cell 1
 have y2 : w11.cell? ⟨cb,2,none⟩ = some (.int .i64 0) := KB.out.cell 2
 have y3 : w11.cell? ⟨cb,3,none⟩ = some (.int .i64 0) := KB.out.cell 3
 have y4 : w11.cell? ⟨cb,4,none⟩ = some (.bool false) := KB.out.cell 4
 go_wp2_with fail
 refine (ld_run HL.out (by decide) 2 (by decide) 1 1 k9t 0 0 false m (wq_bel HM.out HL.out.bel) (by decide) (by unfold i64B; decide) (by unfold i64B; decide) _ k9i3 (by decide) _ k9q6).mono ?_
 rintro e w12 ⟨r6,rfl,hq,hl,hk⟩
 have HL := Lib.hid hl
 have KB := Lib.hid (bk_kc KB.out hk (by decide) (by decide))
 have R1 := Lib.hid (R1.out.kt hk.kt)
 have R2 := Lib.hid (R2.out.kt hk.kt)
 have R3 := Lib.hid (R3.out.kt hk.kt)
 have R4 := Lib.hid (R4.out.kt hk.kt)
 have R5 := Lib.hid (R5.out.kt hk.kt)
 have HW := Lib.hid (OT.kc HW.out hk)
 have R6 : Hid (RQ w12 r6 [(1,2)]) := Lib.hid hq
 clear hq hl hk y0 y1 y2 y3 y4
 obtain ⟨ra6,rc6,rfl⟩ := R6.out.form
 have y0 : w12.cell? ⟨cb,0,none⟩ = some (.int .i64 1) := KB.out.cell 0
 have y1 : w12.cell? ⟨cb,1,none⟩ = some (.string ⟨#[116]⟩) := KB.out.cell 1
 have y2 : w12.cell? ⟨cb,2,none⟩ = some (.int .i64 0) := KB.out.cell 2
 have y3 : w12.cell? ⟨cb,3,none⟩ = some (.int .i64 0) := KB.out.cell 3
 have y4 : w12.cell? ⟨cb,4,none⟩ = some (.bool false) := KB.out.cell 4
 go_wp2_with fail
 refine (ld_run HL.out (by decide) 2 (by decide) 4 0 k9e 0 0 false m (wq_bel HM.out HL.out.bel) (by decide) (by unfold i64B; decide) (by unfold i64B; decide) _ k9i3 (by decide) _ k9q7).mono ?_
 rintro e w13 ⟨r7,rfl,hq,hl,hk⟩
 have HL := Lib.hid hl
 have KB := Lib.hid (bk_kc KB.out hk (by decide) (by decide))
 have R1 := Lib.hid (R1.out.kt hk.kt)
 have R2 := Lib.hid (R2.out.kt hk.kt)
 have R3 := Lib.hid (R3.out.kt hk.kt)
 have R4 := Lib.hid (R4.out.kt hk.kt)
 have R5 := Lib.hid (R5.out.kt hk.kt)
 have R6 := Lib.hid (R6.out.kt hk.kt)
 have HW := Lib.hid (OT.kc HW.out hk)
 have R7 : Hid (RQ w13 r7 []) := Lib.hid hq
 clear hq hl hk y0 y1 y2 y3 y4
 obtain ⟨ra7,rc7,rfl⟩ := R7.out.form
 have y0 : w13.cell? ⟨cb,0,none⟩ = some (.int .i64 1) := KB.out.cell 0
 have y1 : w13.cell? ⟨cb,1,none⟩ = some (.string ⟨#[116]⟩) := KB.out.cell 1
 have y2 : w13.cell? ⟨cb,2,none⟩ = some (.int .i64 0) := KB.out.cell 2
 have y3 : w13.cell? ⟨cb,3,none⟩ = some (.int .i64 0) := KB.out.cell 3
 have y4 : w13.cell? ⟨cb,4,none⟩ = some (.bool false) := KB.out.cell 4
 go_wp2_with fail
 refine (ld_run HL.out (by decide) 3 (by decide) 3 0 k9e 0 0 false m (wq_bel HM.out HL.out.bel) (by decide) (by unfold i64B; decide) (by unfold i64B; decide) _ k9i3 (by decide) _ k9q8).mono ?_
 rintro e w14 ⟨r8,rfl,hq,hl,hk⟩
 have HL := Lib.hid hl
 have KB := Lib.hid (bk_kc KB.out hk (by decide) (by decide))
 have R1 := Lib.hid (R1.out.kt hk.kt)
 have R2 := Lib.hid (R2.out.kt hk.kt)
 have R3 := Lib.hid (R3.out.kt hk.kt)
 have R4 := Lib.hid (R4.out.kt hk.kt)
 have R5 := Lib.hid (R5.out.kt hk.kt)
 have R6 := Lib.hid (R6.out.kt hk.kt)
 have R7 := Lib.hid (R7.out.kt hk.kt)
 have HW := Lib.hid (OT.kc HW.out hk)
 have R8 : Hid (RQ w14 r8 []) := Lib.hid hq
 clear hq hl hk y0 y1 y2 y3 y4
 obtain ⟨ra8,rc8,rfl⟩ := R8.out.form
 have y0 : w14.cell? ⟨cb,0,none⟩ = some (.int .i64 1) := KB.out.cell 0
 have y1 : w14.cell? ⟨cb,1,none⟩ = some (.string ⟨#[116]⟩) := KB.out.cell 1
 have y2 : w14.cell? ⟨cb,2,none⟩ = some (.int .i64 0) := KB.out.cell 2
 have y3 : w14.cell? ⟨cb,3,none⟩ = some (.int .i64 0) := KB.out.cell 3
 have y4 : w14.cell? ⟨cb,4,none⟩ = some (.bool false) := KB.out.cell 4
 go_wp2_with fail
 refine (ld_run HL.out (by decide) 3 (by decide) 1 1 k9u 0 0 false m (wq_bel HM.out HL.out.bel) (by decide) (by unfold i64B; decide) (by unfold i64B; decide) _ k9i4 (by decide) _ k9q9).mono ?_
 rintro e w15 ⟨r9,rfl,hq,hl,hk⟩
 have HL := Lib.hid hl
 have KB := Lib.hid (bk_kc KB.out hk (by decide) (by decide))
 have R1 := Lib.hid (R1.out.kt hk.kt)
 have R2 := Lib.hid (R2.out.kt hk.kt)
 have R3 := Lib.hid (R3.out.kt hk.kt)
 have R4 := Lib.hid (R4.out.kt hk.kt)
 have R5 := Lib.hid (R5.out.kt hk.kt)
 have R6 := Lib.hid (R6.out.kt hk.kt)
 have R7 := Lib.hid (R7.out.kt hk.kt)
 have R8 := Lib.hid (R8.out.kt hk.kt)
 have HW := Lib.hid (OT.kc HW.out hk)
 have R9 : Hid (RQ w15 r9 []) := Lib.hid hq
 clear hq hl hk y0 y1 y2 y3 y4
 obtain ⟨ra9,rc9,rfl⟩ := R9.out.form
 have y0 : w15.cell? ⟨cb,0,none⟩ = some (.int .i64 1) := KB.out.cell 0
 have y1 : w15.cell? ⟨cb,1,none⟩ = some (.string ⟨#[116]⟩) := KB.out.cell 1
 have y2 : w15.cell? ⟨cb,2,none⟩ = some (.int .i64 0) := KB.out.cell 2
 have y3 : w15.cell? ⟨cb,3,none⟩ = some (.int .i64 0) := KB.out.cell 3
 have y4 : w15.cell? ⟨cb,4,none⟩ = some (.bool false) := KB.out.cell 4
 go_wp2_with fail
 refine (ld_run HL.out (by decide) 3 (by decide) 1 1 k9t 0 0 false m (wq_bel HM.out HL.out.bel) (by decide) (by unfold i64B; decide) (by unfold i64B; decide) _ k9i5 (by decide) _ k9q10).mono ?_
 rintro e w16 ⟨r10,rfl,hq,hl,hk⟩
 have HL := Lib.hid hl
 have KB := Lib.hid (bk_kc KB.out hk (by decide) (by decide))
 have R1 := Lib.hid (R1.out.kt hk.kt)
 have R2 := Lib.hid (R2.out.kt hk.kt)
 have R3 := Lib.hid (R3.out.kt hk.kt)
 have R4 := Lib.hid (R4.out.kt hk.kt)
 have R5 := Lib.hid (R5.out.kt hk.kt)
 have R6 := Lib.hid (R6.out.kt hk.kt)
 have R7 := Lib.hid (R7.out.kt hk.kt)
 have R8 := Lib.hid (R8.out.kt hk.kt)
 have R9 := Lib.hid (R9.out.kt hk.kt)
 have HW := Lib.hid (OT.kc HW.out hk)
 have R10 : Hid (RQ w16 r10 []) := Lib.hid hq
 clear hq hl hk y0 y1 y2 y3 y4
 obtain ⟨ra10,rc10,rfl⟩ := R10.out.form
 have y0 : w16.cell? ⟨cb,0,none⟩ = some (.int .i64 1) := KB.out.cell 0
 have y1 : w16.cell? ⟨cb,1,none⟩ = some (.string ⟨#[116]⟩) := KB.out.cell 1
 have y2 : w16.cell? ⟨cb,2,none⟩ = some (.int .i64 0) := KB.out.cell 2
 have y3 : w16.cell? ⟨cb,3,none⟩ = some (.int .i64 0) := KB.out.cell 3
 have y4 : w16.cell? ⟨cb,4,none⟩ = some (.bool false) := KB.out.cell 4
 have z1 : (k9t : ByteArray).toList = [116] := by rw [Lib.toList_data]
 clear y0 y1 y2 y3 y4
 go_wp2_with fail
 obtain ⟨W8,hW8⟩ : ∃ W,w16.alloc (.cells #[.int .i64 1,.int .i64 2] 65) = W := ⟨_,rfl⟩
 have b8 : Below w16.heap.size w16 W8 := by rw [← hW8]; exact (Below.refl _ _).alloc (Nat.le_refl _) _
 have k8 : SL.Bk W8 w16.heap.size 65 #[.int .i64 1,.int .i64 2] := by rw [← hW8]; exact SL.Bk.new _ _ _
 have hr8 : RR W8 (.slice (some ⟨w16.heap.size,0,none⟩) 1 1) [(1,2)] := .inr ⟨_,0,1,rfl,by simp,fun i r hi => by
  cases i with
  | zero => simp at hi; subst hi; exact ⟨k8.cell 0,k8.cell 1⟩
  | succ i => simp at hi⟩
 have HX := Lib.hid (rows9 _ _ _ _ true (by decide) W8 (R3.out.bel b8).rr hr8 (by decide))
 have HL := Lib.hid (HL.out.below b8)
 have HW := Lib.hid (HW.out.keep fun g hg => b8.block g (World.ownsRow.lt HW.out g hg).2)
 have R3 := Lib.hid (R3.out.bel b8)
 have R6 := Lib.hid (R6.out.bel b8)
 clear b8 k8 hr8
 rw [hW8]
 refine HX.out.mono ?_
 rintro e w30 ⟨rfl,hb⟩
 have HL := Lib.hid (HL.out.below hb)
 have HW := Lib.hid (HW.out.keep fun g hg => hb.block g (World.ownsRow.lt HW.out g hg).2)
 have R3 := Lib.hid (R3.out.bel hb)
 have R6 := Lib.hid (R6.out.bel hb)
 clear hb hW8 HX
 go_wp2_with fail
 obtain ⟨W9,hW9⟩ : ∃ W,w30.alloc (.cells #[.string ⟨#[116]⟩] 9) = W := ⟨_,rfl⟩
 have b9 : Below w30.heap.size w30 W9 := by rw [← hW9]; exact (Below.refl _ _).alloc (Nat.le_refl _) _
 have k9 : SL.Bk W9 w30.heap.size 9 #[.string ⟨#[116]⟩] := by rw [← hW9]; exact SL.Bk.new _ _ _
 have hr9 : SL.TS W9 (.slice (some ⟨w30.heap.size,0,none⟩) 1 1) [k9t] := .inr ⟨_,0,1,rfl,by simp,fun i r hi => by
  cases i with
  | zero => simp at hi; subst hi; exact k9.cell 0
  | succ i => simp at hi⟩
 have HW := Lib.hid (HW.out.keep fun g hg => b9.block g (World.ownsRow.lt HW.out g hg).2)
 have HX := Lib.hid (texts9 _ _ [k9t] [k9t] true (by decide) W9 HW.out.ts hr9 (by decide) (by decide))
 have HL := Lib.hid (HL.out.below b9)
 have R3 := Lib.hid (R3.out.bel b9)
 have R6 := Lib.hid (R6.out.bel b9)
 clear b9 k9 hr9
 rw [hW9]
 refine HX.out.mono ?_
 rintro e w31 ⟨rfl,hb⟩
 have HL := Lib.hid (HL.out.below hb)
 have R3 := Lib.hid (R3.out.bel hb)
 have R6 := Lib.hid (R6.out.bel hb)
 clear hb hW9 HX
 go_wp2_with fail
 have HX := Lib.hid (rows9 _ _ _ _ true (by decide) w31 R6.out.rr R3.out.rr (by decide))
 refine HX.out.mono ?_
 rintro e w32 ⟨rfl,hb⟩
 have HL := Lib.hid (HL.out.below hb)
 clear hb HX
 go_wp2_with fail
 refine (ld_stat HL.out 3 (by decide) 69 (by kernel_rfl)).mono ?_
 rintro e w' ⟨rfl,rfl⟩
 go_wp2_with fail
 refine (ld_stat HL.out (-1) (by decide) 0 (by kernel_rfl)).mono ?_
 rintro e w' ⟨rfl,rfl⟩
 go_wp2
 go_ret
 exact ⟨rfl,HL.out.bel⟩
end Go.Proofs.YtjmmninopagpjaaGreatDoor
