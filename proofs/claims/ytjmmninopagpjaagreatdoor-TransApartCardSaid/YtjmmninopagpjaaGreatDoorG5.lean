/- Dj Tac Rwa Tae -/
import Derived.Test.YtjmmninopagpjaaGreatDoorG4
import Derived.OwnWalk
import Derived.Lib.AppendZerosOnto
import Derived.Lib.SliceRun
import Derived.Laws.CopyOwn
import Derived.Deep.AppendLies
import Derived.Deep.DeepAppendRoom
import Derived.Lib.Overlaps
import Derived.Deep.RegionLaw
import Derived.Test.YtjmmninopagpjaaGreatDoorG1
set_option linter.unusedSimpArgs false
set_option linter.unusedVariables false
namespace Go.Proofs.YtjmmninopagpjaaGreatDoor
open Go.ChangeShapes Go.WideShapes Go.ChangeAt Go.RowKit
set_option maxRecDepth 100000
set_option linter.unusedVariables false
set_option linter.unusedSimpArgs false

theorem FS.modk {w w1 : World} {B g cap : Nat} {x : List Tv} (h : FS B w (.slice (some ⟨g,0,none⟩) x.length cap) x) (i : Nat) (t : Tv) (hi : x[i]? = some t) (u : Value) (l : List Rw)
  (hu : OR B w1 u l) (hk : ∀ k,k < w.heap.size → some k ≠ t.2.1.ownBlock → w1.heap[k]? = w.heap[k]?) (key : ∀ (j : Nat) (p : Tv),j ≠ i → x[j]? = some p → (p.2.1.ownBlock = none ∨ p.2.1.ownBlock ≠ u.ownBlock)) :
  FS B (w1.setCell ⟨g,i * 2 + 1,none⟩ u) (.slice (some ⟨g,0,none⟩) x.length cap) (x.set i (t.1,u,l)) := by
 have hl : i < x.length := (List.getElem?_eq_some_iff.1 hi).1
 have hm : t ∈ x := List.mem_of_getElem? hi
 have hgt : some g ≠ t.2.1.ownBlock := fun e => own_ne h.own (h.rows t hm) (g := g) (g' := g) rfl e.symm ty_ne rfl
 have hg1 : w1.ownsRow B 63 2 (.slice (some ⟨g,0,none⟩) x.length cap) x.length (tcs x) := own_keep h.own fun k hk2 => by
  obtain rfl : g = k := by simpa [Value.ownBlock] using hk2
  exact hk g (h.own.lt g rfl).2 hgt
 have hug : u.ownBlock ≠ some g := fun e => own_ne hg1 hu (g := g) (g' := g) rfl e ty_ne rfl
 have hst := (World.ownsRow.stored hg1 (i * 2 + 1) u).1
 rw [tcs_set x i t u l hi] at hst
 refine ⟨by rw [List.length_set]; exact hst,?_,?_⟩
 ·intro t' ht'
  obtain ⟨j,hj,e⟩ := List.getElem_of_mem ht'
  rw [List.getElem_set] at e
  rw [List.length_set] at hj
  split at e
  ·subst e
   exact own_keep hu fun k hk2 => Below.heap_setCell _ _ _ _ (fun e => hug (by rw [hk2,e]))
  ·rename_i hij
   subst e
   have hmj : x[j] ∈ x := List.getElem_mem hj
   refine own_keep (h.rows _ hmj) fun k hk2 => ?_
   have hkg : k ≠ g := fun e => own_ne h.own (h.rows _ hmj) (g := g) (g' := k) rfl hk2 ty_ne e.symm
   rw [Below.heap_setCell _ _ _ _ (by exact hkg)]
   refine hk k ((h.rows _ hmj).lt k hk2).2 fun e => ?_
   rcases h.apart j i _ _ (fun e => hij e.symm) (List.getElem?_eq_getElem hj) hi with h1 | h1
   ·rw [hk2] at h1; cases h1
   ·exact h1 (hk2.trans e)
 ·intro a b p q hab ha hb2
  rw [List.getElem?_set] at ha hb2
  split at ha
  ·rename_i e1
   split at hb2
   ·rename_i e2; exact absurd (e1.symm.trans e2) hab
   ·rename_i e2
    try rw [if_pos hl] at ha
    injection ha with ha
    subst ha
    rcases key b q (fun e => e2 e.symm) hb2 with h1 | h1
    ·cases hub : u.ownBlock with
     | none => exact .inl hub
     | some k => exact .inr (by show u.ownBlock ≠ _; rw [hub,h1]; exact fun e => by cases e)
    ·exact .inr (fun e => h1 e.symm)
  ·rename_i e1
   split at hb2
   ·rename_i e2
    try rw [if_pos hl] at hb2
    injection hb2 with hb2
    subst hb2
    exact key a p (fun e => e1 e.symm) ha
   ·exact h.apart a b p q hab ha hb2
theorem FS.name {w : World} {B g cap : Nat} {x : List Tv} (h : FS B w (.slice (some ⟨g,0,none⟩) x.length cap) x) (i : Nat) (t : Tv) (hi : x[i]? = some t) (n : ByteArray) :
  FS B (w.setCell ⟨g,i * 2,none⟩ (.string n)) (.slice (some ⟨g,0,none⟩) x.length cap) (x.set i (n,t.2.1,t.2.2)) := by
 have hl : i < x.length := (List.getElem?_eq_some_iff.1 hi).1
 have hm : t ∈ x := List.mem_of_getElem? hi
 have hst := (World.ownsRow.stored h.own (i * 2) (.string n)).1
 rw [tcs_name x i t n t.2.2 hi] at hst
 have kp : ∀ b ∈ x,OR B (w.setCell ⟨g,i * 2,none⟩ (.string n)) b.2.1 b.2.2 := fun b hb => own_keep (h.rows b hb) fun k hk2 => Below.heap_setCell _ _ _ _ (fun e => own_ne h.own (h.rows b hb) (g := g) (g' := k) rfl hk2 ty_ne e.symm)
 refine ⟨by rw [List.length_set]; exact hst,fun b hb => ?_,fun a b p q hab ha hb2 => ?_⟩
 ·rcases mem_set hb with rfl | hb
  ·exact kp t hm
  ·exact kp b hb
 ·rw [List.getElem?_set] at ha hb2
  have e1 : ∃ p',x[a]? = some p' ∧ p'.2.1 = p.2.1 := by
   split at ha
   ·rename_i e; subst e
    try rw [if_pos hl] at ha
    injection ha with ha; subst ha; exact ⟨t,hi,rfl⟩
   ·exact ⟨p,ha,rfl⟩
  have e2 : ∃ q',x[b]? = some q' ∧ q'.2.1 = q.2.1 := by
   split at hb2
   ·rename_i e; subst e
    try rw [if_pos hl] at hb2
    injection hb2 with hb2; subst hb2; exact ⟨t,hi,rfl⟩
   ·exact ⟨q,hb2,rfl⟩
  obtain ⟨p',hp,ep⟩ := e1
  obtain ⟨q',hq,eq⟩ := e2
  have := h.apart a b p' q' hab hp hq
  unfold aprt at this ⊢
  rw [← ep,← eq]; exact this
def tight (t : Tv) : Prop := ∃ g,t.2.1 = .slice (some ⟨g,0,none⟩) t.2.2.length t.2.2.length
structure CopI (B g n : Nat) (s : List Tb) (i : Nat) (w : World) (x : List Tv) : Prop where
 fs : FS B w (.slice (some ⟨g,0,none⟩) x.length n) x
 len : x.length = n
 done : tbs (x.take i) = s.take i
 tight : ∀ (j : Nat) (t : Tv),j < i → x[j]? = some t → tight t
theorem CopI.start {B g n : Nat} {s : List Tb} {w : World} (h : w.ownsRow B 63 2 (.slice (some ⟨g,0,none⟩) n n) n (fl (List.replicate n (.string ByteArray.empty,.slice none 0 0)))) : CopI B g n s 0 w (List.replicate n (⟨#[]⟩,.slice none 0 0,[])) := by
 refine ⟨⟨?_,?_,?_⟩,List.length_replicate ..,by simp [tbs],fun j t hj => by omega⟩
 ·rw [List.length_replicate]
  unfold tcs
  rw [List.map_replicate]
  exact h
 ·intro t ht
  rw [List.eq_of_mem_replicate ht]
  exact World.ownsRow_nil _ _ _ _
 ·intro i j a b _ ha _
  rw [List.eq_of_mem_replicate (List.mem_of_getElem? ha)]
  exact .inl rfl
theorem CopI.step {B g n : Nat} {s : List Tb} {i : Nat} {w w1 : World} {x : List Tv} (h : CopI B g n s i w x) (hb : Below w.heap.size w w1) (t : Tb) (ht : s[i]? = some t) (hn : i < n) (G : Nat) (hG : w.heap.size ≤ G) (hu : OR B w1 (.slice (some ⟨G,0,none⟩) t.2.length t.2.length) t.2) :
  CopI B g n s (i + 1) ((w1.setCell ⟨g,i * 2,none⟩ (.string t.1)).setCell ⟨g,i * 2 + 1,none⟩ (.slice (some ⟨G,0,none⟩) t.2.length t.2.length)) (x.set i (t.1,.slice (some ⟨G,0,none⟩) t.2.length t.2.length,t.2)) := by
 have hil : i < x.length := by rw [h.len]; exact hn
 have hxi := List.getElem?_eq_getElem hil
 have f1 := FS.name (h.fs.below hb) i _ hxi t.1
 have hy : (x.set i (t.1,x[i].2.1,x[i].2.2))[i]? = some (t.1,x[i].2.1,x[i].2.2) := by rw [List.getElem?_set,if_pos rfl,if_pos hil]
 have hlen : (x.set i (t.1,x[i].2.1,x[i].2.2)).length = x.length := List.length_set ..
 have hgl : g < w.heap.size := (h.fs.own.lt g rfl).2
 rw [← hlen] at f1
 have f2 := FS.modk f1 i _ hy (.slice (some ⟨G,0,none⟩) t.2.length t.2.length) t.2 (w1 := w1.setCell ⟨g,i * 2,none⟩ (.string t.1)) (own_keep hu fun k hk => Below.heap_setCell _ _ _ _ (by
   have e : G = k := by simpa [Value.ownBlock] using hk
   show k ≠ g
   omega)) (fun k _ _ => rfl) (fun j p hj hp => by
   rw [List.getElem?_set,if_neg (fun e => hj e.symm)] at hp
   cases hpb : p.2.1.ownBlock with
   | none => exact .inl rfl
   | some k =>
    right
    intro e
    have := ((h.fs.rows p (List.mem_of_getElem? hp)).lt k hpb).2
    have e2 : k = G := by simpa [Value.ownBlock] using e
    omega)
 rw [List.set_set,hlen] at f2
 refine ⟨by rw [List.length_set]; exact f2,by rw [List.length_set]; exact h.len,?_,fun j q hj hq => ?_⟩
 ·rw [List.take_add_one,List.getElem?_set,if_pos rfl,if_pos hil,Option.toList_some]
  have e1 : (x.set i (t.1,.slice (some ⟨G,0,none⟩) t.2.length t.2.length,t.2)).take i = x.take i := by
   apply List.ext_getElem?
   intro k
   rw [List.getElem?_take,List.getElem?_take]
   split
   ·rw [List.getElem?_set,if_neg (by omega)]
   ·rfl
  rw [e1,List.take_add_one,ht,Option.toList_some,← h.done]
  unfold tbs
  rw [List.map_append]; rfl
 ·rw [List.getElem?_set] at hq
  split at hq
  ·try rw [if_pos hil] at hq
   injection hq with hq; subst hq; exact ⟨G,rfl⟩
  ·exact h.tight j q (by omega) hq
theorem splice_all {α : Type} (L X : List α) (h : X.length = L.length) : splice L 0 X = X := by
 unfold splice
 rw [List.take_zero,List.nil_append,List.drop_of_length_le (by omega),List.append_nil]
def FewS (s : List Tb) : Prop := s.length ≤ 1000000 ∧ ∀ t ∈ s,t.1.size ≤ 1000000 ∧ t.2.length ≤ 1000000
def CopP (s : List Tb) (w : World) (e : Ending) (w' : World) : Prop :=
 ∃ g x,e = .returned (.slice (some ⟨g,0,none⟩) s.length s.length) ∧ w.heap.size ≤ g ∧ FS w.heap.size w' (.slice (some ⟨g,0,none⟩) s.length s.length) x ∧ tbs x = s ∧ (∀ t ∈ x,tight t) ∧ Below w.heap.size w w'
theorem RR.src {w : World} {a : Option Addr} {c : Nat} {l : List Rw} (h : RR w (.slice a l.length c) l) (hp : 0 < l.length) : ∃ ad,a = some ad ∧ ∀ j v,(rcs l)[j]? = some v → w.cell? (ad.add j) = some v := by
 obtain ⟨g,off,cap,he,hc,hx⟩ := h.inv hp
 injection he with ea _ _
 refine ⟨_,ea,fun j v hj => ?_⟩
 obtain ⟨i,p,hi,hjv⟩ := fl_inv _ j v hj
 rw [List.getElem?_map] at hi
 cases hli : l[i]? with
 | none => rw [hli] at hi; cases hi
 | some r =>
  rw [hli] at hi
  injection hi with hi
  subst hi
  obtain ⟨h1,h2⟩ := hx i r hli
  rw [Addr.add_lit]
  rcases hjv with ⟨rfl,rfl⟩ | ⟨rfl,rfl⟩
  ·exact h1
  ·exact h2
set_option maxHeartbeats 4000000 in
theorem copy_any (v : Value) (s : List Tb) (w : World) (h : SR w v s) (hf : FewS s) :
  Calls Tryz.prog 31 #[v] w (CopP s w) := by
 obtain ⟨a,cap,rfl⟩ := h.form
 obtain ⟨i30,hi30,hz30,hs30,hb30⟩ := iTab
 obtain ⟨i31,hi31,hz31,hs31,hb31⟩ := iRow
 have und30 := undTab
 have und31 := undRow
 have HH := Lib.hid h
 have HF := Lib.hid hf
 have HF1 : Hid (s.length ≤ 1000000) := Lib.hid hf.1
 clear h hf
 go_enter Tryz.func31,Tryz.ntmps31
 go_wp2_with (refine wpList_make_full _ rfl _ _ 22 rfl w.heap.size 63 i30 _ 2 und30 hi30 hz30 hs30 _ _ _ _ s.length rfl rfl rfl rfl ?a1 ?a2 (Nat.le_refl _) ?_)
 case a1 => rw [hb30]; have := HF1.out; omega
 case a2 => have := HF1.out; unfold maxLen; omega
 intro w1 how hgr

 rw [made2] at how
 have HI0 := Lib.hid (CopI.start (s := s) how)
 have HB1 := Lib.hid ((Below.refl w.heap.size w).grown hgr (Nat.le_refl _) (fun k hk => by cases hk))
 obtain ⟨g,hg⟩ : ∃ g,w.heap.size = g := ⟨_,rfl⟩
 have HG := Lib.hid hg
 have HHW : Hid (SR w1 (.slice a s.length cap) s) := Lib.hid (HH.out.below HB1.out)
 rw [hg] at HI0 HB1 ⊢
 clear how hgr hg
 go_wp2
 go_loopg [12] s.length (fun gk u12 wx => ∃ (i : Nat) (x : List Tv),u12 = .int .i64 (i : Int) ∧ i + gk = s.length ∧ CopI g g s.length s i wx x ∧ Below g w wx)
 case atStart => exact ⟨0,_,rfl,by omega,HI0.out,HB1.out⟩
 case round =>
  obtain ⟨i,x,rfl,hi,hC,hB⟩ := hrel
  have HB := Lib.hid hB
  have HI := Lib.hid hi
  have HC := Lib.hid hC
  cases gk with
  | zero =>
   have l1 : ¬ ((i : Int) < (s.length : Int)) := by omega
   have hfin : CopP s w (.returned (.slice (some ⟨g,0,none⟩) s.length s.length)) wr := by
    have hxl : x.length = s.length := hC.len
    refine ⟨g,x,rfl,Nat.le_of_eq HG.out,by have := hC.fs; rw [hxl] at this; rw [HG.out]; exact this,?_,fun t ht => ?_,by rw [HG.out]; exact hB⟩
    ·have := hC.done
     rw [List.take_of_length_le (by omega),List.take_of_length_le (by omega)] at this
     exact this
    ·obtain ⟨j,hj⟩ := List.getElem?_of_mem ht
     exact hC.tight j t (by have := (List.getElem?_eq_some_iff.1 hj).1; omega) hj
   have HFIN := Lib.hid hfin
   clear hB hi hC hfin
   go_wp2
   go_ret
   exact HFIN.out
  | succ gk =>
   have hlt : i < s.length := by omega
   have hSR := HH.out.below (show Below w.heap.size w wr by rw [HG.out]; exact hB)
   obtain ⟨b,o,cp,he,hcp,hx⟩ := hSR.inv (by omega)
   injection he with ea _ ec
   subst ea ec
   obtain ⟨t,ht0⟩ : ∃ t,s[i] = t := ⟨_,rfl⟩
   have hsi : s[i]? = some t := by rw [List.getElem?_eq_getElem hlt,ht0]
   obtain ⟨x0,u,x1,hu⟩ := hx i t hsi
   have hsz := HF.out.2 t (List.mem_of_getElem? hsi)
   have l0 : (0 : Int) ≤ (i : Int) := by omega
   have l1 : (i : Int) < (s.length : Int) := by omega
   obtain ⟨i1,hi1⟩ : ∃ i1,i + 1 = i1 := ⟨_,rfl⟩
   have wk : IntKind.i64.wrap ((i : Int) + 1) = (i1 : Int) := by rw [show (i : Int) + 1 = (i1 : Int) by omega]; exact IntWalk.i64_in _ (by have := HF1.out; omega)
   have HI1 := Lib.hid hi1
   obtain ⟨nm,rs⟩ := t
   simp only at hsz x0 x1 hu
   obtain ⟨ua,ucap,rfl⟩ := hu.form
   have HSI := Lib.hid hsi
   have HSZ := Lib.hid hsz
   have HLT := Lib.hid hlt
   have hba := (Below.refl wr.heap.size wr).alloc (Nat.le_refl _) (.cells #[.string nm,.slice ua rs.length ucap] 63)
   have hblk : Blk (wr.alloc (.cells #[.string nm,.slice ua rs.length ucap] 63)) wr.heap.size 63 #[.string nm,.slice ua rs.length ucap] := Blk.new _ _ _
   have HBA := Lib.hid hba
   have HK := Lib.hid hblk
   have HU := Lib.hid (hu.below hba)
   have hgl : g < wr.heap.size := (hC.fs.own.lt g rfl).2
   have HGL := Lib.hid hgl
   have hxl : i < x.length := by rw [hC.len]; exact hlt
   have HXL := Lib.hid hxl
   clear hB hi hC hSR hx ht0 hsi hsz hlt hi1 hu hba hblk hgl hxl
   go_wp2_with (refine wpList_make_full _ rfl _ _ 39 rfl g 65 i31 _ 2 und31 hi31 hz31 hs31 _ _ _ _ rs.length rfl rfl rfl rfl ?b1 ?b2 ?b3 ?_)
   case b1 => have := HSZ.out.2; omega
   case b2 => have := HSZ.out.2; unfold maxLen; omega
   case b3 => have := HGL.out; simp; omega
   intro w2 ho2 hg2
   rw [made2] at ho2
   have hb2 : Below (wr.alloc (.cells #[.string nm,.slice ua rs.length ucap] 63)).heap.size _ w2 := (Below.refl _ _).grown hg2 (Nat.le_refl _) (fun k hk => by cases hk)
   have hsG : (wr.alloc (.cells #[.string nm,.slice ua rs.length ucap] 63)).heap.size = wr.heap.size + 1 := by simp
   have HU2 := Lib.hid (HU.out.below hb2)
   have hk2 := HK.out.below hb2 HK.out.lt
   have y0 : w2.cell? ⟨wr.heap.size,0,none⟩ = some (.string nm) := hk2.cell 0
   have y1 : w2.cell? ⟨wr.heap.size,1,none⟩ = some (.slice ua rs.length ucap) := hk2.cell 1
   have HK2 := Lib.hid hk2
   have HB2 : Hid (Below wr.heap.size wr w2) := Lib.hid (HBA.out.trans (hb2.mono HBA.out.size))
   have HO2 := Lib.hid ho2
   have HZ2 : Hid (wr.heap.size + 1 < w2.heap.size) := Lib.hid (ho2.lt _ rfl).2
   clear ho2 hg2 hb2 hsG hk2
   go_wp2_with (refine wpList_copy2 rfl _ _ 39 39 rfl i31 und31 hi31 hs31 _ _ _ _ _ _ rfl rfl HO2.out (rcs rs) ?d1 ?d2 ?d3 (rcs_one rs) ?_)
   case d1 => rw [show Nat.min rs.length rs.length = rs.length from Nat.min_self _,rcs_len]
   case d2 => exact fun h => HU2.out.src (by rw [show Nat.min rs.length rs.length = rs.length from Nat.min_self _] at h; exact h)
   case d3 => rw [rcs_len]; omega
   intro w3 ho3 hg3
   rw [splice_all _ _ (by rw [fl_len,List.length_replicate,rcs_len])] at ho3
   have HB3 : Hid (Below wr.heap.size wr w3) := Lib.hid (HB2.out.grown hg3 HB2.out.size (fun k hk => by injection hk with hk; omega))
   have HO3 : Hid (OR g w3 (.slice (some ⟨wr.heap.size + 1,0,none⟩) rs.length rs.length) rs) := Lib.hid ho3
   have HK3 := Lib.hid (HK2.out.grown hg3 (fun e => by injection e; omega))
   have z0 : w3.cell? ⟨wr.heap.size,0,none⟩ = some (.string nm) := HK3.out.cell 0
   have HCL := Lib.hid (clone_any nm w3 (Nat.le_trans HSZ.out.1 (by decide)))
   clear y0 y1 ho3 hg3
   go_wp2_with (go_at_call 54; (refine HCL.out.mono ?_); rintro e w4 ⟨rfl,hb4⟩; have hb5 : Below wr.heap.size wr w4 := HB3.out.trans (hb4.mono HB3.out.size); have hst := CopI.step HC.out hb5 (nm,rs) HSI.out HLT.out (wr.heap.size + 1) (Nat.le_succ _) (own_below HO3.out hb4); have HST := Lib.hid hst; have HB4 := Lib.hid hb5; have hfs := HC.out.fs.below hb5; obtain ⟨c0,c1⟩ := FS.at_ hfs i _ (List.getElem?_eq_getElem HXL.out); have f0 := World.ownsRow.frozenAt hfs.own (i * 2); have f1 := World.ownsRow.frozenAt hfs.own (i * 2 + 1); clear hb4 hb5 hst hfs)
   go_roundg gk
   case measure => exact Nat.lt_succ_self _
   case rel =>
    have hBg : Below g w w4 := HB.out.trans (HB4.out.mono (Nat.le_of_lt HGL.out))
    refine ⟨i1,_,rfl,by have := HI1.out; have := HI.out; omega,by have := HST.out; rw [HI1.out] at this; exact this,?_⟩
    exact (hBg.setCell (p := ⟨g,i * 2,none⟩) (Nat.le_refl _) _).setCell (p := ⟨g,i * 2 + 1,none⟩) (Nat.le_refl _) _

def Kt (w w' : World) : Prop := ∀ (b : Nat) (cs : Array Value) (t : TypeId) (fr : Nat × Nat),(t = 65 ∨ t = 63) → w.heap[b]? = some (.cells cs t fr) → w'.heap[b]? = some (.cells cs t fr)
theorem Kt.trans {a b c : World} (h : Kt a b) (k : Kt b c) : Kt a c := fun i cs t fr ht hb => k i cs t fr ht (h i cs t fr ht hb)
theorem Kt.bel {w w' : World} (h : Below w.heap.size w w') : Kt w w' := fun i cs t fr _ hb => (h.block i (Array.getElem?_eq_some_iff.1 hb).1).trans hb
def RQ (w : World) (v : Value) (l : List Rw) : Prop :=
 (∃ a cap,l = [] ∧ v = .slice a 0 cap) ∨ ∃ g off cap cs fr,v = .slice (some ⟨g,off,none⟩) l.length cap ∧ l.length ≤ cap ∧ w.heap[g]? = some (.cells cs 65 fr) ∧ ∀ (i : Nat) (r : Rw),l[i]? = some r → cs[off + i * 2]? = some (.int .i64 r.1) ∧ cs[off + i * 2 + 1]? = some (.int .i64 r.2)
theorem RQ.rr {w : World} {v : Value} {l : List Rw} (h : RQ w v l) : RR w v l := by
 rcases h with h | ⟨g,off,cap,cs,fr,e,hc,hb,hx⟩
 ·exact .inl h
 ·exact .inr ⟨g,off,cap,e,hc,fun i r hi => ⟨(cell_of_row w g _ cs _ fr hb).trans (hx i r hi).1,(cell_of_row w g _ cs _ fr hb).trans (hx i r hi).2⟩⟩
theorem RQ.kt {w w' : World} {v : Value} {l : List Rw} (h : RQ w v l) (hk : Kt w w') : RQ w' v l := by
 rcases h with h | ⟨g,off,cap,cs,fr,e,hc,hb,hx⟩
 ·exact .inl h
 ·exact .inr ⟨g,off,cap,cs,fr,e,hc,hk _ _ _ _ (.inl rfl) hb,hx⟩
theorem RQ.krow {w w' : World} {v : Value} {l : List Rw} (h : RQ w v l) (hk : ∀ (b : Nat) (cs : Array Value) (fr : Nat × Nat),w.heap[b]? = some (.cells cs 65 fr) → w'.heap[b]? = w.heap[b]?) : RQ w' v l := by
 rcases h with h | ⟨g,off,cap,cs,fr,e,hc,hb,hx⟩
 ·exact .inl h
 ·exact .inr ⟨g,off,cap,cs,fr,e,hc,(hk g cs fr hb).trans hb,hx⟩
theorem RQ.nil (w : World) : RQ w (.slice none 0 0) [] := .inl ⟨_,_,rfl,rfl⟩
def SQ (w : World) (v : Value) (s : List Tb) : Prop :=
 (∃ a cap,s = [] ∧ v = .slice a 0 cap) ∨ ∃ g off cap cs fr,v = .slice (some ⟨g,off,none⟩) s.length cap ∧ s.length ≤ cap ∧ w.heap[g]? = some (.cells cs 63 fr) ∧ ∀ (i : Nat) (t : Tb),s[i]? = some t → cs[off + i * 2]? = some (.string t.1) ∧ ∃ u,cs[off + i * 2 + 1]? = some u ∧ RQ w u t.2
theorem SQ.sr {w : World} {v : Value} {s : List Tb} (h : SQ w v s) : SR w v s := by
 rcases h with h | ⟨g,off,cap,cs,fr,e,hc,hb,hx⟩
 ·exact .inl h
 ·refine .inr ⟨g,off,cap,e,hc,fun i t hi => ?_⟩
  obtain ⟨h1,u,h2,h3⟩ := hx i t hi
  exact ⟨(cell_of_row w g _ cs _ fr hb).trans h1,u,(cell_of_row w g _ cs _ fr hb).trans h2,h3.rr⟩
theorem SQ.kt {w w' : World} {v : Value} {s : List Tb} (h : SQ w v s) (hk : Kt w w') : SQ w' v s := by
 rcases h with h | ⟨g,off,cap,cs,fr,e,hc,hb,hx⟩
 ·exact .inl h
 ·refine .inr ⟨g,off,cap,cs,fr,e,hc,hk _ _ _ _ (.inr rfl) hb,fun i t hi => ?_⟩
  obtain ⟨h1,u,h2,h3⟩ := hx i t hi
  exact ⟨h1,u,h2,h3.kt hk⟩
theorem SQ.bel {w w' : World} {v : Value} {s : List Tb} (h : SQ w v s) (hb : Below w.heap.size w w') : SQ w' v s := h.kt (.bel hb)
theorem RQ.bel {w w' : World} {v : Value} {l : List Rw} (h : RQ w v l) (hb : Below w.heap.size w w') : RQ w' v l := h.kt (.bel hb)
theorem OR.rq {B : Nat} {w : World} {v : Value} {l : List Rw} (h : OR B w v l) : RQ w v l := by
 rcases h.2 with ⟨rfl,h0⟩ | ⟨g,cap,cur,rfl,hb,hg,hn,_,hs,ht⟩
 ·exact .inl ⟨_,_,List.eq_nil_of_length_eq_zero h0,rfl⟩
 ·refine .inr ⟨g,0,cap,cur,_,rfl,hn,hg,fun i r hi => ?_⟩
  obtain ⟨h1,h2⟩ := rcs_at l i r hi
  have hl : i < l.length := (List.getElem?_eq_some_iff.1 hi).1
  have c := fun j hj => World.ownsRow.cellAt h (g := g) (n := l.length) (cap := cap) j hj
  have k := fun j => cell_of_row w g j cur _ _ hg
  rw [Nat.zero_add]
  exact ⟨(k _).symm.trans ((c (i * 2) (by omega)).trans h1),(k _).symm.trans ((c (i * 2 + 1) (by omega)).trans h2)⟩
theorem SQ.of_own {B : Nat} {w : World} {v : Value} {x : List Tv} (h : w.ownsRow B 63 2 v x.length (tcs x)) (hr : ∀ t ∈ x,RQ w t.2.1 t.2.2) : SQ w v (tbs x) := by
 rcases h.2 with ⟨rfl,h0⟩ | ⟨g,cap,cur,rfl,hb,hg,hn,_,hs,ht⟩
 ·have : x = [] := List.eq_nil_of_length_eq_zero h0
  subst this
  exact .inl ⟨_,_,rfl,rfl⟩
 ·refine .inr ⟨g,0,cap,cur,_,by rw [tbs_len],by rw [tbs_len]; exact hn,hg,fun i t hi => ?_⟩
  obtain ⟨u,hu⟩ := tbs_inv x i t hi
  obtain ⟨h1,h2⟩ := tcs_at x i _ hu
  have hl : i < x.length := (List.getElem?_eq_some_iff.1 hu).1
  have c := fun j hj => World.ownsRow.cellAt h (g := g) (n := x.length) (cap := cap) j hj
  have k := fun j => cell_of_row w g j cur _ _ hg
  rw [Nat.zero_add]
  exact ⟨(k _).symm.trans ((c (i * 2) (by omega)).trans h1),u,(k _).symm.trans ((c (i * 2 + 1) (by omega)).trans h2),hr _ (List.mem_of_getElem? hu)⟩
theorem FS.sq {B : Nat} {w : World} {v : Value} {x : List Tv} (h : FS B w v x) : SQ w v (tbs x) := SQ.of_own h.own fun t ht => (h.rows t ht).rq
theorem FS.sqE {B : Nat} {w : World} {v : Value} {x : List Tv} {s : List Tb} (h : FS B w v x) (e : tbs x = s) : SQ w v s := by rw [← e]; exact h.sq
theorem SQ.tv {w : World} {v : Value} {s : List Tb} (h : SQ w v s) (hp : 0 < s.length) : ∃ g off cap,v = .slice (some ⟨g,off,none⟩) s.length cap ∧ s.length ≤ cap ∧ ∃ X : List Tv,tbs X = s ∧ ∀ (i : Nat) (t : Tv),X[i]? = some t → w.cell? ⟨g,off + i * 2,none⟩ = some (.string t.1) ∧ w.cell? ⟨g,off + i * 2 + 1,none⟩ = some t.2.1 ∧ RQ w t.2.1 t.2.2 := by
 rcases h with ⟨a,cap,rfl,_⟩ | ⟨g,off,cap,cs,fr,e,hc,hb,hx⟩
 ·simp at hp
 ·refine ⟨g,off,cap,e,hc,?_⟩
  have key : ∀ k,k ≤ s.length → ∃ X : List Tv,tbs X = s.take k ∧ ∀ (i : Nat) (t : Tv),X[i]? = some t → w.cell? ⟨g,off + i * 2,none⟩ = some (.string t.1) ∧ w.cell? ⟨g,off + i * 2 + 1,none⟩ = some t.2.1 ∧ RQ w t.2.1 t.2.2 := by
   intro k
   induction k with
   | zero => intro _; exact ⟨[],rfl,fun i t hi => by simp at hi⟩
   | succ k ih =>
    intro hk
    obtain ⟨X,h1,h2⟩ := ih (by omega)
    have hlen : X.length = k := by
     have := congrArg List.length h1
     rw [tbs_len,List.length_take] at this; omega
    obtain ⟨t,ht⟩ : ∃ t,s[k]? = some t := ⟨s[k]'(by omega),List.getElem?_eq_getElem _⟩
    obtain ⟨c1,u,c2,c3⟩ := hx k t ht
    refine ⟨X ++ [(t.1,u,t.2)],?_,fun i x hi => ?_⟩
    ·have e2 : s.take (k + 1) = s.take k ++ [t] := by rw [List.take_add_one,ht]; rfl
     unfold tbs at h1 ⊢
     rw [List.map_append,h1,e2]; rfl
    ·by_cases hik : i < X.length
     ·rw [List.getElem?_append_left hik] at hi; exact h2 i x hi
     ·rw [List.getElem?_append_right (by omega)] at hi
      have hz : i - X.length = 0 := by
       have := (List.getElem?_eq_some_iff.1 hi).1
       simp at this; omega
      rw [hz] at hi
      simp at hi
      subst hi
      have : i = k := by omega
      subst this
      exact ⟨(cell_of_row w g _ cs _ fr hb).trans c1,(cell_of_row w g _ cs _ fr hb).trans c2,c3⟩
  obtain ⟨X,h1,h2⟩ := key s.length (Nat.le_refl _)
  rw [List.take_length] at h1
  exact ⟨X,h1,h2⟩
theorem RQ.one {w : World} {v : Value} {l : List Rw} (h : RQ w v l) : v.oneCell' = true := by
 rcases h with ⟨a,c,_,rfl⟩ | ⟨g,o,c,cs,fr,rfl,_⟩ <;> rfl
theorem RQ.form {w : World} {v : Value} {l : List Rw} (h : RQ w v l) : ∃ a c,v = .slice a l.length c := h.rr.form
theorem SQ.form {w : World} {v : Value} {l : List Tb} (h : SQ w v l) : ∃ a c,v = .slice a l.length c := h.sr.form
abbrev tbV (n : ByteArray) (u : Value) : Value := .agg #[.string n,u]
def OwnM (w : World) (b n : Nat) (T : List Tb) : Prop :=
 ∃ U : ByteArray → Option (Value × List Rw),MV.MapV Tryz.prog 9 w b n (MV.fS fun x => (U x).map fun p => tbV x p.1) ∧ (∀ x p,U x = some p → RQ w p.1 p.2) ∧ ∀ x,(U x).map (·.2) = lkT T x
theorem OwnM.lt {w : World} {b n : Nat} {T : List Tb} (h : OwnM w b n T) : b < w.heap.size := by obtain ⟨U,h,_⟩ := h; exact h.lt
theorem OwnM.obj {w : World} {b n : Nat} {T : List Tb} (h : OwnM w b n T) : ∃ es clock,w.heap[b]? = some (.map es clock) := by obtain ⟨U,h,_⟩ := h; exact h.obj
theorem OwnM.keep {w w' : World} {b n : Nat} {T : List Tb} (h : OwnM w b n T) (hk : Kt w w') (e : w'.heap[b]? = w.heap[b]?) : OwnM w' b n T := by
 obtain ⟨U,h1,h2,h3⟩ := h
 exact ⟨U,h1.keep e,fun x p hp => (h2 x p hp).kt hk,h3⟩
theorem OwnM.mono {w : World} {b n m : Nat} {T : List Tb} (h : OwnM w b n T) (hm : n ≤ m) : OwnM w b m T := by
 obtain ⟨U,h1,h2,h3⟩ := h
 exact ⟨U,h1.mono hm,h2,h3⟩
theorem strK9 : Maps.Keyed Tryz.prog 9 := Maps.string_keyed Tryz.underlying9
theorem intK9 : Maps.Keyed Tryz.prog 3 := Maps.int_keyed Tryz.underlying3
theorem keyS9 (k : ByteArray) (h : k.size ≤ 281474976710656) : keyOf Tryz.prog 9 (.string k) = some (.string k.data.toList) :=
 WideMaps.keyOf_string_mk Tryz.underlying9 (by unfold maxLen; omega)
abbrev I9 (k : Int) : Prop := -9223372036854775808 ≤ k ∧ k ≤ 9223372036854775807
theorem keyI9 (k : Int) (h : I9 k) : keyOf Tryz.prog 3 (.int .i64 k) = some (.int .i64 k) :=
 Maps.keyOf_int_mk Tryz.underlying3 (by simp [Lit.wf,IntKind.min,IntKind.max,IntKind.signed,IntKind.bits]; omega)
end Go.Proofs.YtjmmninopagpjaaGreatDoor
namespace Go.Proofs.YtjmmninopagpjaaGreatDoor.RW
open Go.ChangeShapes Go.WideShapes Go.ChangeAt Go.RowKit
set_option maxRecDepth 100000
set_option linter.unusedVariables false
set_option linter.unusedSimpArgs false

def fz (l : List (List Value)) : List Value := l.flatten
def Uni (z : Nat) (l : List (List Value)) : Prop := ∀ r ∈ l,r.length = z
theorem Uni.cons {z : Nat} {r : List Value} {l : List (List Value)} (h : Uni z (r :: l)) : r.length = z ∧ Uni z l := ⟨h r (List.mem_cons_self ..),fun x hx => h x (List.mem_cons_of_mem _ hx)⟩
theorem Uni.rep {z k : Nat} {r : List Value} (h : r.length = z) : Uni z (List.replicate k r) := fun x hx => by rw [List.eq_of_mem_replicate hx]; exact h
theorem fz_len {z : Nat} : ∀ {l : List (List Value)},Uni z l → (fz l).length = l.length * z
 | [],_ => by simp [fz]
 | r :: l,h => by
  have ih := fz_len (l := l) h.cons.2
  have h1 := h.cons.1
  rw [show fz (r :: l) = r ++ fz l from rfl,List.length_append,ih,List.length_cons,h1,Nat.add_mul]; omega
theorem fz_drop {z : Nat} : ∀ {l : List (List Value)},Uni z l → ∀ i,fz (l.drop i) = (fz l).drop (i * z)
 | l,_,0 => by simp
 | [],_,i + 1 => by simp [fz]
 | r :: l,h,i + 1 => by
  have h1 := h.cons.1
  rw [List.drop_succ_cons,show fz (r :: l) = r ++ fz l from rfl,fz_drop h.cons.2 i,List.drop_append,List.drop_of_length_le (l := r) (by rw [h1,Nat.add_mul]; omega),List.nil_append]
  congr 1
  rw [h1,Nat.add_mul]; omega
theorem fz_at {z : Nat} {l : List (List Value)} (h : Uni z l) {i : Nat} {r : List Value} (hi : l[i]? = some r) (j : Nat) (hj : j < z) : (fz l)[i * z + j]? = r[j]? := by
 have h0 := (List.getElem?_eq_some_iff.1 hi).1
 have e1 := fz_drop h i
 rw [List.drop_eq_getElem_cons h0] at e1
 have e2 : l[i] = r := by rw [List.getElem?_eq_getElem h0] at hi; injection hi
 rw [e2] at e1
 have hr : r.length = z := h r (List.mem_of_getElem? hi)
 have e3 := congrArg (fun q => q[j]?) e1
 simp only [List.getElem?_drop] at e3
 rw [← e3,show fz (r :: l.drop (i + 1)) = r ++ fz (l.drop (i + 1)) from rfl,List.getElem?_append_left (by omega)]
theorem fz_rep (cs : List Value) (k : Nat) : ∀ j,j < k * cs.length → (fz (List.replicate k cs))[j]? = cs[j % cs.length]? := by
 intro j hj
 have hz : 0 < cs.length := by
  rcases Nat.eq_zero_or_pos cs.length with h | h
  ·rw [h,Nat.mul_zero] at hj; omega
  ·exact h
 have h1 : j / cs.length < k := Nat.div_lt_of_lt_mul (by rw [Nat.mul_comm]; exact hj)
 have := fz_at (z := cs.length) (l := List.replicate k cs) (Uni.rep rfl) (i := j / cs.length) (r := cs) (by rw [List.getElem?_replicate,if_pos h1]) (j % cs.length) (Nat.mod_lt _ hz)
 rwa [show j / cs.length * cs.length + j % cs.length = j from Nat.div_add_mod' ..] at this
theorem zero_fz (cs : Array Value) (k : Nat) : (Builtin.zeroCells cs k).toList = fz (List.replicate k cs.toList) := by
 apply List.ext_getElem?
 intro j
 by_cases hj : j < k * cs.size
 ·have hz : 0 < cs.size := by
   rcases Nat.eq_zero_or_pos cs.size with h | h
   ·rw [h,Nat.mul_zero] at hj; omega
   ·exact h
  have h2 := Nat.mod_lt j hz
  rw [fz_rep cs.toList k j (by simpa using hj)]
  simp [Builtin.zeroCells,hj,h2]
 ·have e2 : (fz (List.replicate k cs.toList))[j]? = none := by
   rw [List.getElem?_eq_none_iff,fz_len (z := cs.size) (Uni.rep (by simp)),List.length_replicate]; omega
  rw [e2]
  simp [Builtin.zeroCells]; omega
section
variable {P : Program} {w : World} {B g n cap z : Nat} {e : TypeId} {xs : List Value}
theorem own_more (h : w.ownsRow B e z (.slice (some ⟨g,0,none⟩) n cap) n xs) (k : Nat) (hn : n ≤ k) (hk : k ≤ cap) : ∃ ys,ys.length = (k - n) * z ∧ w.ownsRow B e z (.slice (some ⟨g,0,none⟩) k cap) k (xs ++ ys) := by
 rcases h.2 with ⟨h',_⟩ | ⟨g',cap',cur,h',hb,hg,hnc,hcm,hcs,htake⟩
 ·simp at h'
 ·simp only [Value.slice.injEq,Option.some.injEq,Addr.mk.injEq,and_true,true_and] at h'
  obtain ⟨rfl,rfl⟩ := h'
  have hkz : k * z ≤ cap * z := Nat.mul_le_mul_right _ hk
  have hnz : n * z ≤ k * z := Nat.mul_le_mul_right _ hn
  have hl : cur.toList.length = cap * z := by simpa using hcs
  refine ⟨(cur.toList.take (k * z)).drop (n * z),by rw [List.length_drop,List.length_take,hl,Nat.sub_mul]; omega,?_,.inr ⟨g,cap,cur,rfl,hb,hg,by omega,hcm,hcs,?_⟩⟩
  ·rw [List.length_append,List.length_drop,List.length_take,hl,h.1]; omega
  ·rw [← htake,← show (cur.toList.take (k * z)).take (n * z) = cur.toList.take (n * z) by rw [List.take_take]; congr 1; omega,List.take_append_drop]
theorem run_app_zeros (t tn ty : TypeId) (i : TypeInfo) (zc : Array Value) (bytes : Nat) (kq kn : IntKind) (ht : P.underlying t = some (.slice e)) (htn : P.underlying tn = some (.int kn)) (hi : P.info? e = some i) (hz : i.zero = some (.agg zc)) (hzs : zc.size = z) (hz0 : 0 < z) (hsz : i.size = z) (hby : i.bytes = bytes)
  (base : Option Addr) (m sCap : Nat) (olds : List Value) (hol : olds.length = m * z) (hold : 0 < m → ∃ ad,base = some ad ∧ ∀ j v,olds[j]? = some v → w.cell? (ad.add j) = some v)
  (k : Nat) (h0 : 0 < k) (hg : sCap < m + k) (hb : B ≤ w.heap.size) (h48 : (m + k) * bytes ≤ 140737488355328) (h63 : m + k ≤ maxLen) :
  ∃ c w',(Builtin.append_ #[t,tn] ty #[.slice base m sCap,.int kq k]).run P w = .ok (.slice (some ⟨w.heap.size,0,none⟩) (m + k) c) w' ∧
   w'.ownsRow B e z (.slice (some ⟨w.heap.size,0,none⟩) (m + k) c) (m + k) (olds ++ fz (List.replicate k zc.toList)) ∧ w.grownBy w' none := by
 have hf : (Builtin.firstCells i.size m (.slice base m sCap)).run P w.drew = .ok olds.toArray w.drew := by
  rw [hsz]
  by_cases hm : 0 < m
  ·obtain ⟨ad,rfl,hc⟩ := hold hm
   exact run_firstCells_some w.drew z m ad m sCap olds hol hc
  ·have : m = 0 := by omega
   subst this
   have : olds = [] := List.eq_nil_of_length_eq_zero (by simpa using hol)
   subst this
   cases base with
   | none => exact run_firstCells_none w.drew z 0 0 sCap
   | some ad => exact run_firstCells_some w.drew z 0 ad 0 sCap [] (by simp) (fun j v hj => by simp at hj)
 have hmk : k * bytes ≤ (m + k) * bytes := Nat.mul_le_mul_right _ (by omega)
 have hr := Lib.run_append_grow_zeros w t tn ty e i (.agg zc) kq kn ht htn hi hz base m sCap olds hf k h0 (by omega) hg (by unfold maxLen at h63; omega) (by rw [hby]; omega) (by rw [hby]; exact growslice_fits hg h48)
 refine ⟨_,_,hr,?_,?_⟩
 ·have e1 : (Value.agg zc).cells = zc := rfl
  rw [e1]
  have hcl : m + k ≤ grownCap w (m + k) sCap e := grownCap_ge w _ _ _
  have hs2 : ∀ q,(Builtin.zeroCells zc q).size = q * z := fun q => by rw [size_zeroCells,hzs]
  have hfl : (fz (List.replicate k zc.toList)).length = k * z := by rw [fz_len (z := z) (Uni.rep (by simpa using hzs)),List.length_replicate]
  refine ⟨by rw [List.length_append,hol,hfl,Nat.add_mul],.inr ⟨w.heap.size,_,(olds.toArray ++ Builtin.zeroCells zc k ++ Builtin.zeroCells zc (grownCap w (m + k) sCap e - (m + k))),rfl,hb,?_,hcl,grownCap_le_maxLen w _ _ _ h63,?_,?_⟩⟩
  ·exact heap_alloc_new w.drew _
  ·rw [Array.size_append,Array.size_append,hs2,hs2,List.size_toArray,hol,← Nat.add_mul,← Nat.add_mul]; congr 1; omega
  ·rw [Array.toList_append,Array.toList_append,zero_fz,List.take_append_of_le_length (by rw [List.length_append,hfl,hol,Nat.add_mul]; omega),List.take_of_length_le (by rw [List.length_append,hfl,hol,Nat.add_mul]; omega)]
 ·have G := World.grownBy_alloc w.drew (.cells (olds.toArray ++ Builtin.zeroCells (Value.agg zc).cells k ++ Builtin.zeroCells (Value.agg zc).cells (grownCap w (m + k) sCap e - (m + k))) e) none
  exact ⟨G.os,G.tape,G.output,G.size,fun j hj hn => G.block j hj hn⟩
end
end Go.Proofs.YtjmmninopagpjaaGreatDoor.RW
namespace Go.Proofs.YtjmmninopagpjaaGreatDoor.TT
open Go.ChangeShapes Go.WideShapes Go.ChangeAt Go.RowKit
set_option maxRecDepth 100000
set_option linter.unusedVariables false
set_option linter.unusedSimpArgs false

def EQ (B : Nat) (w : World) (v : Value) (l : List Tv) : Prop := w.ownsRow B 63 2 v l.length (tcs l)
def eRow (x : Tv) : List Value := [.string x.1,x.2.1]
theorem tcs_single (x : Tv) : tcs [x] = eRow x := rfl
theorem tcs_oneY {X : List Tv} (h : ∀ t ∈ X,t.2.1.oneCell' = true) : ∀ v ∈ tcs X,v.oneCell' = true := fl_all _ _ fun p hp => by
 obtain ⟨t,ht,rfl⟩ := List.mem_map.1 hp
 exact ⟨rfl,h t ht⟩
section
variable {B : Nat} {w w' : World} {v : Value} {l : List Tv}
theorem EQ.lt (h : EQ B w v l) (g : Nat) (hg : v.ownBlock = some g) : B ≤ g ∧ g < w.heap.size := World.ownsRow.lt h g hg
theorem EQ.inv (h : EQ B w v l) : (v = .slice none 0 0 ∧ l = []) ∨ ∃ g cap,v = .slice (some ⟨g,0,none⟩) l.length cap ∧ l.length ≤ cap ∧ cap ≤ maxLen ∧ B ≤ g ∧ g < w.heap.size := by
 rcases h.2 with ⟨rfl,hz⟩ | ⟨g,cap,cur,rfl,hb,hg,hc,hm,_⟩
 ·exact .inl ⟨rfl,List.eq_nil_of_length_eq_zero hz⟩
 ·exact .inr ⟨g,cap,rfl,hc,hm,hb,(h.lt g rfl).2⟩
theorem EQ.of {m : Nat} {X : List Value} {A : List Tv} (h : w.ownsRow B 63 2 v m X) (hm : A.length = m) (hx : tcs A = X) : EQ B w v A := by
 subst hm hx; exact h
end
theorem splice_shift {α : Type} (A D Y N : List α) (o z : Nat) (ho : A.length = o) (hY : Y.length = z) (hN : N.length = z) : splice (splice (A ++ D ++ Y) (o + z) D) o N = A ++ N ++ D := by
 subst ho
 unfold splice
 have e1 : (A ++ D ++ Y).take (A.length + z) = A ++ (D ++ Y).take z := by
  rw [List.append_assoc,List.take_append,List.take_of_length_le (l := A) (by omega)]
  congr 2
  omega
 have e2 : (A ++ D ++ Y).drop (A.length + z + D.length) = [] := List.drop_eq_nil_of_le (by simp; omega)
 have hz : ((D ++ Y).take z).length = z := by rw [List.length_take,List.length_append]; omega
 rw [e1,e2,List.append_nil]
 have e3 : (A ++ (D ++ Y).take z ++ D).take A.length = A := by rw [List.append_assoc,List.take_left]
 have e4 : (A ++ (D ++ Y).take z ++ D).drop (A.length + N.length) = D := by
  rw [List.drop_append,List.drop_of_length_le (by rw [List.length_append,hz]; omega),List.nil_append]
  rw [List.length_append,hz,hN,Nat.sub_self,List.drop_zero]
 rw [e3,e4,List.append_assoc]
def InsP (B : Nat) (row : Option Nat) (R : List Tv) (w : World) (e : Ending) (w' : World) : Prop :=
 ∃ a c,e = .returned (.slice a R.length c) ∧ EQ B w' (.slice a R.length c) R ∧ w.grownBy w' row ∧ ∀ q,(Value.slice a R.length c).ownBlock = some q → row = some q ∨ w.heap.size ≤ q
theorem insLen (l : List Tv) (i : Nat) (x : Tv) (h : i ≤ l.length) : (l.take i ++ x :: l.drop i).length = l.length + 1 := by
 rw [List.length_append,List.length_cons,List.length_take,List.length_drop]; omega
theorem newsE {w : World} {vb : Nat} {x : Tv} (h : SL.Bk w vb 63 #[.string x.1,x.2.1]) : ∀ j u,(eRow x)[j]? = some u → w.cell? ((⟨vb,0,none⟩ : Addr).add j) = some u := by
 intro j u hu
 rw [Addr.add_lit,Nat.zero_add]
 have := h.cell j
 rw [this]
 simpa [eRow] using hu
theorem eRow_one (x : Tv) (hx : x.2.1.oneCell' = true) : ∀ u ∈ eRow x,u.oneCell' = true := by
 intro u hu
 simp only [eRow,List.mem_cons,List.not_mem_nil,or_false] at hu
 rcases hu with rfl | rfl
 ·rfl
 ·exact hx
set_option maxHeartbeats 4000000 in
theorem eins_end (B : Nat) (v : Value) (l : List Tv) (x : Tv) (vb : Nat) (w : World) (h : EQ B w v l) (hv : SL.Bk w vb 63 #[.string x.1,x.2.1]) (h1 : ∀ t ∈ l,t.2.1.oneCell' = true) (hx1 : x.2.1.oneCell' = true) (hl : l.length ≤ 1000000) (hB : B ≤ w.heap.size) :
  Calls Tryz.prog 72 #[v,.int .i64 (l.length : Int),.slice (some ⟨vb,0,none⟩) 1 1] w (InsP B v.ownBlock (l ++ [x]) w) := by
 have H1 := Lib.hid h1
 have HX1 := Lib.hid hx1
 clear h1 hx1
 obtain ⟨i30,hi30,hz30,hs30,hb30⟩ := iTab
 have und30 := undTab
 have HO := Lib.hid h
 rcases h.inv with ⟨rfl,rfl⟩ | ⟨g,cap,rfl,hcap,hmx,hBg,hgl⟩
 ·have HN := Lib.hid (newsE hv)
  have HB := Lib.hid hB
  clear h hv hl hB
  go_enter Tryz.func72,Tryz.ntmps72
  go_wp2_with (at_builtin; refine wpList_append_lies _ rfl _ _ 22 rfl B 63 i30 (.agg #[.string ByteArray.empty,.slice none 0 0]) 2 40 und30 hi30 hz30 hs30 hb30 rfl (by decide) _ 0 [] rfl HO.out ⟨vb,0,none⟩ 1 1 (eRow x) rfl rfl ?_ ?_ (by decide) ?_ ?_ ?_ _ rfl ?_)
  any_goals first
   | exact HN.out
   | exact eRow_one x HX1.out
   | (unfold maxLen; omega)
   | omega
   | exact HB.out
  all_goals
   intro g9 cap9 w9 hown9 hgr9 hat9 hlt9
   have HO9 : Hid (EQ B w9 (.slice (some ⟨g9,0,none⟩) 1 cap9) [x]) := Lib.hid (EQ.of hown9 rfl (by rw [tcs_single]))
   have HG9 := Lib.hid hgr9
   have HA9 : Hid (∀ q,(Value.slice (some ⟨g9,0,none⟩) 1 cap9).ownBlock = some q → (Value.slice none 0 0).ownBlock = some q ∨ w.heap.size ≤ q) := Lib.hid fun q hq => by have hq2 : g9 = q := (by injection hq); rw [← hq2]; rcases hat9 with h | h; exact .inl h; exact .inr (by omega)
   clear hown9 hgr9 hat9
   go_wp2
   go_ret
   exact ⟨_,cap9,rfl,HO9.out,HG9.out,HA9.out⟩
 ·have hcm : cap ≤ 9223372036854775807 := by unfold maxLen at hmx; omega
  have HN := Lib.hid (newsE hv)
  have HL := Lib.hid hl
  have HB := Lib.hid hB
  obtain ⟨n1,hn1⟩ : ∃ n1,l.length + 1 = n1 := ⟨_,rfl⟩
  have HN1 := Lib.hid hn1
  have hll : (l ++ [x]).length = n1 := by rw [List.length_append]; simpa using hn1
  have HLL := Lib.hid hll
  have l0 : (0 : Int) ≤ (l.length : Int) := by omega
  clear h hv hl hB hn1 hll
  go_enter Tryz.func72,Tryz.ntmps72
  go_wp2_with (at_builtin; refine wpList_append_lies _ rfl _ _ 22 rfl B 63 i30 (.agg #[.string ByteArray.empty,.slice none 0 0]) 2 40 und30 hi30 hz30 hs30 hb30 rfl (by decide) _ l.length (tcs l) rfl HO.out ⟨vb,0,none⟩ 1 1 (eRow x) rfl rfl ?_ ?_ (by decide) ?_ ?_ ?_ _ rfl ?_)
  any_goals first
   | exact HN.out
   | exact eRow_one x HX1.out
   | (have := HL.out; unfold maxLen; omega)
   | (have := HL.out; omega)
   | exact HB.out
  all_goals
   intro g9 cap9 w9 hown9 hgr9 hat9 hlt9
   have HO9 : Hid (EQ B w9 (.slice (some ⟨g9,0,none⟩) n1 cap9) (l ++ [x])) := Lib.hid (EQ.of (by rw [HN1.out] at hown9; exact hown9) HLL.out (by rw [tcs_append,tcs_single]))
   have HG9 := Lib.hid hgr9
   have hw1 := HN1.out
   have HA9 : Hid (∀ q,(Value.slice (some ⟨g9,0,none⟩) n1 cap9).ownBlock = some q → (Value.slice (some ⟨g,0,none⟩) l.length cap).ownBlock = some q ∨ w.heap.size ≤ q) := Lib.hid fun q hq => by have hq2 : g9 = q := (by injection hq); rw [← hq2]; rcases hat9 with h | h; exact .inl h; exact .inr (by omega)
   clear hown9 hgr9 hat9
   try rw [hw1]
   go_wp2
   go_ret
   exact ⟨some ⟨g9,0,none⟩,cap9,by rw [HLL.out]; rfl,by rw [HLL.out]; exact HO9.out,HG9.out,by rw [HLL.out]; exact HA9.out⟩
set_option maxHeartbeats 4000000 in
theorem eins_shift (B g cap : Nat) (l : List Tv) (i : Nat) (x : Tv) (vb : Nat) (w : World) (h : EQ B w (.slice (some ⟨g,0,none⟩) l.length cap) l) (hv : SL.Bk w vb 63 #[.string x.1,x.2.1]) (hvg : vb ≠ g) (hi : i < l.length) (hc : l.length + 1 ≤ cap) (h1 : ∀ t ∈ l,t.2.1.oneCell' = true) (hx1 : x.2.1.oneCell' = true) (hl : l.length ≤ 1000000) :
  Calls Tryz.prog 72 #[.slice (some ⟨g,0,none⟩) l.length cap,.int .i64 (i : Int),.slice (some ⟨vb,0,none⟩) 1 1] w (InsP B (some g) (l.take i ++ x :: l.drop i) w) := by
 have H1 := Lib.hid h1
 have HX1 := Lib.hid hx1
 clear h1 hx1
 obtain ⟨i30,hi30,hz30,hs30,hb30⟩ := iTab
 have und30 := undTab
 have hcm : cap ≤ 9223372036854775807 := by
  rcases h.2 with ⟨h',_⟩ | ⟨_,c',cur,h',_,_,_,hm,_⟩
  ·cases h'
  ·injection h' with _ _ h'; subst h'; unfold maxLen at hm; omega
 obtain ⟨ys,hys,hown⟩ := RW.own_more h (l.length + 1) (by omega) hc
 obtain ⟨n1,hn1⟩ : ∃ n1,l.length + 1 = n1 := ⟨_,rfl⟩
 rw [hn1] at hown hys
 obtain ⟨i1,hi1⟩ : ∃ i1,i + 1 = i1 := ⟨_,rfl⟩
 have hgr := hown
 obtain ⟨cur,hcur,hcs⟩ : ∃ cur,w.heap[g]? = some (.cells cur 63 (0,0)) ∧ cur.size = cap * 2 := by
  rcases h.2 with ⟨h',_⟩ | ⟨g',c',cur,h',_,hg',_,_,hcs,_⟩
  ·cases h'
  ·injection h' with e1 _ e2; injection e1 with e1; injection e1 with e1; subst e1 e2; exact ⟨cur,hg',hcs⟩
 have hsz : (Tryz.prog.info? 63).map (·.size) = some 2 := by rw [hi30]; simp [hs30]
 have hov : ∀ lb cb,(callFunc 95 #[.slice (some ⟨vb,0,none⟩) 1 1,.slice (some ⟨g,i1 * 2,none⟩) lb cb]).run Tryz.prog w = .ok (.value (.bool false)) w := fun lb cb => by
  rw [run_callFunc_extern Tryz.func95 (by kernel_rfl) (by kernel_rfl) (by kernel_rfl) (e := Extern.SlicesOverlaps.overlaps #[22,22] #[4]) (by kernel_rfl),
   Lib.run_overlaps_apart w 22 4 63 und30 2 (fun W => by simp [sizeOf,typeInfo,hi30,hs30]) ⟨vb,0,none⟩ ⟨g,i1 * 2,none⟩ 1 1 lb cb hvg 63 63 2 (cap * 2) (by
    have := hv
    unfold SL.Bk at this
    unfold World.shape?
    rw [this]; rfl) (by
    unfold World.shape?
    rw [hcur,← hcs]) (by omega) (hv.frozen _) (hv.frozen _)]
  rfl
 have HO := Lib.hid h
 have HOW := Lib.hid hown
 have HV := Lib.hid (newsE hv)
 have HVL := Lib.hid hv.lt
 have HI := Lib.hid hi
 have HI1 := Lib.hid hi1
 have HN1 := Lib.hid hn1
 have HYS := Lib.hid hys
 have HVG := Lib.hid hvg
 have HL := Lib.hid hl
 have l0 : (0 : Int) ≤ (i : Int) := by omega
 have l1 : (i : Int) ≤ (l.length : Int) := by omega
 have l2 : ¬ ((i : Int) = (l.length : Int)) := by omega
 have wk : IntKind.i64.wrap ((l.length : Int) + 1) = (n1 : Int) := by rw [show (l.length : Int) + 1 = (n1 : Int) by omega]; exact IntWalk.i64_in _ (by omega)
 have wk3 : IntKind.i64.wrap ((i : Int) + 1) = (i1 : Int) := by rw [show (i : Int) + 1 = (i1 : Int) by omega]; exact IntWalk.i64_in _ (by omega)
 have l3 : ¬ ((cap : Int) < (n1 : Int)) := by omega
 have l4 : (n1 : Int) ≤ (cap : Int) := by omega
 have l5 : (0 : Int) ≤ (n1 : Int) := by omega
 have l6 : (0 : Int) ≤ (i1 : Int) := by omega
 have l7 : (i1 : Int) ≤ (n1 : Int) := by omega
 have l8 : (i : Int) ≤ (n1 : Int) := by omega
 have l9 : ¬ (cap = i) := by omega
 have l10 : ¬ (cap = i1) := by omega
 have HC1 : Hid (n1 ≤ cap) := Lib.hid (by omega)
 obtain ⟨R,hR⟩ : ∃ R,l.take i ++ x :: l.drop i = R := ⟨_,rfl⟩
 have hrl : R.length = n1 := by rw [← hR,insLen l i x (by omega)]; exact hn1
 have HR := Lib.hid hR
 have HRL := Lib.hid hrl
 rw [hR]
 unfold InsP
 rw [hrl]
 clear h hv hi hi1 hn1 hys hown hgr hcur hcs hsz hvg hl hc hR hrl hcm
 go_enter Tryz.func72,Tryz.ntmps72
 go_wp2_with fail
 have hdl : (tcs (l.drop i)).length = (l.length - i) * 2 := by rw [tcs_len,List.length_drop]
 have hm2 : Nat.min (n1 - i) (n1 - i1) = l.length - i := by have := HI.out; have := HN1.out; have := HI1.out; rw [show Nat.min (n1 - i) (n1 - i1) = n1 - i1 from Nat.min_eq_right (by omega)]; omega
 have hsrc : ∀ j v,(tcs (l.drop i))[j]? = some v → w.cell? ((⟨g,i * 2,none⟩ : Addr).add j) = some v := by
  intro j v hj
  rw [tcs_drop,List.getElem?_drop] at hj
  have h1 := World.ownsRow.cells HO.out (g := g) rfl (i * 2 + j) v hj
  rw [Addr.add_lit,Nat.zero_add] at h1
  rw [Addr.add_lit]; exact h1
 have HSRC := Lib.hid hsrc
 have HDL := Lib.hid hdl
 have HM2 := Lib.hid hm2
 have hfit : i1 * 2 + (tcs (l.drop i)).length ≤ n1 * 2 := by rw [hdl]; have := HI.out; have := HN1.out; have := HI1.out; omega
 have HFIT := Lib.hid hfit
 clear hsrc hdl hm2 hfit hov
 go_region_law (refine step_copy2 rfl _ _ 22 22 rfl i30 und30 hi30 hs30 (i1 * 2) (n1 - i1) (cap - i1) (some ⟨g,i * 2,none⟩) (n1 - i) (cap - i) (by simp [Act.eval,Act.put]) (by simp [Act.eval,Act.put]) HOW.out.drew (tcs (l.drop i)) (by rw [HM2.out]; exact HDL.out) (fun _ => ⟨_,rfl,HSRC.out⟩) HFIT.out (tcs_oneY fun t ht => H1.out t (List.mem_of_mem_drop ht)) ?_; intro w4 ho4 hg4)
 have HO4 := Lib.hid ho4
 have HG4 := Lib.hid hg4
 have hv4 : ∀ j u,(eRow x)[j]? = some u → w4.cell? ((⟨vb,0,none⟩ : Addr).add j) = some u := fun j u hu => (hg4.cell (a := (⟨vb,0,none⟩ : Addr).add j) (HV.out j u hu) (by rw [Addr.add_lit]; intro e; injection e with e; exact HVG.out e))
 have HV4 := Lib.hid hv4
 have hm1 : Nat.min 1 (n1 - i) = 1 := Nat.min_eq_left (by have := HI.out; have := HN1.out; omega)
 have HM1 := Lib.hid hm1
 have hfit2 : i * 2 + (eRow x).length ≤ n1 * 2 := by show i * 2 + 2 ≤ n1 * 2; have := HI.out; have := HN1.out; omega
 have HFIT2 := Lib.hid hfit2
 clear ho4 hg4 hv4 hm1 hfit2
 go_wp2_with (refine wpList_copy2 rfl _ _ 22 22 rfl i30 und30 hi30 hs30 _ _ _ _ _ _ rfl rfl HO4.out (eRow x) (by rw [HM1.out]; rfl) (fun _ => ⟨_,rfl,HV4.out⟩) HFIT2.out (eRow_one x HX1.out) ?_; intro w5 ho5 hg5)
 have HG5 := Lib.hid hg5
 have ho6 : EQ B w5 (.slice (some ⟨g,0,none⟩) n1 cap) R := by
  refine EQ.of ho5 HRL.out ?_
  have e1 : tcs l = tcs (l.take i) ++ tcs (l.drop i) := by rw [← tcs_append,List.take_append_drop]
  have e2 : i1 * 2 = i * 2 + 2 := by have := HI1.out; omega
  rw [e1,e2,splice_shift (tcs (l.take i)) (tcs (l.drop i)) ys (eRow x) (i * 2) 2 (by rw [tcs_len,List.length_take]; have := HI.out; omega) (by rw [HYS.out]; have := HN1.out; omega) rfl,← HR.out,tcs_append,show x :: l.drop i = [x] ++ l.drop i from rfl,tcs_append,tcs_single,List.append_assoc]
 have HO6 := Lib.hid ho6
 clear ho5 hg5 ho6
 go_wp2
 go_ret
 exact ⟨some ⟨g,0,none⟩,cap,rfl,HO6.out,⟨HG5.out.os.trans HG4.out.os,HG5.out.tape.trans HG4.out.tape,HG5.out.output.trans HG4.out.output,Nat.le_trans HG4.out.size HG5.out.size,fun k hk hn => (HG5.out.block k (Nat.lt_of_lt_of_le hk HG4.out.size) hn).trans (HG4.out.block k hk hn)⟩,fun q hq => .inl hq⟩
theorem splice_end {α : Type} (A Z X : List α) (k : Nat) (hk : A.length = k) (h : X.length ≤ Z.length) : splice (A ++ Z) k X = A ++ X ++ Z.drop X.length := by
 subst hk
 unfold splice
 rw [List.take_left,List.drop_append,List.drop_of_length_le (by omega : A.length ≤ A.length + X.length),List.nil_append,← List.append_assoc]
 congr 2
 omega
theorem splice_ins {α : Type} (A Z X Y : List α) (k m : Nat) (hk : A.length = k) (hm : k + X.length = m) (hz : Z.length = X.length + Y.length) : splice (splice (A ++ Z) k X) m Y = A ++ (X ++ Y) := by
 rw [splice_end A Z X k hk (by omega)]
 have h2 : (A ++ X).length = m := by rw [List.length_append]; omega
 have h3 : (Z.drop X.length).length = Y.length := by rw [List.length_drop]; omega
 rw [splice_end (A ++ X) (Z.drop X.length) Y m h2 (by omega),List.drop_of_length_le (by omega),List.append_nil,List.append_assoc]
set_option maxHeartbeats 4000000 in
theorem eins_grow (B g : Nat) (l : List Tv) (i : Nat) (x : Tv) (vb : Nat) (w : World) (h : EQ B w (.slice (some ⟨g,0,none⟩) l.length l.length) l) (hv : SL.Bk w vb 63 #[.string x.1,x.2.1]) (hi : i < l.length) (h1 : ∀ t ∈ l,t.2.1.oneCell' = true) (hx1 : x.2.1.oneCell' = true) (hl : l.length ≤ 1000000) (hB : B ≤ w.heap.size) :
  Calls Tryz.prog 72 #[.slice (some ⟨g,0,none⟩) l.length l.length,.int .i64 (i : Int),.slice (some ⟨vb,0,none⟩) 1 1] w (InsP B (some g) (l.take i ++ x :: l.drop i) w) := by
 have H1 := Lib.hid h1
 have HX1 := Lib.hid hx1
 clear h1 hx1
 obtain ⟨i30,hi30,hz30,hs30,hb30⟩ := iTab
 have und30 := undTab
 have HO := Lib.hid h
 have HB := Lib.hid hB
 have HL := Lib.hid hl
 have HGL := Lib.hid (h.lt g rfl).2
 have HVL := Lib.hid hv.lt
 have HV := Lib.hid (newsE hv)
 obtain ⟨R,hR⟩ : ∃ R,l.take i ++ x :: l.drop i = R := ⟨_,rfl⟩
 obtain ⟨n1,hn1⟩ : ∃ n1,l.length + 1 = n1 := ⟨_,rfl⟩
 have hrl : R.length = n1 := by rw [← hR,insLen l i x (by omega)]; exact hn1
 have HR := Lib.hid hR
 have HRL := Lib.hid hrl
 have HN1 := Lib.hid hn1
 have HIL := Lib.hid hi
 rw [hR]
 unfold InsP
 rw [hrl]
 have l0 : (0 : Int) ≤ (i : Int) := by omega
 have l1 : (i : Int) ≤ (l.length : Int) := by omega
 have wk : IntKind.i64.wrap ((l.length : Int) + 1) = (n1 : Int) := by rw [show (l.length : Int) + 1 = (n1 : Int) by omega]; exact IntWalk.i64_in _ (by omega)
 obtain ⟨k,hk⟩ : ∃ k,n1 - i = k := ⟨_,rfl⟩
 have HK := Lib.hid hk
 have wk2 : IntKind.i64.wrap ((n1 : Int) - (i : Int)) = (k : Int) := by rw [show (n1 : Int) - (i : Int) = (k : Int) by omega]; exact IntWalk.i64_in _ (by omega)
 have l2 : ¬ ((i : Int) = (l.length : Int)) := by omega
 have l3 : (l.length : Int) < (n1 : Int) := by omega
 have l4 : ¬ (l.length = i) := by omega
 obtain ⟨i1,hi1⟩ : ∃ i1,i + 1 = i1 := ⟨_,rfl⟩
 have HI1 := Lib.hid hi1
 have wk3 : IntKind.i64.wrap ((i : Int) + 1) = (i1 : Int) := by rw [show (i : Int) + 1 = (i1 : Int) by omega]; exact IntWalk.i64_in _ (by omega)
 have hbig : (i + k) * 40 ≤ 140737488355328 := by omega
 obtain ⟨c,w1,hrun,hown,hgr⟩ := RW.run_app_zeros (P := Tryz.prog) (w := w) (B := B) (z := 2) (e := 63) 22 3 22 i30 #[.string ByteArray.empty,.slice none 0 0] 40 .i64 .i64 und30 Tryz.underlying3 hi30 hz30 rfl (by omega) hs30 hb30
  (some ⟨g,0,none⟩) i l.length (tcs (l.take i)) (by rw [tcs_len,List.length_take]; omega) (fun _ => ⟨_,rfl,fun j v hj => by
   rw [tcs_take,List.getElem?_take] at hj
   split at hj
   ·have := World.ownsRow.cells HO.out (g := g) rfl j v hj
    exact this
   ·cases hj⟩) k (by omega) (by omega) HB.out hbig (by unfold maxLen; omega)
 have hik : i + k = n1 := by omega
 rw [hik] at hrun hown
 have hcap : n1 ≤ c := by
  rcases hown.2 with ⟨h',_⟩ | ⟨g',cap',cur,h',_,_,hnc,_⟩
  ·cases h'
  ·injection h' with _ _ h'; omega
 have l5 : (n1 : Int) ≤ (c : Int) := by omega
 have l6 : ¬ (c = i) := by omega
 have l7 : ¬ (c = i1) := by omega
 have l8 : (i : Int) ≤ (n1 : Int) := by omega
 have l9 : (i1 : Int) ≤ (n1 : Int) := by omega
 have l10 : (0 : Int) ≤ (i1 : Int) := by omega
 have HIK := Lib.hid hik
 have HC := Lib.hid hcap
 have HOW := Lib.hid hown
 have HGR := Lib.hid hgr
 have HX : Hid (∀ j u,(eRow x)[j]? = some u → w1.cell? ((⟨vb,0,none⟩ : Addr).add j) = some u) := Lib.hid fun j u hu => hgr.cell (a := (⟨vb,0,none⟩ : Addr).add j) (HV.out j u hu) (by simp)
 clear h hv hi hl hB hR hn1 hrl hk hi1 hown hgr hik hcap hbig
 obtain ⟨H,hH⟩ : ∃ H,w.heap.size = H := ⟨_,rfl⟩
 have HH := Lib.hid hH
 rw [hH] at hrun HOW
 clear hH
 go_enter Tryz.func72,Tryz.ntmps72
 go_wp2_with (first
  | (at_builtin; refine Lib.wpList_append_run _ rfl _ _ _ _ rfl _ _ rfl rfl _ _ hrun ?_)
  | (refine wpList_copy2 rfl _ _ 22 22 rfl i30 und30 hi30 hs30 _ _ _ _ _ _ rfl rfl HOW.out (eRow x) ?d1 ?d2 ?d3 (eRow_one x HX1.out) ?_))
 case d1 =>
  have := HIL.out; have := HN1.out
  rw [show Nat.min 1 (n1 - i) = 1 from Nat.min_eq_left (by omega)]; rfl
 case d2 => first
  | exact fun _ => ⟨_,rfl,HX.out⟩
  | (intro j v hj; have h9 := HX.out j v hj; rw [Addr.add_lit,Nat.zero_add] at h9; exact h9)
  | (intro _ j v hj; have h9 := HX.out j v hj; rw [Addr.add_lit,Nat.zero_add] at h9; exact h9)
 case d3 =>
  have := HIL.out; have := HN1.out
  show i * 2 + 2 ≤ n1 * 2
  omega
 intro w3 ho3 hg3
 have hm1 : Nat.min 1 (n1 - i) = 1 := Nat.min_eq_left (by have := HIL.out; have := HN1.out; omega)
 have hm2 : Nat.min (l.length - i) (n1 - i1) = l.length - i := Nat.min_eq_left (by have := HIL.out; have := HN1.out; have := HI1.out; omega)
 have hdl : (tcs (l.drop i)).length = (l.length - i) * 2 := by rw [tcs_len,List.length_drop]
 have hsrc : ∀ j v,(tcs (l.drop i))[j]? = some v → w3.cell? ((⟨g,i * 2,none⟩ : Addr).add j) = some v := by
  intro j v hj
  rw [tcs_drop,List.getElem?_drop] at hj
  have h1 := World.ownsRow.cells HO.out (g := g) rfl (i * 2 + j) v hj
  rw [Addr.add_lit,Nat.zero_add] at h1
  rw [Addr.add_lit]
  have hne : g ≠ H := by have := HGL.out; have := HH.out; omega
  exact hg3.cell (a := ⟨g,i * 2 + j,none⟩) (HGR.out.cell (a := ⟨g,i * 2 + j,none⟩) h1 (by simp)) (fun e => hne (by injection e))
 have hfit : i1 * 2 + (tcs (l.drop i)).length ≤ n1 * 2 := by rw [hdl]; have := HIL.out; have := HN1.out; have := HI1.out; omega
 have HFIT := Lib.hid hfit
 have HSRC := Lib.hid hsrc
 have HO3 := Lib.hid ho3
 have HG3 := Lib.hid hg3
 have HM2 := Lib.hid hm2
 have HDL := Lib.hid hdl
 clear hsrc ho3 hg3 hm2 hdl hfit
 rw [hm1]
 clear hm1
 go_wp2_with fail
 go_region_law (refine step_copy2 rfl _ _ 22 22 rfl i30 und30 hi30 hs30 (i1 * 2) (n1 - i1) (c - i1) (some ⟨g,i * 2,none⟩) (l.length - i) (l.length - i) (by simp [Act.eval,Act.put]) (by simp [Act.eval,Act.put]) HO3.out.drew (tcs (l.drop i)) (by rw [HM2.out]; exact HDL.out) (fun _ => ⟨_,rfl,HSRC.out⟩) HFIT.out (tcs_oneY fun t ht => H1.out t (List.mem_of_mem_drop ht)) ?_; intro w4 ho4 hg4)
 have HO4 := Lib.hid ho4
 have HG4 := Lib.hid hg4
 clear ho4 hg4
 go_wp2
 go_ret
 have hO : EQ B w4 (.slice (some ⟨H,0,none⟩) n1 c) R := by
  refine EQ.of HO4.out HRL.out ?_
  rw [splice_ins _ _ _ _ _ _ (by rw [tcs_len,List.length_take,Nat.min_eq_left (Nat.le_of_lt HIL.out)]) (by have := HI1.out; show i * 2 + 2 = i1 * 2; omega) (by rw [RW.fz_len (z := 2) (RW.Uni.rep rfl),List.length_replicate,HDL.out]; have := HIK.out; have := HN1.out; have := HIL.out; show k * 2 = 2 + _; omega),← HR.out,tcs_append,show x :: l.drop i = [x] ++ l.drop i from rfl,tcs_append,tcs_single]
 have hG : w.grownBy w4 (some g) := by
  have g1 := HGR.out
  have hsz := HH.out
  refine ⟨HG4.out.os.trans (HG3.out.os.trans g1.os),HG4.out.tape.trans (HG3.out.tape.trans g1.tape),HG4.out.output.trans (HG3.out.output.trans g1.output),Nat.le_trans g1.size (Nat.le_trans HG3.out.size HG4.out.size),fun q hq _ => ?_⟩
  have hqH : some q ≠ some H := fun e => by injection e with e; omega
  have h1 := g1.size
  exact (HG4.out.block q (Nat.lt_of_lt_of_le hq (Nat.le_trans h1 HG3.out.size)) hqH).trans ((HG3.out.block q (Nat.lt_of_lt_of_le hq h1) hqH).trans (g1.block q hq (by simp)))
 exact ⟨some ⟨H,0,none⟩,c,rfl,hO,hG,fun q hq => .inr (by have hq2 : H = q := (by injection hq); have := HH.out; omega)⟩
theorem einsert_any (B : Nat) (v : Value) (l : List Tv) (i : Nat) (x : Tv) (vb : Nat) (w : World) (h : EQ B w v l) (hv : SL.Bk w vb 63 #[.string x.1,x.2.1]) (hvg : ∀ q,v.ownBlock = some q → vb ≠ q) (hi : i ≤ l.length) (h1 : ∀ t ∈ l,t.2.1.oneCell' = true) (hx1 : x.2.1.oneCell' = true) (hl : l.length ≤ 1000000) (hB : B ≤ w.heap.size) :
  Calls Tryz.prog 72 #[v,.int .i64 (i : Int),.slice (some ⟨vb,0,none⟩) 1 1] w (InsP B v.ownBlock (l.take i ++ x :: l.drop i) w) := by
 by_cases he : i = l.length
 ·subst he
  rw [List.take_of_length_le (Nat.le_refl _),List.drop_of_length_le (Nat.le_refl _)]
  exact eins_end B v l x vb w h hv h1 hx1 hl hB
 ·rcases h.inv with ⟨rfl,rfl⟩ | ⟨g,cap,rfl,hcap,hmx,hBg,hgl⟩
  ·simp at hi he; omega
  ·by_cases hc : l.length + 1 ≤ cap
   ·exact eins_shift B g cap l i x vb w h hv (hvg g rfl) (by omega) hc h1 hx1 hl
   ·have : cap = l.length := by omega
    subst this
    exact eins_grow B g l i x vb w h hv (by omega) h1 hx1 hl hB
end Go.Proofs.YtjmmninopagpjaaGreatDoor.TT
