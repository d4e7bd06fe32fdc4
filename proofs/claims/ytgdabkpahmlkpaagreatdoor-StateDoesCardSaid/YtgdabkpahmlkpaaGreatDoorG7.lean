/- Dcp Dm Dh Dn Lxe Lxf Lxg Lxh Lxj Lxk Lxm Lxn Lxo Lxq Lxs Lxu -/
import Derived.Test.YtgdabkpahmlkpaaGreatDoorG2
import Derived.Test.YtgdabkpahmlkpaaGreatDoorG6
import Derived.Deep.RegionHeld3
import Derived.WalkMore
import Derived.BigQuiet
import Derived.IntWalk
import Derived.Laws.IdiomStrings
import Derived.Deep.QuietTactic
import Derived.OwnWalk
import Derived.Deep.DeepMust
import Derived.Deep.DeepAppendWide
set_option linter.unusedSimpArgs false
set_option linter.unusedVariables false
namespace Go.Proofs.YtgdabkpahmlkpaaGreatDoor
open Go.ChangeShapes Go.WideShapes Go.ChangeAt Go.RowKit
set_option maxRecDepth 100000
set_option linter.unusedVariables false
set_option linter.unusedSimpArgs false

def RcP (s : List Tb) (w : World) (e : Ending) (w' : World) : Prop := ∃ v x,e = .returned v ∧ FS w.heap.size w' v x ∧ tbs x = s ∧ Below w.heap.size w w'
theorem one_two {W : World} {g : Nat} {a b : Value} {t : TypeId} (h : Blk W g t #[a,b]) : ∀ j u,[a,b][j]? = some u → W.cell? ((⟨g,0,none⟩ : Addr).add j) = some u := by
 intro j u hj
 rw [Addr.add_lit,Nat.zero_add]
 rw [h.cell j]
 simpa using hj
theorem own_far {w : World} {B g : Nat} {v u : Value} {l : List Rw} {cs : Array Value} {i : Nat} (h : OR B w v l) (hk : Blk w g 37 cs) : OR B (w.setCell ⟨g,i,none⟩ u) v l :=
 own_keep h fun k hk2 => Below.heap_setCell _ _ _ _ (fun e => by
  obtain ⟨c,hc⟩ := own_type h hk2
  exact hk.ne_ hc ty_ne e.symm)
theorem src_of {w : World} {ad : Addr} {c : Nat} {l : List Rw} (h : RR w (.slice (some ad) l.length c) l) (hp : 0 < l.length) : ∀ j v,(rcs l)[j]? = some v → w.cell? (ad.add j) = some v := by
 obtain ⟨ad2,e2,h2⟩ := h.src hp
 injection e2 with e2
 subst e2
 exact h2
set_option maxHeartbeats 4000000 in
theorem rcopy_any (v : Value) (s : List Tb) (w : World) (h : SR w v s) (hf : FewS s) :
  Calls Tryz.prog 16 #[v] w (RcP s w) := by
 obtain ⟨a,cap,rfl⟩ := h.form
 obtain ⟨i30,hi30,hz30,hs30,hb30⟩ := iTab
 obtain ⟨i31,hi31,hz31,hs31,hb31⟩ := iRow
 have und30 := undTab
 have und31 := undRow
 have HH := Lib.hid h
 have HF := Lib.hid hf
 have HF1 : Hid (s.length ≤ 1000000) := Lib.hid hf.1
 clear h hf
 go_enter Tryz.func16,Tryz.ntmps16
 go_wp2
 go_loopg [3,4] s.length (fun gk u3 u4 wx => ∃ (i : Nat) (x : List Tv),u4 = .int .i64 (i : Int) ∧ i + gk = s.length ∧ FS w.heap.size wx u3 x ∧ tbs x = s.take i ∧ Below w.heap.size w wx)
 case atStart => exact ⟨0,[],rfl,by omega,⟨World.ownsRow_nil _ _ _ _,fun t ht => by simp at ht,fun i j a b _ ha _ => by simp at ha⟩,rfl,Below.refl _ _⟩
 case round =>
  obtain ⟨i,x,rfl,hi,hFS,hT,hB⟩ := hrel
  have HB := Lib.hid hB
  have HI := Lib.hid hi
  have HFS := Lib.hid hFS
  cases gk with
  | zero =>
   have l1 : ¬ ((i : Int) < (s.length : Int)) := by omega
   have hfin : RcP s w (.returned u3) wr := ⟨u3,x,rfl,hFS,by rw [hT,List.take_of_length_le (by omega)],hB⟩
   have HFIN := Lib.hid hfin
   clear hB hi hFS hT hfin
   go_wp2
   go_ret
   exact HFIN.out
  | succ gk =>
   have hlt : i < s.length := by omega
   have hSR := HH.out.below hB
   obtain ⟨b,o,cp,he,hcp,hx⟩ := hSR.inv (by omega)
   injection he with ea _ ec
   subst ea ec
   obtain ⟨t,ht0⟩ : ∃ t,s[i] = t := ⟨_,rfl⟩
   have hsi : s[i]? = some t := by rw [List.getElem?_eq_getElem hlt,ht0]
   obtain ⟨x0,u,x1,hu⟩ := hx i t hsi
   have hsz := HF.out.2 t (List.mem_of_getElem? hsi)
   have l0 : (0 : Int) ≤ (i : Int) := by omega
   have l1 : (i : Int) < (s.length : Int) := by omega
   obtain ⟨i1,hi1⟩ : ∃ i1,i + 1 = i1 := ⟨_,rfl⟩
   have wk : IntKind.i64.wrap ((i : Int) + 1) = (i1 : Int) := by rw [show (i : Int) + 1 = (i1 : Int) by omega]; exact IntWalk.i64_in _ (by have := HF1.out; omega)
   have HI1 := Lib.hid hi1
   obtain ⟨nm,rs⟩ := t
   simp only at hsz x0 x1 hu
   obtain ⟨ua,ucap,rfl⟩ := hu.form
   have HSZ := Lib.hid hsz
   have HLT := Lib.hid hlt
   have hxl : x.length = i := by rw [← tbs_len,hT,List.length_take]; omega
   have HXL := Lib.hid hxl
   have HTN := Lib.hid (fun q : Value => show tbs (x ++ [(nm,q,rs)]) = s.take i1 by
    unfold tbs at hT ⊢
    rw [List.map_append,hT,← hi1,List.take_add_one,hsi]; rfl)
   have hbA : Below wr.heap.size wr (wr.alloc (.cells #[.string nm,.slice none 0 0] 37)) := (Below.refl wr.heap.size wr).alloc (Nat.le_refl _) _
   have hkA : Blk (wr.alloc (.cells #[.string nm,.slice none 0 0] 37)) wr.heap.size 37 #[.string nm,.slice none 0 0] := Blk.new _ _ _
   have HXB := Lib.hid (World.block_lt_of_cell? wr _ x1)
   have HX1 := Lib.hid x1
   have HU := Lib.hid hu
   clear hB hi hSR hx ht0 hsi hsz hlt hi1 hu hxl hT hFS
   go_wp2_with fail
   obtain ⟨W1,hW1⟩ : ∃ W1,wr.alloc (.cells #[.string nm,.slice none 0 0] 37) = W1 := ⟨_,rfl⟩
   rw [hW1] at hbA hkA ⊢
   have HB1 := Lib.hid hbA
   have HK1 := Lib.hid hkA
   clear hbA hkA hW1
   refine wp_region_held_drew (S := (fun w' => Below wr.heap.size wr w')) (by kernel_rfl) ?_ (fun hS => ?_)
   ·exact HB1.out.drew
   try dsimp only at hS
   refine tkY 0 ?_ rfl hS ?_ ?_;rotate_left
   ·intro wz hSz;have x1z := bcl hSz HXB.out HX1.out;go_simp;all_goals with_reducible rfl
   (try simp only [Act.put,pu]);refine tkY 2 ?_ rfl hS ?_ ?_;rotate_left
   ·intro wz hSz;have x1z := bcl hSz HXB.out HX1.out;go_simp;all_goals with_reducible rfl
   (try simp only [Act.put,pu]);refine tkY 3 ?_ rfl hS ?_ ?_;rotate_left
   ·intro wz hSz;have x1z := bcl hSz HXB.out HX1.out;go_simp;all_goals with_reducible rfl
   (try simp only [Act.put,pu]);refine tkY 4 ?_ rfl hS ?_ ?_;rotate_left
   ·intro wz hSz;have x1z := bcl hSz HXB.out HX1.out;go_simp;all_goals with_reducible rfl
   (try simp only [Act.put,pu]);refine tkY 5 ?_ rfl hS ?_ ?_;rotate_left
   ·intro wz hSz;have x1z := bcl hSz HXB.out HX1.out;go_simp;all_goals with_reducible rfl
   (try simp only [Act.put,pu]);refine tkY 6 ?_ rfl hS ?_ ?_;rotate_left
   ·intro wz hSz;have x1z := bcl hSz HXB.out HX1.out;go_simp;all_goals with_reducible rfl
   try simp only [Act.put,pu]
   have d1 : W1.drew.cell? ⟨wr.heap.size,1,none⟩ = some (.slice none 0 0) := HK1.out.cell 1
   refine wpAnyH_ready (rs := [1]) (by kernel_rfl) (by simp) (AllReadyH.cons rfl (fun K hK => ?_) AllReadyH.nil)
   go_simp
   refine hK.out _ _ ?_ (fun hSn => ?_)
   ·exact hS
   clear hK K hS
   have hS := hSn
   clear hSn
   try dsimp only at hS
   try simp only [Act.put,pu]
   cases rs with
   | nil =>
    have hsr2 := hS
    refine wpAnyH_ready (rs := [7]) (by kernel_rfl) (by simp) (AllReadyH.cons rfl (fun K hK => ?_) AllReadyH.nil)
    refine step_append_nil0 rfl _ _ 30 rfl 39 i31 und31 hi31 ua ucap rfl rfl ?_
    refine hK.out _ _ ?_ (fun hSn => ?_)
    ·exact hS
    clear hK K hS
    have hS := hSn
    clear hSn
    try dsimp only at hS
    (try simp only [Act.put,pu]);refine tkY 8 ?_ rfl hS ?_ ?_;rotate_left
    ·intro wz hSz;have x1z := bcl hSz HXB.out HX1.out;go_simp;all_goals with_reducible rfl
    try simp only [Act.put,pu]
    have f1 : W1.drew.frozen? ⟨wr.heap.size,1,none⟩ = false := HK1.out.frozen 1
    refine wpAnyH_ready (rs := [9]) (by kernel_rfl) (by simp) (AllReadyH.cons rfl (fun K hK => ?_) AllReadyH.nil)
    go_simp
    refine hK.out _ _ ?_ (fun hSn => ?_)
    ·exact hS.setCell (p := ⟨wr.heap.size,1,none⟩) (Nat.le_refl _) _
    clear hK K hS
    have hS := hSn
    clear hSn
    try dsimp only at hS
    try simp only [Act.put,pu]
    refine wpAnyH_done (by kernel_rfl) ?_ _
    obtain ⟨W2,hW2⟩ : ∃ W2,(W1.setCell ⟨wr.heap.size,1,none⟩ (.slice none 0 0)).drew = W2 := ⟨_,rfl⟩
    rw [hW2] at hS ⊢
    have hk2 : Blk W2 wr.heap.size 37 #[.string nm,Value.slice none 0 0] := by rw [← hW2]; exact HK1.out.set_ 1 _
    have ho2 : OR wr.heap.size W2 (Value.slice none 0 0) ([] : List Rw) := by rw [← hW2]; exact World.ownsRow_nil _ _ _ _
    have z0 : W2.cell? ⟨wr.heap.size,0,none⟩ = some (.string nm) := hk2.cell 0
    have z1 : W2.cell? ⟨wr.heap.size,1,none⟩ = some (Value.slice none 0 0) := hk2.cell 1
    have HO2 := Lib.hid ho2
    have HS2 := Lib.hid hS
    have hfs2 := HFS.out.below hS
    have hfs3 : FS w.heap.size (W2.alloc (.cells #[.string nm,Value.slice none 0 0] 37)) u3 x := hfs2.below ((Below.refl _ _).alloc (Nat.le_refl _) _)
    have HFS3 := Lib.hid hfs3
    have HAP := Lib.hid (show ∀ t ∈ x,t.2.1.ownBlock = none ∨ t.2.1.ownBlock ≠ (Value.slice none 0 0).ownBlock from fun t ht => by
     cases ht2 : t.2.1.ownBlock with
     | none => exact .inl rfl
     | some k => exact .inr (fun e => by
       have h1 := ((HFS.out.rows t ht).lt k ht2).2
       have h2 := (HO2.out.lt k e.symm).1
       omega))
    clear hW2 hk2 ho2 hS hfs2 hfs3
    go_wp2_with (at_builtin; refine wpList_append_lies _ rfl _ _ 22 rfl w.heap.size 37 i30 (.agg #[.string ByteArray.empty,.slice none 0 0]) 2 40 und30 hi30 hz30 hs30 hb30 rfl (by decide) u3 x.length (tcs x) rfl HFS3.out.own ⟨W2.heap.size,0,none⟩ 1 1 [.string nm,Value.slice none 0 0] rfl rfl ?n1 ?n2 (by decide) ?n3 ?n4 ?n5 _ rfl ?_)
    all_goals first
     | exact one_two (heap_alloc_new _ _)
     | (intro q hq; simp at hq; rcases hq with rfl | rfl <;> rfl)
     | (have := HXL.out; have := HF1.out; have := HLT.out; unfold maxLen; omega)
     | (have := HXL.out; have := HF1.out; have := HLT.out; omega)
     | (have := HS2.out.size; have := HB.out.size; simp; omega)
     | skip
    intro g9 cap9 w9 hown9 hgr9 hat9 hlt9
    have hfs9 := FS.snoc HFS3.out nm (Value.slice none 0 0) ([] : List Rw) (own_mono (own_below HO2.out ((Below.refl _ _).alloc (Nat.le_refl _) _)) HB.out.size) HAP.out hgr9 hown9
    have hb9 : Below w.heap.size w w9 := ((HB.out.trans (HS2.out.mono HB.out.size)).alloc (by have := HS2.out.size; have := HB.out.size; omega) _).grown hgr9 (by have := HS2.out.size; have := HB.out.size; simp; omega) (fun k hk => (HFS3.out.own.lt k hk).1)
    have HF9 := Lib.hid hfs9
    have HB9 := Lib.hid hb9
    clear hown9 hgr9 hat9 hlt9 hfs9 hb9 z0 z1
    go_wp2
    go_roundg gk
    case measure => exact Nat.lt_succ_self _
    case rel => exact ⟨i1,_,rfl,by have := HI1.out; have := HI.out; omega,HF9.out,HTN.out _,HB9.out⟩
   | cons r0 rs0 =>
    obtain ⟨rs,hrs⟩ : ∃ rs,r0 :: rs0 = rs := ⟨_,rfl⟩
    have HP : Hid (0 < rs.length) := Lib.hid (by rw [← hrs]; exact Nat.succ_pos _)
    rw [hrs] at HSZ HTN HU HX1 ⊢
    try rw [hrs] at x1
    obtain ⟨ad,rfl,_⟩ := HU.out.src HP.out
    have HAD := Lib.hid (fun (W : World) (hW : Below wr.heap.size wr W) => src_of (HU.out.below hW) HP.out)
    refine wpAnyH_ready (rs := [7]) (by kernel_rfl) (by simp) (AllReadyH.cons rfl (fun K hK => ?_) AllReadyH.nil)
    refine step_append_lies _ rfl _ _ 30 rfl wr.heap.size 39 i31 (.agg #[.int .i64 0,.int .i64 0]) 2 16 und31 hi31 hz31 hs31 hb31 rfl (by decide) (.slice none 0 0) 0 [] rfl (World.ownsRow_nil _ _ _ _) ad rs.length ucap (rcs rs) rfl (rcs_len rs) ?e1 (rcs_one rs) HP.out ?e2 ?e3 ?e4 _ rfl ?_
    case e1 => exact HAD.out _ hS
    case e2 => have := HSZ.out.2; unfold maxLen; omega
    case e3 => have := HSZ.out.2; omega
    case e4 => have := hS.size; omega
    intro g6 cap6 w6 hown6 hgr6 hat6 hlt6
    have hb6 : Below wr.heap.size wr w6 := hS.grown hgr6 hS.size (fun k hk => by cases hk)
    have HK6 := Lib.hid (HK1.out.drewN 1 |>.grown hgr6 (fun e => by cases e))
    have ho6 : OR wr.heap.size w6 (.slice (some ⟨g6,0,none⟩) (0 + rs.length) cap6) rs := by unfold OR; rw [Nat.zero_add]; rw [Nat.zero_add] at hown6; exact hown6
    rw [Nat.zero_add] at ho6
    try rw [Nat.zero_add]
    have HO6 := Lib.hid ho6
    clear hown6 hgr6 hat6 hlt6 ho6
    refine hK.out _ _ ?_ (fun hSn => ?_)
    ·exact hb6
    clear hK K hS
    have hS := hSn
    clear hSn
    try dsimp only at hS
    (try simp only [Act.put,pu]);refine tkY 8 ?_ rfl hS ?_ ?_;rotate_left
    ·intro wz hSz;have x1z := bcl hSz HXB.out HX1.out;go_simp;all_goals with_reducible rfl
    try simp only [Act.put,pu]
    have c6 : w6.cell? ⟨wr.heap.size,1,none⟩ = some (.slice none 0 0) := HK6.out.cell 1
    have f6 : w6.frozen? ⟨wr.heap.size,1,none⟩ = false := HK6.out.frozen 1
    refine wpAnyH_ready (rs := [9]) (by kernel_rfl) (by simp) (AllReadyH.cons rfl (fun K hK => ?_) AllReadyH.nil)
    go_simp
    refine hK.out _ _ ?_ (fun hSn => ?_)
    ·exact hS.setCell (p := ⟨wr.heap.size,1,none⟩) (Nat.le_refl _) _
    clear hK K hS
    have hS := hSn
    clear hSn
    try dsimp only at hS
    try simp only [Act.put,pu]
    refine wpAnyH_done (by kernel_rfl) ?_ _
    obtain ⟨W2,hW2⟩ : ∃ W2,w6.setCell ⟨wr.heap.size,1,none⟩ (.slice (some ⟨g6,0,none⟩) rs.length cap6) = W2 := ⟨_,rfl⟩
    rw [hW2] at hS ⊢
    have hk2 : Blk W2 wr.heap.size 37 #[.string nm,Value.slice (some ⟨g6,0,none⟩) rs.length cap6] := by rw [← hW2]; exact HK6.out.set_ 1 _
    have ho2 : OR wr.heap.size W2 (Value.slice (some ⟨g6,0,none⟩) rs.length cap6) rs := by rw [← hW2]; exact own_far HO6.out HK6.out
    have z0 : W2.cell? ⟨wr.heap.size,0,none⟩ = some (.string nm) := hk2.cell 0
    have z1 : W2.cell? ⟨wr.heap.size,1,none⟩ = some (Value.slice (some ⟨g6,0,none⟩) rs.length cap6) := hk2.cell 1
    have HO2 := Lib.hid ho2
    have HS2 := Lib.hid hS
    have hfs2 := HFS.out.below hS
    have hfs3 : FS w.heap.size (W2.alloc (.cells #[.string nm,Value.slice (some ⟨g6,0,none⟩) rs.length cap6] 37)) u3 x := hfs2.below ((Below.refl _ _).alloc (Nat.le_refl _) _)
    have HFS3 := Lib.hid hfs3
    have HAP := Lib.hid (show ∀ t ∈ x,t.2.1.ownBlock = none ∨ t.2.1.ownBlock ≠ (Value.slice (some ⟨g6,0,none⟩) rs.length cap6).ownBlock from fun t ht => by
     cases ht2 : t.2.1.ownBlock with
     | none => exact .inl rfl
     | some k => exact .inr (fun e => by
       have h1 := ((HFS.out.rows t ht).lt k ht2).2
       have h2 := (HO2.out.lt k e.symm).1
       omega))
    clear hW2 hk2 ho2 hS hfs2 hfs3
    go_wp2_with (at_builtin; refine wpList_append_lies _ rfl _ _ 22 rfl w.heap.size 37 i30 (.agg #[.string ByteArray.empty,.slice none 0 0]) 2 40 und30 hi30 hz30 hs30 hb30 rfl (by decide) u3 x.length (tcs x) rfl HFS3.out.own ⟨W2.heap.size,0,none⟩ 1 1 [.string nm,Value.slice (some ⟨g6,0,none⟩) rs.length cap6] rfl rfl ?c1 ?c2 (by decide) ?c3 ?c4 ?c5 _ rfl ?_)
    all_goals first
     | exact one_two (heap_alloc_new _ _)
     | (intro q hq; simp at hq; rcases hq with rfl | rfl <;> rfl)
     | (have := HXL.out; have := HF1.out; have := HLT.out; unfold maxLen; omega)
     | (have := HXL.out; have := HF1.out; have := HLT.out; omega)
     | (have := HS2.out.size; have := HB.out.size; simp; omega)
     | skip
    intro g9 cap9 w9 hown9 hgr9 hat9 hlt9
    have hfs9 := FS.snoc HFS3.out nm (Value.slice (some ⟨g6,0,none⟩) rs.length cap6) rs (own_mono (own_below HO2.out ((Below.refl _ _).alloc (Nat.le_refl _) _)) HB.out.size) HAP.out hgr9 hown9
    have hb9 : Below w.heap.size w w9 := ((HB.out.trans (HS2.out.mono HB.out.size)).alloc (by have := HS2.out.size; have := HB.out.size; omega) _).grown hgr9 (by have := HS2.out.size; have := HB.out.size; simp; omega) (fun k hk => (HFS3.out.own.lt k hk).1)
    have HF9 := Lib.hid hfs9
    have HB9 := Lib.hid hb9
    clear hown9 hgr9 hat9 hlt9 hfs9 hb9 z0 z1
    go_wp2
    go_roundg gk
    case measure => exact Nat.lt_succ_self _
    case rel => exact ⟨i1,_,rfl,by have := HI1.out; have := HI.out; omega,HF9.out,HTN.out _,HB9.out⟩

def insT (x : List Tv) (i : Nat) (n : ByteArray) : List Tv := x.take i ++ (n,.slice none 0 0,[]) :: x.drop i
theorem tbs_ins (x : List Tv) (i : Nat) (n : ByteArray) : tbs (insT x i n) = (tbs x).take i ++ (n,[]) :: (tbs x).drop i := by
 unfold tbs insT
 rw [List.map_append,List.map_cons,List.map_take,List.map_drop]
theorem insT_len (x : List Tv) (i : Nat) (n : ByteArray) (h : i ≤ x.length) : (insT x i n).length = x.length + 1 := insLen x i _ h
theorem FS.ins {w w1 : World} {B g : Nat} {V V' : Value} {x : List Tv} (h : FS B w V x) (hV : V.ownBlock = some g) (i : Nat) (hi : i ≤ x.length) (n : ByteArray) (hg : w.grownBy w1 (some g))
  (ho : w1.ownsRow B 37 2 V' (insT x i n).length (tcs (insT x i n))) : FS B w1 V' (insT x i n) := by
 have old : ∀ b ∈ x,OR B w1 b.2.1 b.2.2 := fun b hb => own_keep (h.rows b hb) fun k hk => hg.block k ((h.rows b hb).lt k hk).2 (fun e => own_ne h.own (h.rows b hb) hV hk ty_ne (by injection e with e; exact e.symm))
 refine ⟨ho,fun b hb => ?_,fun a b p q hab ha hb => ?_⟩
 ·unfold insT at hb
  rcases List.mem_append.1 hb with hb | hb
  ·exact old b (List.mem_of_mem_take hb)
  ·rcases List.mem_cons.1 hb with rfl | hb
   ·exact World.ownsRow_nil _ _ _ _
   ·exact old b (List.mem_of_mem_drop hb)
 ·unfold insT at ha hb
  rw [ins_at x i _ hi] at ha hb
  have hnew : ∀ p : Tv,aprt p (n,.slice none 0 0,[]) := fun p => by
   unfold aprt
   cases hp : p.2.1.ownBlock with
   | none => exact .inl rfl
   | some k => exact .inr (fun e => by cases e)
  have hnew2 : ∀ p : Tv,aprt (n,.slice none 0 0,[]) p := fun p => .inl rfl
  split at ha
  ·split at hb
   ·exact h.apart a b p q hab ha hb
   ·split at hb
    ·injection hb with hb; subst hb; exact hnew p
    ·exact h.apart a (b - 1) p q (by omega) ha hb
  ·split at ha
   ·injection ha with ha; subst ha; exact hnew2 q
   ·split at hb
    ·exact h.apart (a - 1) b p q (by omega) ha hb
    ·split at hb
     ·injection hb with hb; subst hb; exact hnew p
     ·exact h.apart (a - 1) (b - 1) p q (by omega) ha hb
theorem tcs_one {B : Nat} {w : World} {V : Value} {x : List Tv} (h : FS B w V x) : ∀ v ∈ tcs x,v.oneCell' = true := fl_all _ _ fun p hp => by
 obtain ⟨t,ht,rfl⟩ := List.mem_map.1 hp
 obtain ⟨a,c,e⟩ := own_sh2 (h.rows t ht)
 exact ⟨rfl,by show t.2.1.oneCell' = true; rw [e]; rfl⟩
theorem tabins_any (B g : Nat) (x : List Tv) (i : Nat) (n : ByteArray) (vb : Nat) (w : World) (h : FS B w (.slice (some ⟨g,0,none⟩) x.length x.length) x) (hv0 : w.cell? ⟨vb,0,none⟩ = some (.string n)) (hv1 : w.cell? ⟨vb,1,none⟩ = some (.slice none 0 0)) (hi : i ≤ x.length) (hl : x.length ≤ 1000000) (hB : B ≤ w.heap.size) :
  Calls Tryz.prog 91 #[.slice (some ⟨g,0,none⟩) x.length x.length,.int .i64 (i : Int),.slice (some ⟨vb,0,none⟩) 1 1] w fun e w' =>
   ∃ h' c,e = .returned (.slice (some ⟨h',0,none⟩) (insT x i n).length c) ∧ FS B w' (.slice (some ⟨h',0,none⟩) (insT x i n).length c) (insT x i n) ∧ Below B w w' := by
 obtain ⟨tp,htp⟩ : ∃ tp : Tv → Value × Value,tp = fun t => (.string t.1,t.2.1) := ⟨_,rfl⟩
 have e0 : tcs x = fl (x.map tp) := by unfold tcs; rw [htp]
 have e1 : (x.map tp).length = x.length := List.length_map ..
 have e2 : (x.map tp).take i ++ (.string n,.slice none 0 0) :: (x.map tp).drop i = (insT x i n).map tp := by
  unfold insT
  rw [List.map_append,List.map_cons,List.map_take,List.map_drop,htp]
 have ho2 : w.ownsRow B 37 2 (.slice (some ⟨g,0,none⟩) (x.map tp).length (x.map tp).length) (x.map tp).length (fl (x.map tp)) := by rw [e1,← e0]; exact h.own
 have := tinsert_any B g (x.map tp) i (.string n) (.slice none 0 0) vb w ho2 (by rw [← e0]; exact tcs_one h) rfl rfl hv0 hv1 (by rw [e1]; exact hi) (by rw [e1]; exact hl) hB
 rw [e1,e2] at this
 refine this.mono ?_
 rintro e w' ⟨h',c,h1,h2,h3,h4⟩
 rw [List.length_map] at h1 h2
 have e3 : fl ((insT x i n).map tp) = tcs (insT x i n) := by unfold tcs; rw [htp]
 rw [e3] at h2
 exact ⟨h',c,h1,FS.ins h rfl i hi n h3 h2,grown_below h3 hB (fun k hk => by injection hk with hk; rw [← hk]; exact (h.own.lt g rfl).1)⟩
def WithP (B g : Nat) (x : List Tv) (n : ByteArray) (w : World) (e : Ending) (w' : World) : Prop :=
 ∃ V y k,e = .returned (.tuple #[V,.int .i64 k]) ∧ FS B w' V y ∧ Below B w w' ∧ (tbs y,k) = (if 16 ≤ x.length then (tbs x,(11 : Int)) else (madeS (tbs x) n,0))
set_option maxHeartbeats 4000000 in
theorem stWith_any (B g : Nat) (x : List Tv) (n : ByteArray) (w : World) (h : FS B w (.slice (some ⟨g,0,none⟩) x.length x.length) x) (hu : upN (tbs x)) (hl : x.length ≤ 1000000) (hn : n.size ≤ 1000000) (hB : B ≤ w.heap.size) :
  Calls Tryz.prog 49 #[.slice (some ⟨g,0,none⟩) x.length x.length,.string n] w (WithP B g x n w) := by
 have HF := Lib.hid h
 have HB := Lib.hid hB
 have HL := Lib.hid hl
 by_cases h16 : 16 ≤ x.length
 ·have l16 : (16 : Int) ≤ (x.length : Int) := by omega
  have hP : ∀ w',w' = w → WithP B g x n w (.returned (.tuple #[.slice (some ⟨g,0,none⟩) x.length x.length,.int .i64 11])) w' := by
   rintro w' rfl
   exact ⟨_,x,11,rfl,h,Below.refl _ _,by rw [if_pos h16]⟩
  have HP := Lib.hid hP
  clear h hu hl hn hB h16 hP
  go_enter Tryz.func49,Tryz.ntmps49
  go_wp2
  go_ret2
  exact HP.out _ rfl
 ·have l16 : ¬ ((16 : Int) ≤ (x.length : Int)) := by omega
  obtain ⟨L,hL⟩ : ∃ L,lowT (tbs x) n = L := ⟨_,rfl⟩
  have hlow : L ≤ x.length := by rw [← hL,← tbs_len]; exact low_le (ltN n) _
  have hsr := h.sr
  have HS := tsearch_any _ (tbs x) n w hsr (upN_mono hu n) (by rw [tbs_len]; exact hl)
  rw [hL] at HS
  have HSE := Lib.hid HS
  have HCL := Lib.hid (fun W => clone_any n W (Nat.le_trans hn (by decide)))
  have HLOW := Lib.hid hlow
  have hfin : ∀ V y (w' : World),FS B w' V y → y = insT x L n → Below B w w' → WithP B g x n w (.returned (.tuple #[V,.int .i64 0])) w' := by
   rintro V y w' h1 rfl h2
   refine ⟨V,_,0,rfl,h1,h2,?_⟩
   rw [if_neg h16,tbs_ins]
   unfold madeS
   rw [hL]
  have HFIN := Lib.hid hfin
  clear h hu hl hn hB h16 hL hlow hsr HS hfin
  go_enter Tryz.func49,Tryz.ntmps49
  go_wp2_with (first
   | (go_at_call 88; (refine HSE.out.mono ?_); rintro e w2 ⟨rfl,hb2⟩; have HB2 := Lib.hid hb2; clear hb2)
   | (go_at_call 85; (refine (HCL.out _).mono ?_); rintro e w3 ⟨rfl,hb3⟩; have hb4 := HB2.out.trans (hb3.mono HB2.out.size); have hba := hb4.alloc hb4.size (.cells #[.string n,.slice none 0 0] 37); have HBA := Lib.hid hba; have HIN := Lib.hid (tabins_any B g x L n w3.heap.size (w3.alloc (.cells #[.string n,.slice none 0 0] 37)) (HF.out.below hba) ((Blk.new w3 _ _).cell 0) ((Blk.new w3 _ _).cell 1) HLOW.out HL.out (Nat.le_trans HB.out hba.size)); clear hb3 hb4 hba)
   | (go_at_call 91; (refine HIN.out.mono ?_); rintro e w4 ⟨h',c',rfl,ho4,hb4⟩; have HO4 := Lib.hid ho4; have HB4 := Lib.hid hb4; clear ho4 hb4))
  go_ret2
  exact HFIN.out _ _ _ HO4.out rfl ((HBA.out.mono HB.out).trans HB4.out)

theorem CK.grown {w w' : World} {x : Nat} {kb : Bool} {K : Int} {row : Option Nat} (h : CK w x kb K) (hg : w.grownBy w' row) (hx : some x ≠ row) : CK w' x kb K :=
 ⟨hg.cell (a := ⟨x,4,none⟩) h.1 hx,hg.cell (a := ⟨x,2,none⟩) h.2 hx⟩
set_option maxHeartbeats 4000000 in
theorem delete_any (B g cap : Nat) (l : List Rw) (x : Nat) (kb : Bool) (K : Int) (w : World) (h : OR B w (.slice (some ⟨g,0,none⟩) l.length cap) l) (hc : CK w x kb K) (hxg : x ≠ g) (hcap : l.length ≤ cap) (hs : l.length ≤ 1000000) :
  Calls Tryz.prog 54 #[.slice (some ⟨g,0,none⟩) l.length cap,.func (.func 50) #[] #[.pointer (some ⟨x,0,none⟩)]] w (DelP B g cap kb K l w) := by
 obtain ⟨i30,hi30,hz30,hs30,hb30⟩ := iRow
 have und30 := undRow
 have HH := Lib.hid h
 have HC := Lib.hid hc
 have HS := Lib.hid hs
 have HXG := Lib.hid hxg
 have HI := Lib.hid (ridx_any _ l x kb K w h.rr hc hs)
 have hgl := (h.lt g rfl).2
 have HGL := Lib.hid hgl
 have henter : ∀ args w,(callFunc 50 args).run Tryz.prog w = .ok (.enter 50 args) w := fun args w => by show Sem.run Tryz.prog (callFunc 50 args) w = _; go_simp
 rcases idx_some kb K l 0 with ⟨h1,h2⟩ | ⟨i0,r,h1,h2,h3,h4⟩
 ·rw [h1] at HI
  unfold DelP
  rw [del_none h2]
  clear h hc hs hxg h1 h2 hgl
  go_enter Tryz.func54,Tryz.ntmps54
  go_wp2_with (go_at_call 94; (refine HI.out.mono ?_); rintro e w2 ⟨rfl,hb2⟩; have HB2 := Lib.hid hb2; clear hb2)
  go_ret
  exact ⟨rfl,own_below HH.out HB2.out,grown_bel HB2.out⟩
 ·rw [h1,Nat.zero_add] at HI
  have hil := (List.getElem?_eq_some_iff.1 h2).1
  have HD := Lib.hid (DelI.start h2 h3 h4)
  have l0 : ¬ ((i0 : Int) = -1) := by omega
  obtain ⟨j0,hj0⟩ : ∃ j0,i0 + 1 = j0 := ⟨_,rfl⟩
  have wk0 : IntKind.i64.wrap ((i0 : Int) + 1) = (j0 : Int) := by rw [show (i0 : Int) + 1 = (j0 : Int) by omega]; exact IntWalk.i64_in _ (by omega)
  rw [hj0] at HD
  have HJ0 := Lib.hid hj0
  have hjl : j0 ≤ l.length := by omega
  have HJL := Lib.hid hjl
  unfold DelP
  obtain ⟨D,hD⟩ : ∃ D,delR kb K l = D := ⟨_,rfl⟩
  have HDD := Lib.hid hD
  rw [hD]
  clear hD h hc hs hxg h1 h2 h3 h4 hgl hj0 hil hjl
  go_enter Tryz.func54,Tryz.ntmps54
  go_wp2_with (go_at_call 94; (refine HI.out.mono ?_); rintro e w2 ⟨rfl,hb2⟩; have HB2 := Lib.hid hb2; clear hb2)
  go_loopg [5,6] (l.length - j0) (fun gk u5 u6 wx => ∃ (i j : Nat) (m : List Rw),u5 = .int .i64 (i : Int) ∧ u6 = .int .i64 (j : Int) ∧ j + gk = l.length ∧ Hid (DelI kb K l m i j) ∧ Hid (OR B wx (.slice (some ⟨g,0,none⟩) m.length cap) m) ∧ Hid (w.grownBy wx (some g)))
  case atStart => exact ⟨i0,j0,l,rfl,rfl,by have := HJL.out; omega,HD.out,own_below HH.out HB2.out,grown_bel HB2.out⟩
  case round =>
   obtain ⟨i,j,m,rfl,rfl,hj,HD,HO,HG⟩ := hrel
   have HJ := Lib.hid hj
   have hij := HD.out.lt
   cases gk with
   | zero =>
    have l1 : ¬ ((j : Int) < (l.length : Int)) := by omega
    have hml : m.length = l.length := HD.out.len
    have hi2 : i < l.length := by have := HD.out.lt; omega
    have hjj : j = l.length := by omega
    have hdn := HD.out.done
    rw [hjj,List.take_of_length_le (Nat.le_refl _),HDD.out] at hdn
    have hlen : D.length = i := by rw [← hdn,List.length_take,hml]; omega
    have HDN := Lib.hid hdn
    have HLEN := Lib.hid hlen
    have hO := HO.out
    rw [hml] at hO
    have HO2 : Hid (wr.ownsRow B 39 2 (.slice (some ⟨g,0,none⟩) l.length cap) l.length (rcs m)) := by
     have h5 := HO.out
     unfold OR at h5
     rw [hml] at h5
     exact h5
    have HML := Lib.hid hml
    have l2 : (i : Int) ≤ (l.length : Int) := by omega
    have l3 : (0 : Int) ≤ (i : Int) := by omega
    have l4 : (i : Int) ≤ (cap : Int) := by omega
    have l5 : ¬ (cap = i) := by omega
    have l6 : ¬ (i = cap) := by omega
    have l7 : i ≤ cap := by omega
    have l8 : i ≤ l.length := by omega
    have HI2 := Lib.hid hi2
    clear hj hij hml hjj hdn hlen hO hi2
    go_wp2_with (refine wpList_clear2 rfl (.tmp 38) 30 rfl i30 (.int .i64 0) (.int .i64 0) und30 hi30 hz30 rfl rfl i _ rfl HO2.out HI2.out ?_; intro w3 ho3 hg3)
    go_ret
    have hcut := own_cut ho3 i l8
    rw [splice_take _ _ _ _ (Nat.le_refl _) (by rw [rcs_len,HML.out]; omega),← rcs_take,HDN.out] at hcut
    refine ⟨by rw [HLEN.out]; rfl,?_,grown_trans HG.out hg3⟩
    unfold OR
    rw [HLEN.out]
    exact hcut
   | succ gk =>
    have hjl : j < l.length := by omega
    have hmj := HD.out.at_ hjl
    obtain ⟨x0,x1,_,_⟩ := HO.out.cells j _ hmj
    have him : i < m.length := by rw [HD.out.len]; omega
    obtain ⟨y,hy⟩ : ∃ y,m[i]? = some y := ⟨_,List.getElem?_eq_getElem him⟩
    obtain ⟨y0,y1,f0,f1⟩ := HO.out.cells i _ hy
    have HY := Lib.hid hy
    obtain ⟨r,hr⟩ : ∃ r,l[j] = r := ⟨_,rfl⟩
    have hskip := HD.out.skip hjl
    have hkeep := HD.out.keep hjl
    rw [hr] at x0 x1 hskip hkeep
    obtain ⟨r0,r1⟩ := r
    have l1 : (j : Int) < (l.length : Int) := by omega
    have l2 : (0 : Int) ≤ (j : Int) := by omega
    have l3 : (0 : Int) ≤ (i : Int) := by omega
    have l4 : (i : Int) < (l.length : Int) := by omega
    obtain ⟨j1,hj1⟩ : ∃ j1,j + 1 = j1 := ⟨_,rfl⟩
    obtain ⟨i1,hi1⟩ : ∃ i1,i + 1 = i1 := ⟨_,rfl⟩
    have wk : IntKind.i64.wrap ((j : Int) + 1) = (j1 : Int) := by rw [show (j : Int) + 1 = (j1 : Int) by omega]; exact IntWalk.i64_in _ (by have := HS.out; omega)
    have wk2 : IntKind.i64.wrap ((i : Int) + 1) = (i1 : Int) := by rw [show (i : Int) + 1 = (i1 : Int) by omega]; exact IntWalk.i64_in _ (by have := HS.out; omega)
    rw [hj1] at hskip hkeep
    rw [hi1] at hkeep
    have HJ1 := Lib.hid hj1
    have HSK := Lib.hid hskip
    have HKP := Lib.hid hkeep
    have hba := (Below.refl wr.heap.size wr).alloc (Nat.le_refl _) (.cells #[.int .i64 r0,.int .i64 r1] 39)
    have HBA := Lib.hid hba
    have HM := Lib.hid (meant_any r0 r1 x kb K _ ((HC.out.grown HG.out (fun e => HXG.out (by injection e))).below hba (Nat.lt_of_lt_of_le HC.out.lt HG.out.size)))
    obtain ⟨Q,hQ⟩ : ∃ Q,meantB kb K (r0,r1) = Q := ⟨_,rfl⟩
    rw [hQ] at HM HSK HKP
    have hblk : Blk (wr.alloc (.cells #[.int .i64 r0,.int .i64 r1] 39)) wr.heap.size 39 #[.int .i64 r0,.int .i64 r1] := Blk.new _ _ _
    have HK := Lib.hid hblk
    clear hy hj hij hjl hmj him hr hskip hkeep hj1 hi1 hba hQ hblk
    cases Q with
    | true =>
     go_wp2_with (go_at_call 50; (refine HM.out.mono ?_); rintro e w2 ⟨rfl,hb2⟩; have HB3 := Lib.hid (HBA.out.trans (hb2.mono HBA.out.size)); clear hb2)
     go_roundg gk
     case measure => exact Nat.lt_succ_self _
     case rel => exact ⟨i,j1,m,rfl,rfl,by have := HJ1.out; have := HJ.out; omega,HSK.out trivial,own_below HO.out HB3.out,grown_trans HG.out (grown_bel HB3.out)⟩
    | false =>
     go_wp2_with (go_at_call 50; (refine HM.out.mono ?_); rintro e w2 ⟨rfl,hb2⟩; have HB3 := Lib.hid (HBA.out.trans (hb2.mono HBA.out.size)); have hk2 := HK.out.below hb2 HK.out.lt; have z0 : w2.cell? ⟨wr.heap.size,0,none⟩ = some (.int .i64 r0) := hk2.cell 0; have z1 : w2.cell? ⟨wr.heap.size,1,none⟩ = some (.int .i64 r1) := hk2.cell 1; have ho2 := own_below HO.out HB3.out; have HO2 := Lib.hid ho2; obtain ⟨v0,v1,f2,f3⟩ := OR.cells ho2 i _ HY.out; clear hb2 hk2 ho2)
     go_roundg gk
     case measure => exact Nat.lt_succ_self _
     case rel =>
      have hset := OR.set HO2.out i _ (r0,r1) HY.out
      have hms : (m.set i (r0,r1)).length = m.length := List.length_set ..
      exact ⟨i1,j1,m.set i (r0,r1),rfl,rfl,by have := HJ1.out; have := HJ.out; omega,HKP.out trivial,by rw [hms]; exact hset.1,grown_trans (grown_trans HG.out (grown_bel HB3.out)) hset.2⟩

structure DoOk (s : List Tb) : Prop where
 few : FewS s
 up : upN s
 each : ∀ t ∈ s,upR t.2 ∧ ∀ r ∈ t.2,inI r.2
def DoP (s : List Tb) (kd : Int) (n : ByteArray) (K V : Int) (kb : Bool) (w : World) (e : Ending) (w' : World) : Prop :=
 ∃ vs x vr k,e = .returned (.tuple #[vs,vr,.int .i64 k]) ∧ FS w.heap.size w' vs x ∧ OR w.heap.size w' vr (doS s kd n K V kb).2.1 ∧ Below w.heap.size w w' ∧ tbs x = (doS s kd n K V kb).1 ∧ k = (doS s kd n K V kb).2.2
abbrev cmC (kd : Int) (n : ByteArray) (K V : Int) (kb : Bool) : Array Value := #[.int .i64 kd,.string n,.int .i64 K,.int .i64 V,.bool kb]
structure DoI (s : List Tb) (kd : Int) (n : ByteArray) (K V : Int) (kb : Bool) (w w2 : World) (g : Nat) (x : List Tv) : Prop where
 fs : FS w.heap.size w2 (.slice (some ⟨g,0,none⟩) x.length x.length) x
 tb : tbs x = s
 tg : ∀ t ∈ x,tight t
 cmd : Blk w2 w.heap.size 24 (cmC kd n K V kb)
 bel : Below w.heap.size w w2
 lt : w.heap.size < g
theorem DoI.step {s : List Tb} {kd : Int} {n : ByteArray} {K V : Int} {kb : Bool} {w w2 w3 : World} {g : Nat} {x : List Tv} (h : DoI s kd n K V kb w w2 g x) (hb : Below w2.heap.size w2 w3) : DoI s kd n K V kb w w3 g x :=
 ⟨h.fs.below hb,h.tb,h.tg,h.cmd.below hb h.cmd.lt,h.bel.trans (hb.mono h.bel.size),h.lt⟩
theorem DoI.len {s : List Tb} {kd : Int} {n : ByteArray} {K V : Int} {kb : Bool} {w w2 : World} {g : Nat} {x : List Tv} (h : DoI s kd n K V kb w w2 g x) : x.length = s.length := by rw [← h.tb,tbs_len]
theorem DoI.cells {s : List Tb} {kd : Int} {n : ByteArray} {K V : Int} {kb : Bool} {w w2 : World} {g : Nat} {x : List Tv} (h : DoI s kd n K V kb w w2 g x) :
  w2.cell? ⟨w.heap.size,0,none⟩ = some (.int .i64 kd) ∧ w2.cell? ⟨w.heap.size,1,none⟩ = some (.string n) ∧ w2.cell? ⟨w.heap.size,2,none⟩ = some (.int .i64 K) ∧ w2.cell? ⟨w.heap.size,3,none⟩ = some (.int .i64 V) ∧ w2.cell? ⟨w.heap.size,4,none⟩ = some (.bool kb) :=
 ⟨h.cmd.cell 0,h.cmd.cell 1,h.cmd.cell 2,h.cmd.cell 3,h.cmd.cell 4⟩
theorem DoI.at_ {s : List Tb} {kd : Int} {n : ByteArray} {K V : Int} {kb : Bool} {w w2 : World} {g : Nat} {x : List Tv} (h : DoI s kd n K V kb w w2 g x) {i : Nat} {t : Tb} (hi : s[i]? = some t) : ∃ hb,x[i]? = some (t.1,.slice (some ⟨hb,0,none⟩) t.2.length t.2.length,t.2) := by
 rw [← h.tb] at hi
 obtain ⟨u,hu⟩ := tbs_inv x i t hi
 obtain ⟨hb,e⟩ := h.tg _ (List.mem_of_getElem? hu)
 exact ⟨hb,by rw [hu]; simp only at e; rw [e]⟩
theorem do_copy {s : List Tb} {v : Value} {kd : Int} {n : ByteArray} {K V : Int} {kb : Bool} {w : World} (h : SR w v s) (hf : FewS s) :
  Calls Tryz.prog 41 #[v] (w.alloc (.cells (cmC kd n K V kb) 24)) fun e w2 => ∃ g x,e = .returned (.slice (some ⟨g,0,none⟩) s.length s.length) ∧ DoI s kd n K V kb w w2 g x := by
 have hb := (Below.refl w.heap.size w).alloc (Nat.le_refl _) (.cells (cmC kd n K V kb) 24)
 refine (copy_any v s _ (h.below hb) hf).mono ?_
 rintro e w2 ⟨g,x,h1,h2,h3,h4,h5,h6⟩
 have hsz : (w.alloc (.cells (cmC kd n K V kb) 24)).heap.size = w.heap.size + 1 := by simp
 have hlen : x.length = s.length := by rw [← h4,tbs_len]
 refine ⟨g,x,h1,⟨?_,h4,h5,(Blk.new w _ _).below h6 (by rw [hsz]; omega),hb.trans (h6.mono hb.size),by rw [hsz] at h2; omega⟩⟩
 rw [hlen]
 exact h3.mono (by rw [hsz]; omega)
theorem cmd_ne {w : World} {x B hb cap : Nat} {cs : Array Value} {l : List Rw} (h : Blk w x 24 cs) (ho : OR B w (.slice (some ⟨hb,0,none⟩) l.length cap) l) : x ≠ hb := by
 obtain ⟨c,hc⟩ := own_type ho (g := hb) rfl
 exact h.ne_ hc (by decide)
set_option maxHeartbeats 4000000 in
theorem do_none (v : Value) (s : List Tb) (kd : Int) (n : ByteArray) (K V : Int) (kb : Bool) (w : World) (h : SR w v s) (hd : DoOk s) (hk : kd ≠ 5) (hf : findN s n 0 < 0) :
  Calls Tryz.prog 17 #[v,.agg (cmC kd n K V kb)] w (DoP s kd n K V kb w) := by
 have HCP := Lib.hid (do_copy (kd := kd) (n := n) (K := K) (V := V) (kb := kb) h hd.few)
 have HFD := Lib.hid (fun (v' : Value) (W : World) (hS : SR W v' s) => find_any v' s n W hS hd.few.1)
 obtain ⟨a,cap,rfl⟩ := h.form
 have HR : Hid (doS s kd n K V kb = (s,[],8)) := Lib.hid (by unfold doS; rw [if_neg hk,if_pos hf])
 have n5 : (kd == 5) = false := by rw [beq_eq_false_iff_ne]; exact hk
 have m5 : ¬ (kd = 5) := hk
 obtain ⟨F,hF⟩ : ∃ F,findN s n 0 = F := ⟨_,rfl⟩
 rw [hF] at HFD hf
 clear hF
 clear h hd
 go_enter Tryz.func17,Tryz.ntmps17
 go_wp2_with (first
  | (go_at_call 41; (refine HCP.out.mono ?_); rintro e w2 ⟨g,x,rfl,hI⟩; have HI := Lib.hid hI; obtain ⟨c0,c1,c2,c3,c4⟩ := hI.cells; have HS2 : Hid (SR w2 (.slice (some ⟨g,0,none⟩) s.length s.length) s) := Lib.hid (by have := hI.fs.sr; rw [hI.tb,hI.len] at this; exact this); clear hI)
  | (go_at_call 13; (refine (HFD.out _ _ HS2.out).mono ?_); rintro e w3 ⟨rfl,hb3⟩; have hJ := HI.out.step hb3; have HJ := Lib.hid hJ; obtain ⟨d0,d1,d2,d3,d4⟩ := hJ.cells; clear hb3 hJ))
 go_ret3
 refine ⟨.slice (some ⟨g,0,none⟩) s.length s.length,x,.slice none 0 0,8,rfl,?_,?_,HJ.out.bel,?_,?_⟩
 ·have := HJ.out.fs; rw [HJ.out.len] at this; exact this
 ·rw [HR.out]; exact World.ownsRow_nil _ _ _ _
 ·rw [HR.out]; exact HJ.out.tb
 ·rw [HR.out]
set_option maxHeartbeats 4000000 in
theorem do_twice (v : Value) (s : List Tb) (n : ByteArray) (K V : Int) (kb : Bool) (w : World) (h : SR w v s) (hd : DoOk s) (hf : 0 ≤ findN s n 0) :
  Calls Tryz.prog 17 #[v,.agg (cmC 5 n K V kb)] w (DoP s 5 n K V kb w) := by
 have HCP := Lib.hid (do_copy (kd := 5) (n := n) (K := K) (V := V) (kb := kb) h hd.few)
 have HFD := Lib.hid (fun (v' : Value) (W : World) (hS : SR W v' s) => find_any v' s n W hS hd.few.1)
 obtain ⟨a,cap,rfl⟩ := h.form
 have HR : Hid (doS s 5 n K V kb = (s,[],9)) := Lib.hid (by unfold doS; rw [if_pos rfl,if_pos hf])
 obtain ⟨F,hF⟩ : ∃ F,findN s n 0 = F := ⟨_,rfl⟩
 rw [hF] at HFD hf
 have lf : ¬ (F < 0) := by omega
 clear hF
 clear h hd
 go_enter Tryz.func17,Tryz.ntmps17
 go_wp2_with (first
  | (go_at_call 41; (refine HCP.out.mono ?_); rintro e w2 ⟨g,x,rfl,hI⟩; have HI := Lib.hid hI; obtain ⟨c0,c1,c2,c3,c4⟩ := hI.cells; have HS2 : Hid (SR w2 (.slice (some ⟨g,0,none⟩) s.length s.length) s) := Lib.hid (by have := hI.fs.sr; rw [hI.tb,hI.len] at this; exact this); clear hI)
  | (go_at_call 13; (refine (HFD.out _ _ HS2.out).mono ?_); rintro e w3 ⟨rfl,hb3⟩; have hJ := HI.out.step hb3; have HJ := Lib.hid hJ; obtain ⟨d0,d1,d2,d3,d4⟩ := hJ.cells; clear hb3 hJ))
 go_ret3
 refine ⟨.slice (some ⟨g,0,none⟩) s.length s.length,x,.slice none 0 0,9,rfl,?_,?_,HJ.out.bel,?_,?_⟩
 ·have := HJ.out.fs; rw [HJ.out.len] at this; exact this
 ·rw [HR.out]; exact World.ownsRow_nil _ _ _ _
 ·rw [HR.out]; exact HJ.out.tb
 ·rw [HR.out]
set_option maxHeartbeats 4000000 in
theorem do_new (v : Value) (s : List Tb) (n : ByteArray) (K V : Int) (kb : Bool) (w : World) (h : SR w v s) (hd : DoOk s) (hf : findN s n 0 < 0) (hn : n.size ≤ 1000000) :
  Calls Tryz.prog 17 #[v,.agg (cmC 5 n K V kb)] w (DoP s 5 n K V kb w) := by
 have HCP := Lib.hid (do_copy (kd := 5) (n := n) (K := K) (V := V) (kb := kb) h hd.few)
 have HFD := Lib.hid (fun (v' : Value) (W : World) (hS : SR W v' s) => find_any v' s n W hS hd.few.1)
 obtain ⟨a,cap,rfl⟩ := h.form
 have HR : Hid (doS s 5 n K V kb = if 16 ≤ s.length then (s,[],11) else (madeS s n,[],0)) := Lib.hid (by unfold doS; rw [if_pos rfl,if_neg (by omega)])
 have HUP := Lib.hid hd.up
 have HFW := Lib.hid hd.few.1
 have HN := Lib.hid hn
 obtain ⟨F,hF⟩ : ∃ F,findN s n 0 = F := ⟨_,rfl⟩
 rw [hF] at HFD hf
 clear hF hn
 clear h hd
 go_enter Tryz.func17,Tryz.ntmps17
 go_wp2_with (first
  | (go_at_call 41; (refine HCP.out.mono ?_); rintro e w2 ⟨g,x,rfl,hI⟩; have HI := Lib.hid hI; obtain ⟨c0,c1,c2,c3,c4⟩ := hI.cells; have HS2 : Hid (SR w2 (.slice (some ⟨g,0,none⟩) s.length s.length) s) := Lib.hid (by have := hI.fs.sr; rw [hI.tb,hI.len] at this; exact this); clear hI)
  | (go_at_call 13; (refine (HFD.out _ _ HS2.out).mono ?_); rintro e w3 ⟨rfl,hb3⟩; have hJ := HI.out.step hb3; have HJ := Lib.hid hJ; obtain ⟨d0,d1,d2,d3,d4⟩ := hJ.cells; have HW : Hid (Calls Tryz.prog 49 #[.slice (some ⟨g,0,none⟩) s.length s.length,.string n] w3 (WithP w.heap.size g x n w3)) := Lib.hid (by have := stWith_any w.heap.size g x n w3 hJ.fs (by rw [hJ.tb]; exact HUP.out) (by rw [hJ.len]; exact HFW.out) HN.out hJ.bel.size; rw [hJ.len] at this; exact this); clear hb3 hJ)
  | (go_at_call 49; (refine HW.out.mono ?_); rintro e w4 ⟨V4,y4,k4,rfl,ho4,hb4,he4⟩; have HO4 := Lib.hid ho4; have HB4 := Lib.hid hb4; have HE4 := Lib.hid he4; clear ho4 hb4 he4))
 go_ret3
 have he := HE4.out
 rw [HJ.out.tb,HJ.out.len] at he
 have hr := HR.out
 refine ⟨V4,y4,.slice none 0 0,k4,rfl,HO4.out,?_,HJ.out.bel.trans HB4.out,?_,?_⟩
 ·rw [hr]; split <;> exact World.ownsRow_nil _ _ _ _
 ·rw [hr]
  split
  ·rename_i h16; rw [if_pos h16] at he; injection he
  ·rename_i h16; rw [if_neg h16] at he; injection he
 ·rw [hr]
  split
  ·rename_i h16; rw [if_pos h16] at he; injection he
  ·rename_i h16; rw [if_neg h16] at he; injection he
set_option maxHeartbeats 4000000 in
theorem do_get (v : Value) (s : List Tb) (n : ByteArray) (K V : Int) (kb : Bool) (w : World) (h : SR w v s) (hd : DoOk s) (hf : 0 ≤ findN s n 0) :
  Calls Tryz.prog 17 #[v,.agg (cmC 1 n K V kb)] w (DoP s 1 n K V kb w) := by
 have HCP := Lib.hid (do_copy (kd := 1) (n := n) (K := K) (V := V) (kb := kb) h hd.few)
 have HFD := Lib.hid (fun (v' : Value) (W : World) (hS : SR W v' s) => find_any v' s n W hS hd.few.1)
 obtain ⟨a,cap,rfl⟩ := h.form
 obtain ⟨t,ht,htn,hlt⟩ := find_pos hf
 obtain ⟨i,hi⟩ : ∃ i : Nat,findN s n 0 = (i : Int) := ⟨_,(Int.toNat_of_nonneg hf).symm⟩
 rw [hi,Int.toNat_natCast] at ht hlt
 rw [hi] at HFD
 have hD : doS s 1 n K V kb = (s,getR kb K t.2,0) := by unfold doS; rw [if_neg (by decide),hi,if_neg (by omega),Int.toNat_natCast,ht]; simp only; rw [if_pos trivial]
 have HR := Lib.hid hD
 have HT := Lib.hid ht
 have hte := hd.each t (List.mem_of_getElem? ht)
 have htf := hd.few.2 t (List.mem_of_getElem? ht)
 have HTE := Lib.hid hte
 have HTF := Lib.hid htf
 have HTN := Lib.hid htn
 have l0 : ¬ ((i : Int) < 0) := by omega
 have l1 : (i : Int) < (s.length : Int) := by omega
 have l2 : (0 : Int) ≤ (i : Int) := by omega
 clear ht hD hte htf hi hf hlt htn
 clear h hd
 go_enter Tryz.func17,Tryz.ntmps17
 go_wp2_with (first
  | (go_at_call 41; (refine HCP.out.mono ?_); rintro e w2 ⟨g,x,rfl,hI⟩; have HI := Lib.hid hI; obtain ⟨c0,c1,c2,c3,c4⟩ := hI.cells; have HS2 : Hid (SR w2 (.slice (some ⟨g,0,none⟩) s.length s.length) s) := Lib.hid (by have := hI.fs.sr; rw [hI.tb,hI.len] at this; exact this); clear hI)
  | (go_at_call 13; (refine (HFD.out _ _ HS2.out).mono ?_); rintro e w3 ⟨rfl,hb3⟩; have hJ := HI.out.step hb3; have HJ := Lib.hid hJ; obtain ⟨d0,d1,d2,d3,d4⟩ := hJ.cells; obtain ⟨hb,hx⟩ := hJ.at_ HT.out; have HX := Lib.hid hx; have hfs := hJ.fs; obtain ⟨q0,q1⟩ := FS.at_ hfs i _ hx; have HOR := Lib.hid (hfs.rows _ (List.mem_of_getElem? hx)); have HTG := Lib.hid (hJ.tg _ (List.mem_of_getElem? hx)); have HM := Lib.hid (chosen_any _ t.2 w.heap.size kb K w3 (HOR.out.rr) ⟨d4,d2⟩ HTF.out.2); clear hx hfs; clear hb3 hJ)
  | (go_at_call 51; (refine HM.out.mono ?_); rintro e w4 ⟨v4,rfl,ho4,hb4⟩; have HO4 := Lib.hid ho4; have HK := Lib.hid (HJ.out.step hb4); clear ho4 hb4))
 go_ret3
 refine ⟨.slice (some ⟨g,0,none⟩) s.length s.length,x,v4,0,rfl,?_,?_,HK.out.bel,?_,?_⟩
 ·have := HK.out.fs; rw [HJ.out.len] at this; exact this
 ·rw [HR.out]; exact own_mono HO4.out HJ.out.bel.size
 ·rw [HR.out]; exact HJ.out.tb
 ·rw [HR.out]
set_option maxHeartbeats 4000000 in
theorem do_put (v : Value) (s : List Tb) (n : ByteArray) (K V : Int) (kb : Bool) (w : World) (h : SR w v s) (hd : DoOk s) (hf : 0 ≤ findN s n 0) :
  Calls Tryz.prog 17 #[v,.agg (cmC 2 n K V kb)] w (DoP s 2 n K V kb w) := by
 have HCP := Lib.hid (do_copy (kd := 2) (n := n) (K := K) (V := V) (kb := kb) h hd.few)
 have HFD := Lib.hid (fun (v' : Value) (W : World) (hS : SR W v' s) => find_any v' s n W hS hd.few.1)
 obtain ⟨a,cap,rfl⟩ := h.form
 obtain ⟨t,ht,htn,hlt⟩ := find_pos hf
 obtain ⟨i,hi⟩ : ∃ i : Nat,findN s n 0 = (i : Int) := ⟨_,(Int.toNat_of_nonneg hf).symm⟩
 rw [hi,Int.toNat_natCast] at ht hlt
 rw [hi] at HFD
 have hD : doS s 2 n K V kb = (s.set i (t.1,(chgR 2 K V kb t.2).1),[],(chgR 2 K V kb t.2).2) := by unfold doS; rw [if_neg (by decide),hi,if_neg (by omega),Int.toNat_natCast,ht]; simp only; rw [if_neg (by decide)]
 have HR := Lib.hid hD
 have HT := Lib.hid ht
 have hte := hd.each t (List.mem_of_getElem? ht)
 have htf := hd.few.2 t (List.mem_of_getElem? ht)
 have HTE := Lib.hid hte
 have HTF := Lib.hid htf
 have HTN := Lib.hid htn
 have l0 : ¬ ((i : Int) < 0) := by omega
 have l1 : (i : Int) < (s.length : Int) := by omega
 have l2 : (0 : Int) ≤ (i : Int) := by omega
 clear ht hD hte htf hi hf hlt htn
 clear h hd
 go_enter Tryz.func17,Tryz.ntmps17
 go_wp2_with (first
  | (go_at_call 41; (refine HCP.out.mono ?_); rintro e w2 ⟨g,x,rfl,hI⟩; have HI := Lib.hid hI; obtain ⟨c0,c1,c2,c3,c4⟩ := hI.cells; have HS2 : Hid (SR w2 (.slice (some ⟨g,0,none⟩) s.length s.length) s) := Lib.hid (by have := hI.fs.sr; rw [hI.tb,hI.len] at this; exact this); clear hI)
  | (go_at_call 13; (refine (HFD.out _ _ HS2.out).mono ?_); rintro e w3 ⟨rfl,hb3⟩; have hJ := HI.out.step hb3; have HJ := Lib.hid hJ; obtain ⟨d0,d1,d2,d3,d4⟩ := hJ.cells; obtain ⟨hb,hx⟩ := hJ.at_ HT.out; have HX := Lib.hid hx; have hfs := hJ.fs; obtain ⟨q0,q1⟩ := FS.at_ hfs i _ hx; have HOR := Lib.hid (hfs.rows _ (List.mem_of_getElem? hx)); have HTG := Lib.hid (hJ.tg _ (List.mem_of_getElem? hx)); have HM : Hid (Calls Tryz.prog 52 #[.pointer (some ⟨g,i * 2,none⟩),.int .i64 K,.int .i64 V] w3 (ChgP w.heap.size (.slice (some ⟨g,0,none⟩) s.length s.length) x i t.1 (putR t.2 K V) w3)) := Lib.hid (by have := put_any w.heap.size g x.length x i _ K V w3 hfs hx HTG.out HTE.out.1 HTF.out.2 hJ.bel.size; rw [hJ.len] at this; exact this); clear hx hfs; clear hb3 hJ)
  | (go_at_call 52; (refine HM.out.mono ?_); rintro e w4 ⟨u4,rfl,ho4,hb4⟩; have HO4 := Lib.hid ho4; have HB4 := Lib.hid hb4; clear ho4 hb4))
 go_ret3
 have hl : (x.set i (t.1,u4,(putR t.2 K V).1)).length = s.length := by rw [List.length_set]; exact HJ.out.len
 refine ⟨.slice (some ⟨g,0,none⟩) s.length s.length,_,.slice none 0 0,(putR t.2 K V).2,rfl,HO4.out,?_,HJ.out.bel.trans HB4.out,?_,?_⟩
 ·rw [HR.out]; exact World.ownsRow_nil _ _ _ _
 ·rw [HR.out,tbs_set,HJ.out.tb]; rfl
 ·rw [HR.out]; rfl
set_option maxHeartbeats 4000000 in
theorem do_add (v : Value) (s : List Tb) (n : ByteArray) (K V : Int) (kb : Bool) (w : World) (h : SR w v s) (hd : DoOk s) (hf : 0 ≤ findN s n 0) :
  Calls Tryz.prog 17 #[v,.agg (cmC 3 n K V kb)] w (DoP s 3 n K V kb w) := by
 have HCP := Lib.hid (do_copy (kd := 3) (n := n) (K := K) (V := V) (kb := kb) h hd.few)
 have HFD := Lib.hid (fun (v' : Value) (W : World) (hS : SR W v' s) => find_any v' s n W hS hd.few.1)
 obtain ⟨a,cap,rfl⟩ := h.form
 obtain ⟨t,ht,htn,hlt⟩ := find_pos hf
 obtain ⟨i,hi⟩ : ∃ i : Nat,findN s n 0 = (i : Int) := ⟨_,(Int.toNat_of_nonneg hf).symm⟩
 rw [hi,Int.toNat_natCast] at ht hlt
 rw [hi] at HFD
 have hD : doS s 3 n K V kb = (s.set i (t.1,(chgR 3 K V kb t.2).1),[],(chgR 3 K V kb t.2).2) := by unfold doS; rw [if_neg (by decide),hi,if_neg (by omega),Int.toNat_natCast,ht]; simp only; rw [if_neg (by decide)]
 have HR := Lib.hid hD
 have HT := Lib.hid ht
 have hte := hd.each t (List.mem_of_getElem? ht)
 have htf := hd.few.2 t (List.mem_of_getElem? ht)
 have HTE := Lib.hid hte
 have HTF := Lib.hid htf
 have HTN := Lib.hid htn
 have l0 : ¬ ((i : Int) < 0) := by omega
 have l1 : (i : Int) < (s.length : Int) := by omega
 have l2 : (0 : Int) ≤ (i : Int) := by omega
 clear ht hD hte htf hi hf hlt htn
 clear h hd
 go_enter Tryz.func17,Tryz.ntmps17
 go_wp2_with (first
  | (go_at_call 41; (refine HCP.out.mono ?_); rintro e w2 ⟨g,x,rfl,hI⟩; have HI := Lib.hid hI; obtain ⟨c0,c1,c2,c3,c4⟩ := hI.cells; have HS2 : Hid (SR w2 (.slice (some ⟨g,0,none⟩) s.length s.length) s) := Lib.hid (by have := hI.fs.sr; rw [hI.tb,hI.len] at this; exact this); clear hI)
  | (go_at_call 13; (refine (HFD.out _ _ HS2.out).mono ?_); rintro e w3 ⟨rfl,hb3⟩; have hJ := HI.out.step hb3; have HJ := Lib.hid hJ; obtain ⟨d0,d1,d2,d3,d4⟩ := hJ.cells; obtain ⟨hb,hx⟩ := hJ.at_ HT.out; have HX := Lib.hid hx; have hfs := hJ.fs; obtain ⟨q0,q1⟩ := FS.at_ hfs i _ hx; have HOR := Lib.hid (hfs.rows _ (List.mem_of_getElem? hx)); have HTG := Lib.hid (hJ.tg _ (List.mem_of_getElem? hx)); have HM : Hid (Calls Tryz.prog 53 #[.pointer (some ⟨g,i * 2,none⟩),.int .i64 K] w3 (ChgP w.heap.size (.slice (some ⟨g,0,none⟩) s.length s.length) x i t.1 (addR t.2 K) w3)) := Lib.hid (by have := add_any w.heap.size g x.length x i _ K w3 hfs hx HTG.out HTE.out.1 HTF.out.2 hJ.bel.size HTE.out.2; rw [hJ.len] at this; exact this); clear hx hfs; clear hb3 hJ)
  | (go_at_call 53; (refine HM.out.mono ?_); rintro e w4 ⟨u4,rfl,ho4,hb4⟩; have HO4 := Lib.hid ho4; have HB4 := Lib.hid hb4; clear ho4 hb4))
 go_ret3
 have hl : (x.set i (t.1,u4,(addR t.2 K).1)).length = s.length := by rw [List.length_set]; exact HJ.out.len
 refine ⟨.slice (some ⟨g,0,none⟩) s.length s.length,_,.slice none 0 0,(addR t.2 K).2,rfl,HO4.out,?_,HJ.out.bel.trans HB4.out,?_,?_⟩
 ·rw [HR.out]; exact World.ownsRow_nil _ _ _ _
 ·rw [HR.out,tbs_set,HJ.out.tb]; rfl
 ·rw [HR.out]; rfl
set_option maxHeartbeats 4000000 in
theorem do_del (v : Value) (s : List Tb) (n : ByteArray) (K V : Int) (kb : Bool) (w : World) (h : SR w v s) (hd : DoOk s) (hf : 0 ≤ findN s n 0) :
  Calls Tryz.prog 17 #[v,.agg (cmC 4 n K V kb)] w (DoP s 4 n K V kb w) := by
 have HCP := Lib.hid (do_copy (kd := 4) (n := n) (K := K) (V := V) (kb := kb) h hd.few)
 have HFD := Lib.hid (fun (v' : Value) (W : World) (hS : SR W v' s) => find_any v' s n W hS hd.few.1)
 obtain ⟨a,cap,rfl⟩ := h.form
 obtain ⟨t,ht,htn,hlt⟩ := find_pos hf
 obtain ⟨i,hi⟩ : ∃ i : Nat,findN s n 0 = (i : Int) := ⟨_,(Int.toNat_of_nonneg hf).symm⟩
 rw [hi,Int.toNat_natCast] at ht hlt
 rw [hi] at HFD
 have hD : doS s 4 n K V kb = (s.set i (t.1,(chgR 4 K V kb t.2).1),[],(chgR 4 K V kb t.2).2) := by unfold doS; rw [if_neg (by decide),hi,if_neg (by omega),Int.toNat_natCast,ht]; simp only; rw [if_neg (by decide)]
 have HR := Lib.hid hD
 have HT := Lib.hid ht
 have hte := hd.each t (List.mem_of_getElem? ht)
 have htf := hd.few.2 t (List.mem_of_getElem? ht)
 have HTE := Lib.hid hte
 have HTF := Lib.hid htf
 have HTN := Lib.hid htn
 have l0 : ¬ ((i : Int) < 0) := by omega
 have l1 : (i : Int) < (s.length : Int) := by omega
 have l2 : (0 : Int) ≤ (i : Int) := by omega
 clear ht hD hte htf hi hf hlt htn
 clear h hd
 go_enter Tryz.func17,Tryz.ntmps17
 go_wp2_with (first
  | (go_at_call 41; (refine HCP.out.mono ?_); rintro e w2 ⟨g,x,rfl,hI⟩; have HI := Lib.hid hI; obtain ⟨c0,c1,c2,c3,c4⟩ := hI.cells; have HS2 : Hid (SR w2 (.slice (some ⟨g,0,none⟩) s.length s.length) s) := Lib.hid (by have := hI.fs.sr; rw [hI.tb,hI.len] at this; exact this); clear hI)
  | (go_at_call 13; (refine (HFD.out _ _ HS2.out).mono ?_); rintro e w3 ⟨rfl,hb3⟩; have hJ := HI.out.step hb3; have HJ := Lib.hid hJ; obtain ⟨d0,d1,d2,d3,d4⟩ := hJ.cells; obtain ⟨hb,hx⟩ := hJ.at_ HT.out; have HX := Lib.hid hx; have hfs := hJ.fs; obtain ⟨q0,q1⟩ := FS.at_ hfs i _ hx; have HOR := Lib.hid (hfs.rows _ (List.mem_of_getElem? hx)); have HTG := Lib.hid (hJ.tg _ (List.mem_of_getElem? hx)); have HM := Lib.hid (delete_any w.heap.size hb t.2.length t.2 w.heap.size kb K w3 HOR.out ⟨d4,d2⟩ (fun e => cmd_ne hJ.cmd HOR.out e) (Nat.le_refl _) HTF.out.2); clear hx hfs; clear hb3 hJ)
  | (go_at_call 54; (refine HM.out.mono ?_); rintro e w4 ⟨rfl,ho4,hg4⟩; have HO4 := Lib.hid ho4; have HG4 := Lib.hid hg4; have hne4 : (some g : Option Nat) ≠ some hb := (fun e => own_ne HJ.out.fs.own HOR.out rfl rfl ty_ne (by injection e)); have q2 := hg4.cell (a := ⟨g,i * 2 + 1,none⟩) q1 hne4; have f2 : w4.frozen? ⟨g,i * 2 + 1,none⟩ = false := (World.frozen?_of_block (hg4.block g (HJ.out.fs.own.lt g rfl).2 hne4)).trans (World.ownsRow.frozenAt HJ.out.fs.own _); clear ho4 hg4 hne4))
 go_ret3
 have hch : chgR 4 K V kb t.2 = (delR kb K t.2,0) := rfl
 have hfs := FS.modk HJ.out.fs i _ HX.out _ _ HO4.out (fun q hq hne => HG4.out.block q hq hne) (fun j p hj hp => HJ.out.fs.apart j i p _ hj hp HX.out)
 refine ⟨.slice (some ⟨g,0,none⟩) s.length s.length,_,.slice none 0 0,0,rfl,by rw [HJ.out.len] at hfs; exact hfs,?_,?_,?_,?_⟩
 ·rw [HR.out]; exact World.ownsRow_nil _ _ _ _
 ·exact (HJ.out.bel.grown HG4.out HJ.out.bel.size (fun q hq => by injection hq with hq; rw [← hq]; exact (HOR.out.lt hb rfl).1)).setCell (p := ⟨g,i * 2 + 1,none⟩) (Nat.le_of_lt HJ.out.lt) _
 ·rw [HR.out,tbs_set,HJ.out.tb,hch]
 ·rw [HR.out,hch]
theorem stDo_any (v : Value) (s : List Tb) (kd : Int) (n : ByteArray) (K V : Int) (kb : Bool) (w : World) (h : SR w v s) (hd : DoOk s) (hk : 1 ≤ kd ∧ kd ≤ 5) (hn : n.size ≤ 1000000) :
  Calls Tryz.prog 17 #[v,.agg (cmC kd n K V kb)] w (DoP s kd n K V kb w) := by
 by_cases hf : findN s n 0 < 0
 ·by_cases h5 : kd = 5
  ·subst h5; exact do_new v s n K V kb w h hd hf hn
  ·exact do_none v s kd n K V kb w h hd h5 hf
 ·have hf' : 0 ≤ findN s n 0 := by omega
  rcases (show kd = 1 ∨ kd = 2 ∨ kd = 3 ∨ kd = 4 ∨ kd = 5 by omega) with rfl | rfl | rfl | rfl | rfl
  ·exact do_get v s n K V kb w h hd hf'
  ·exact do_put v s n K V kb w h hd hf'
  ·exact do_add v s n K V kb w h hd hf'
  ·exact do_del v s n K V kb w h hd hf'
  ·exact do_twice v s n K V kb w h hd hf'

def lowI (z : Int) : Int := if 65 ≤ z ∧ z ≤ 90 then z + 32 else z
def lowB (c : UInt8) : UInt8 := if 65 ≤ c.toNat ∧ c.toNat ≤ 90 then c + 32 else c
theorem lowB_I (c : UInt8) : ((lowB c).toNat : Int) = lowI (c.toNat : Int) := by
 unfold lowB lowI
 by_cases h : 65 ≤ c.toNat ∧ c.toNat ≤ 90
 ·rw [if_pos h,if_pos (by omega),UInt8.toNat_add]
  have : (32 : UInt8).toNat = 32 := rfl
  rw [this]
  omega
 ·rw [if_neg h,if_neg (by omega)]
def smallA (s : ByteArray) : ByteArray := ⟨(s.data.toList.map lowB).toArray⟩
structure SmI (s : ByteArray) (w : World) (k : Nat) (wr : World) : Prop where
 cell : ∀ (j : Nat) (hj : j < s.size),wr.cell? ⟨w.heap.size,j,none⟩ = some (.int .u8 ((if j < k then lowB s[j] else s[j]).toNat : Int))
 fro : ∀ (j : Nat) (hj : j < s.size),wr.frozen? ⟨w.heap.size,j,none⟩ = false
 bel : Below w.heap.size w wr
theorem SmI.keep {s : ByteArray} {w wr : World} {k : Nat} (h : SmI s w k wr) (hk : k < s.size) (hs : lowI (s[k].toNat : Int) = (s[k].toNat : Int)) : SmI s w (k + 1) wr := by
 refine ⟨fun j hj => ?_,h.fro,h.bel⟩
 rw [h.cell j hj]
 by_cases e : j = k
 ·subst e
  rw [if_neg (by omega),if_pos (by omega),lowB_I,hs]
 ·by_cases e2 : j < k
  ·rw [if_pos e2,if_pos (by omega)]
  ·rw [if_neg e2,if_neg (by omega)]
theorem SmI.put {s : ByteArray} {w wr : World} {k : Nat} (h : SmI s w k wr) (hk : k < s.size) (z : Int) (hz : z = lowI (s[k].toNat : Int)) : SmI s w (k + 1) (wr.setCell ⟨w.heap.size,k,none⟩ (.int .u8 z)) := by
 refine ⟨fun j hj => ?_,fun j hj => ?_,h.bel.setCell (Nat.le_refl _) _⟩
 ·by_cases e : j = k
  ·subst e
   rw [World.cell?_setCell_same _ _ _ (h.cell j hj),if_pos (by omega),lowB_I,hz]
  ·rw [World.cell?_setCell_other _ _ _ _ (by intro h2; simp only [Addr.mk.injEq] at h2; omega),h.cell j hj]
   by_cases e2 : j < k
   ·rw [if_pos e2,if_pos (by omega)]
   ·rw [if_neg e2,if_neg (by omega)]
 ·rw [World.frozen?_setCell]; exact h.fro j hj
set_option maxRecDepth 100000 in
theorem small_any (s : ByteArray) (hs : s.size ≤ 281474976710656) (w : World) : Calls Tryz.prog 184 #[.string s] w fun e w' => e = .returned (.string (smallA s)) ∧ Below w.heap.size w w' := by
 have hconv := run_bytes_of_string (P := Tryz.prog) w 9 70 5 s (by kernel_rfl) (by kernel_rfl) (by kernel_rfl)
 have hI : SmI s w 0 (w.drew.alloc (.cells (bytesRow s (grownCap w s.size 0 5)) 5 ((bytesRow s (grownCap w s.size 0 5)).size,(bytesRow s (grownCap w s.size 0 5)).size + 1))) := by
  have e1 : w.drew.heap.size = w.heap.size := by simp
  refine ⟨fun j hj => ?_,fun j hj => ?_,((Below.refl _ _).drew).alloc (by simp) _⟩
  ·rw [if_neg (by omega)]
   rw [← e1,World.cell?_alloc_mark,bytesRow_at s _ j hj]
   rfl
  ·rw [← e1,World.frozen?_alloc_mark]
   have : j < (bytesRow s (grownCap w s.size 0 5)).size := by
    have := bytesRow_at s (grownCap w s.size 0 5) j hj
    exact (Array.getElem?_eq_some_iff.1 this).1
   rw [decide_eq_false (by omega)]; rfl
 generalize (w.drew.alloc (.cells (bytesRow s (grownCap w s.size 0 5)) 5 ((bytesRow s (grownCap w s.size 0 5)).size,(bytesRow s (grownCap w s.size 0 5)).size + 1))) = w1 at *
 generalize grownCap w s.size 0 5 = cap at *
 have HI := Lib.hid hI
 clear hI
 go_enter Tryz.func184,Tryz.ntmps184
 go_wp2
 go_loopw [10] (fun u10 wr => ∃ k : Nat,u10 = .int .i64 (k : Int) ∧ k ≤ s.size ∧ SmI s w k wr) (fun u10 _ => s.size - (match u10 with | .int _ k => k.toNat | _ => 0))
 case atStart => exact ⟨0,rfl,Nat.zero_le _,HI.out⟩
 case round =>
  obtain ⟨k,rfl,hks,hS⟩ := hrel
  clear HI hconv
  have HS := Lib.hid hS
  clear hS
  by_cases hk : k < s.size
  ·have lw : Hid ((k : Int) + 1 = ((k + 1 : Nat) : Int)) := Lib.hid (by omega)
   obtain ⟨z,hz⟩ : ∃ z : Int,((s[k]'hk).toNat : Int) = z := ⟨_,rfl⟩
   have hc : wr.cell? ⟨w.heap.size,k,none⟩ = some (.int .u8 z) := by
    have := HS.out.cell k hk
    rwa [if_neg (by omega),hz] at this
   have hf : wr.frozen? ⟨w.heap.size,k,none⟩ = false := HS.out.fro k hk
   have lk : (k : Int) < (s.size : Int) := by omega
   have l0 : (0 : Int) ≤ (k : Int) := by omega
   have HZ := Lib.hid hz
   clear hz
   by_cases h1 : 65 ≤ z ∧ z ≤ 90
   ·obtain ⟨ha,hb⟩ := h1
    have s1 : IntKind.u8.wrap (z - 65) = z - 65 := IntWalk.u8_in _ (by omega)
    have s2 : IntKind.u8.wrap (z - 65 + 97) = z - 65 + 97 := IntWalk.u8_in _ (by omega)
    go_wp2
    refine ⟨⟨k + 1,by rw [lw.out],by omega,HS.out.put hk _ (by rw [HZ.out]; unfold lowI; rw [if_pos ⟨ha,hb⟩]; omega)⟩,?_⟩
    rw [lw.out]; simp only [Int.toNat_natCast]; omega
   ·by_cases h2 : 65 ≤ z
    ·have h3 : ¬ (z ≤ 90) := by omega
     clear h1
     go_wp2
     refine ⟨⟨k + 1,by rw [lw.out],by omega,HS.out.keep hk (by rw [HZ.out]; unfold lowI; rw [if_neg (by omega)])⟩,?_⟩
     rw [lw.out]; simp only [Int.toNat_natCast]; omega
    ·clear h1
     go_wp2
     refine ⟨⟨k + 1,by rw [lw.out],by omega,HS.out.keep hk (by rw [HZ.out]; unfold lowI; rw [if_neg (by omega)])⟩,?_⟩
     rw [lw.out]; simp only [Int.toNat_natCast]; omega
  ·have lk : ¬ ((k : Int) < (s.size : Int)) := by omega
   have hks2 : k = s.size := by omega
   have hback := run_convert_bytes_back (P := Tryz.prog) wr 70 9 5 ⟨w.heap.size,0,none⟩ cap (s.data.toList.map lowB) (by kernel_rfl) (by kernel_rfl) (by kernel_rfl) (fun j hj => by
    have hj2 : j < s.size := by rw [Lib.size_eq]; simpa using hj
    have := HS.out.cell j hj2
    rw [if_pos (by omega)] at this
    have ea : (⟨w.heap.size,0,none⟩ : Addr).add j = ⟨w.heap.size,j,none⟩ := by simp [Addr.add]; exact fun h => h.symm
    rw [ea,this,List.getElem_map]
    rfl)
   rw [List.length_map,← Lib.size_eq] at hback
   clear hks2
   go_wp2
   go_ret
   exact ⟨rfl,HS.out.bel⟩
theorem word_no (s : ByteArray) (w : World) (h0 : rowL letB s.data.toList = 0) :
  Calls Tryz.prog 143 #[.string s] w fun e w' => e = .returned (pcV 0 ⟨#[]⟩ 0) ∧ Below w.heap.size w w' := by
 have hr := fun w => row_letter letN letB true (Lib.hid kin_let) s w (Lib.hid (weak_ let_any))
 simp only [h0] at hr
 have HR := Lib.hid hr
 clear hr h0
 go_enter Tryz.func143,Tryz.ntmps143
 go_wp2_with (go_at_call 178; refine (HR.out _).mono ?_; rintro e w1 ⟨rfl,hb1⟩; obtain ⟨hcc,hff⟩ := bcell hb1)
 have hB : Below w.heap.size w w1 := ((Below.refl _ _).alloc (Nat.le_refl _) _).trans (hb1.mono (by simp))
 refine bodyPost_ret (v := pcV 0 ⟨#[]⟩ 0) (by simp [results,Tryz.results143,go_sem,hcc,hff]) rfl ?_
 refine ⟨rfl,((hB.setCell ?_ _).setCell ?_ _).setCell ?_ _⟩ <;> exact Nat.le_refl _
theorem word_yes (s : ByteArray) (w : World) (hs : s.size ≤ 281474976710656) (h0 : rowL letB s.data.toList ≠ 0) :
  Calls Tryz.prog 143 #[.string s] w fun e w' => e = .returned (pcV 1 (smallA (s.extract 0 (rowL wordB s.data.toList))) (rowL wordB s.data.toList : Nat)) ∧ Below w.heap.size w w' := by
 have hr := fun w => row_letter letN letB true (Lib.hid kin_let) s w (Lib.hid (weak_ let_any))
 have hq := fun w => row_word wordN wordB true (Lib.hid kin_word) s w (Lib.hid (weak_ word_any))
 obtain ⟨n,hn⟩ : ∃ n,rowL wordB s.data.toList = n := ⟨_,rfl⟩
 obtain ⟨m,hm⟩ : ∃ m,rowL letB s.data.toList = m := ⟨_,rfl⟩
 have hle : n ≤ s.size := by rw [← hn,Lib.size_eq]; exact rowL_le _ _
 rw [hn]
 simp only [hn] at hq
 simp only [hm] at hr
 rw [hm] at h0
 have hc := fun w => small_any (s.extract 0 n) (by rw [ByteArray.size_extract]; omega) w
 have HR := Lib.hid hr
 have HQ := Lib.hid hq
 have HC := Lib.hid hc
 clear hr hq hn hm hc hs
 have c0 : ((m : Int) == 0) = false := by rw [beq_eq_false_iff_ne]; omega
 have c1 : (0 : Int) ≤ (n : Int) := by omega
 have c2 : (n : Int) ≤ (s.size : Int) := by omega
 clear h0
 go_enter Tryz.func143,Tryz.ntmps143
 go_wp2_with (first
  | (go_at_call 178; (with_reducible refine (HR.out _).mono ?_); rintro e w1 ⟨rfl,hb1⟩; have F1 := (Own3.new w).step hb1; clear hb1; obtain ⟨hB,hL,k0,k1,k2,f0,f1,f2⟩ := id F1)
  | (go_at_call 178; (with_reducible refine (HQ.out _).mono ?_); rintro e w2 ⟨rfl,hb2⟩; have F2 := F1.step hb2; clear hb2 hB hL k0 k1 k2 f0 f1 f2; obtain ⟨hB,hL,k0,k1,k2,f0,f1,f2⟩ := id F2)
  | (go_at_call 184; (with_reducible refine (HC.out _).mono ?_); rintro e w3 ⟨rfl,hb3⟩; have F3 := F2.step hb3; clear hb3 hB hL k0 k1 k2 f0 f1 f2; obtain ⟨hB,hL,k0,k1,k2,f0,f1,f2⟩ := id F3))
 refine bodyPost_ret (v := pcV 1 (smallA (s.extract 0 n)) (n : Nat)) (by simp [results,Tryz.results143,go_sem,k0,k1,k2]) rfl ?_
 refine ⟨rfl,((hB.setCell ?_ _).setCell ?_ _).setCell ?_ _⟩ <;> exact Nat.le_refl _

abbrev signT : ByteArray := ⟨#[40,41,44,59,46,61,60,62,43,45,42,47,37,38,124,94,126,33,64,35,63,58,91,93]⟩
def signI (c : UInt8) : Int := Lib.indexByte signT.data.toList c
theorem sign_any (s : ByteArray) (h : 0 < s.size) (w : World) : Calls Tryz.prog 149 #[.string s] w fun e w' =>
  e = .returned (if signI (s[0]'h) < 0 then pcV 0 ⟨#[]⟩ 0 else pcV 5 (s.extract 0 1) 1) ∧ Below w.heap.size w w' := by
 obtain ⟨i,hi⟩ : ∃ i,signI (s[0]'h) = i := ⟨_,rfl⟩
 have hc : ∀ w,Calls Tryz.prog 190 #[.string signT,.int .u8 ((s[0]'h).toNat : Int)] w fun e w' => e = .returned (.int .i64 i) ∧ w' = w := by
  intro w
  have := sidx_any signT ((s[0]'h).toNat : Int) w
  rwa [show ((s[0]'h).toNat : Int).toNat.toUInt8 = s[0]'h by simp,show Lib.indexByte signT.data.toList (s[0]'h) = i from hi] at this
 have hk := fun w => clone_any (s.extract 0 1) w (by rw [ByteArray.size_extract]; omega)
 have hz : (0 : Int) < (s.size : Int) := by omega
 have h1 : (1 : Int) ≤ (s.size : Int) := by omega
 rw [hi]
 have HC := Lib.hid hc
 have HK := Lib.hid hk
 clear hc hi hk
 by_cases hi : i < 0
 ·rw [if_pos hi]
  go_enter Tryz.func149,Tryz.ntmps149
  go_wp2_with (first
   | (go_at_call 190; (with_reducible refine (HC.out _).mono ?_); rintro e w1 ⟨rfl,hw⟩; obtain rfl := hw.symm))
  refine bodyPost_ret (v := pcV 0 ⟨#[]⟩ 0) (by simp [results,Tryz.results149,go_sem]) rfl ?_
  exact ⟨rfl,(Below.refl _ _).alloc (Nat.le_refl _) _⟩
 ·rw [if_neg hi]
  go_enter Tryz.func149,Tryz.ntmps149
  go_wp2_with (first
   | (go_at_call 190; (with_reducible refine (HC.out _).mono ?_); rintro e w1 ⟨rfl,hw⟩; obtain rfl := hw.symm)
   | (go_at_call 85; (with_reducible refine (HK.out _).mono ?_); rintro e w3 ⟨rfl,hb3⟩; have F3 := (Own3.new w).step hb3; clear hb3; obtain ⟨hB,hL,k0,k1,k2,f0,f1,f2⟩ := id F3))
  refine bodyPost_ret (v := pcV 5 (s.extract 0 1) 1) (by simp [results,Tryz.results149,go_sem,k0,k1,k2]) rfl ?_
  refine ⟨rfl,((hB.setCell ?_ _).setCell ?_ _).setCell ?_ _⟩ <;> exact Nat.le_refl _
def hpB (s p : ByteArray) : Bool := decide (p.size ≤ s.size) && ((s.extract 0 p.size).toList == p.toList)
theorem lhp_any (s p : ByteArray) (w : World) : Calls Tryz.prog 222 #[.string s,.string p] w fun e w' => e = .returned (.bool (hpB s p)) ∧ w' = w := by
 by_cases hle : p.size ≤ s.size
 ·have c0 : (p.size : Int) ≤ (s.size : Int) := by omega
  have c1 : (0 : Int) ≤ (p.size : Int) := by omega
  obtain ⟨b,hb⟩ : ∃ b,((s.extract 0 p.size).toList == p.toList) = b := ⟨_,rfl⟩
  rw [show hpB s p = b by unfold hpB; rw [decide_eq_true hle,hb]; rfl]
  go_enter Tryz.func222,Tryz.ntmps222
  go_wp2
  go_ret
  exact ⟨rfl,rfl⟩
 ·have c0 : ¬ ((p.size : Int) ≤ (s.size : Int)) := by omega
  rw [show hpB s p = false by unfold hpB; rw [decide_eq_false hle]; rfl]
  go_enter Tryz.func222,Tryz.ntmps222
  go_wp2
  go_ret
  exact ⟨rfl,rfl⟩
theorem hp_any (s p : ByteArray) (w : World) : Calls Tryz.prog 180 #[.string s,.string p] w fun e w' => e = .returned (.bool (hpB s p)) ∧ w' = w := by
 have h := lhp_any s p
 generalize hpB s p = b at *
 have H := Lib.hid h
 clear h
 go_enter Tryz.func180,Tryz.ntmps180
 go_wp2_with (go_at_call 222; refine (H.out _).mono ?_; rintro e w1 ⟨rfl,hw⟩; obtain rfl := hw.symm)
 go_ret
 exact ⟨rfl,rfl⟩
def cutpV (s p : ByteArray) : Value := .tuple #[.string (if hpB s p = true then s.extract p.size s.size else s),.bool (hpB s p)]
theorem lcutp_any (s p : ByteArray) (w : World) : Calls Tryz.prog 225 #[.string s,.string p] w fun e w' => e = .returned (cutpV s p) ∧ w' = w := by
 have h := lhp_any s p
 unfold cutpV
 cases hb : hpB s p with
 | true =>
  have hle : p.size ≤ s.size := by unfold hpB at hb; simp at hb; exact hb.1
  have c0 : (p.size : Int) ≤ (s.size : Int) := by omega
  have c1 : (0 : Int) ≤ (p.size : Int) := by omega
  rw [hb] at h
  have H := Lib.hid h
  clear h hb
  rw [if_pos rfl]
  go_enter Tryz.func225,Tryz.ntmps225
  go_wp2_with (go_at_call 222; refine (H.out _).mono ?_; rintro e w1 ⟨rfl,hw⟩; obtain rfl := hw.symm)
  go_ret2
  exact ⟨rfl,rfl⟩
 | false =>
  rw [hb] at h
  have H := Lib.hid h
  clear h hb
  rw [if_neg (by simp)]
  go_enter Tryz.func225,Tryz.ntmps225
  go_wp2_with (go_at_call 222; refine (H.out _).mono ?_; rintro e w1 ⟨rfl,hw⟩; obtain rfl := hw.symm)
  go_ret2
  exact ⟨rfl,rfl⟩
theorem cutp_any (s p : ByteArray) (w : World) : Calls Tryz.prog 189 #[.string s,.string p] w fun e w' => e = .returned (cutpV s p) ∧ w' = w := by
 have h := lcutp_any s p
 unfold cutpV at *
 generalize (if hpB s p = true then s.extract p.size s.size else s) = t at *
 generalize hpB s p = b at *
 have H := Lib.hid h
 clear h
 go_enter Tryz.func189,Tryz.ntmps189
 go_wp2_with (go_at_call 225; refine (H.out _).mono ?_; rintro e w1 ⟨rfl,hw⟩; obtain rfl := hw.symm)
 go_ret2
 exact ⟨rfl,rfl⟩

abbrev dolT : ByteArray := ⟨#[36]⟩
theorem param_core (s r : ByteArray) (b : Bool) (n : Nat) (w : World) (hn : rowL digB r.data.toList = n) (hle : n + 1 ≤ s.size ∨ b = false ∨ n = 0) (hs : s.size ≤ 281474976710656)
  (hc : ∀ w,Calls Tryz.prog 189 #[.string s,.string dolT] w fun e w' => e = .returned (.tuple #[.string r,.bool b]) ∧ w' = w) :
  Calls Tryz.prog 148 #[.string s] w fun e w' => e = .returned (if b = false ∨ n = 0 then pcV 0 ⟨#[]⟩ 0 else pcV 5 (s.extract 0 (n + 1)) ((n + 1 : Nat) : Int)) ∧ Below w.heap.size w w' := by
 have hr := fun w => row_digit digN digB false (Lib.hid kin_dig) r w (Lib.hid (weak_ dig_any))
 have hk := fun w => clone_any (s.extract 0 (n + 1)) w (by rw [ByteArray.size_extract]; omega)
 simp only [hn] at hr
 have HC := Lib.hid hc
 have HR := Lib.hid hr
 have HK := Lib.hid hk
 clear hc hr hk hn
 by_cases h : b = false ∨ n = 0
 ·rw [if_pos h]
  cases b with
  | false =>
   clear h hle
   go_enter Tryz.func148,Tryz.ntmps148
   go_wp2_with (first
    | (go_at_call 189; (with_reducible refine (HC.out _).mono ?_); rintro e w1 ⟨rfl,hw⟩; obtain rfl := hw.symm)
    | (go_at_call 178; (with_reducible refine (HR.out _).mono ?_); rintro e w2 ⟨rfl,hb1⟩; have F1 := (Own3.new w).step hb1; clear hb1; obtain ⟨hB,hL,k0,k1,k2,f0,f1,f2⟩ := id F1))
   refine bodyPost_ret (v := pcV 0 ⟨#[]⟩ 0) (by simp [results,Tryz.results148,go_sem,k0,k1,k2]) rfl ?_
   refine ⟨rfl,((hB.setCell ?_ _).setCell ?_ _).setCell ?_ _⟩ <;> exact Nat.le_refl _
  | true =>
   have h0 : n = 0 := by simpa using h
   subst h0
   clear h hle
   go_enter Tryz.func148,Tryz.ntmps148
   go_wp2_with (first
    | (go_at_call 189; (with_reducible refine (HC.out _).mono ?_); rintro e w1 ⟨rfl,hw⟩; obtain rfl := hw.symm)
    | (go_at_call 178; (with_reducible refine (HR.out _).mono ?_); rintro e w2 ⟨rfl,hb1⟩; have F1 := (Own3.new w).step hb1; clear hb1; obtain ⟨hB,hL,k0,k1,k2,f0,f1,f2⟩ := id F1))
   refine bodyPost_ret (v := pcV 0 ⟨#[]⟩ 0) (by simp [results,Tryz.results148,go_sem,k0,k1,k2]) rfl ?_
   refine ⟨rfl,((hB.setCell ?_ _).setCell ?_ _).setCell ?_ _⟩ <;> exact Nat.le_refl _
 ·rw [if_neg h]
  have hb : b = true := by
   cases b with
   | true => rfl
   | false => exact absurd (Or.inl rfl) h
  subst hb
  have hn0 : n ≠ 0 := fun e => h (Or.inr e)
  have hl : n + 1 ≤ s.size := by
   rcases hle with h1 | h1 | h1
   ·exact h1
   ·cases h1
   ·exact absurd h1 hn0
  have c0 : ((n : Int) == 0) = false := by rw [beq_eq_false_iff_ne]; omega
  obtain ⟨m,hm⟩ : ∃ m,n + 1 = m := ⟨_,rfl⟩
  have e0 : (n : Int) + 1 = (m : Int) := by omega
  have cw : IntKind.i64.wrap ((n : Int) + 1) = (m : Int) := by rw [e0]; exact IntWalk.i64_in _ (by omega)
  rw [hm] at HK ⊢
  have c1 : (0 : Int) ≤ (m : Int) := by omega
  have c2 : (m : Int) ≤ (s.size : Int) := by omega
  clear h hle hn0 hl hm hs
  have E0 := Lib.hid e0
  clear e0
  go_enter Tryz.func148,Tryz.ntmps148
  go_wp2_with (first
   | (go_at_call 189; (with_reducible refine (HC.out _).mono ?_); rintro e w1 ⟨rfl,hw⟩; obtain rfl := hw.symm)
   | (go_at_call 178; (with_reducible refine (HR.out _).mono ?_); rintro e w2 ⟨rfl,hb1⟩; have F1 := (Own3.new w).step hb1; clear hb1; obtain ⟨hB,hL,k0,k1,k2,f0,f1,f2⟩ := id F1)
   | (go_at_call 85; (with_reducible refine (HK.out _).mono ?_); rintro e w3 ⟨rfl,hb3⟩; have F3 := F1.step hb3; clear hb3 hB hL k0 k1 k2 f0 f1 f2; obtain ⟨hB,hL,k0,k1,k2,f0,f1,f2⟩ := id F3))
  refine bodyPost_ret (v := pcV 5 (s.extract 0 m) (m : Nat)) (by simp [results,Tryz.results148,go_sem,k0,k1,k2]) rfl ?_
  refine ⟨rfl,((hB.setCell ?_ _).setCell ?_ _).setCell ?_ _⟩ <;> exact Nat.le_refl _
def dolR (s : ByteArray) : ByteArray := if hpB s dolT = true then s.extract 1 s.size else s
def parN (s : ByteArray) : Nat := rowL digB (dolR s).data.toList
theorem param_any (s : ByteArray) (w : World) (hs : s.size ≤ 281474976710656) :
  Calls Tryz.prog 148 #[.string s] w fun e w' => e = .returned (if hpB s dolT = false ∨ parN s = 0 then pcV 0 ⟨#[]⟩ 0 else pcV 5 (s.extract 0 (parN s + 1)) ((parN s + 1 : Nat) : Int)) ∧ Below w.heap.size w w' := by
 refine param_core s (dolR s) (hpB s dolT) (parN s) w rfl ?_ hs (fun w => cutp_any s dolT w)
 cases hb : hpB s dolT with
 | false => exact .inr (.inl rfl)
 | true =>
  have hle : 1 ≤ s.size := by unfold hpB at hb; simp at hb; exact hb.1
  left
  have h1 : parN s ≤ (dolR s).size := by rw [Lib.size_eq]; exact rowL_le _ _
  have h2 : (dolR s).size = s.size - 1 := by unfold dolR; rw [if_pos hb,ByteArray.size_extract]; omega
  omega

def Wd (m : Int) (w : World) : Prop := w.cell? ⟨1,0,none⟩ = some (.int .i64 m)
theorem Wd.lt {m : Int} {w : World} (h : Wd m w) : 1 < w.heap.size := by
 unfold Wd World.cell? at h
 split at h
 ·rename_i hb
  exact (Array.getElem?_eq_some_iff.1 hb).1
 ·simp at h
theorem Wd.below {m : Int} {w w' : World} (h : Wd m w) (b : Below w.heap.size w w') : Wd m w' := by
 unfold Wd
 rw [b.cell (p := ⟨1,0,none⟩) h.lt]
 exact h
theorem Own3.drewN {w w1 : World} (h : Own3 w w1) (n : Nat) : Own3 w (w1.drewN n) := h.step (below_drewN_ (Below.refl _ _) _)
abbrev dashT : ByteArray := ⟨#[45,45]⟩
def lineA (s : ByteArray) : ByteArray := ⟨(Lib.cut s.data.toList [10]).1.toArray⟩
theorem line_any (s : ByteArray) (m : Int) (w : World) (hs : s.size < 4294967281) (hm : Wd m w) :
  Calls Tryz.prog 141 #[.string s] w fun e w' => e = .returned (pcV 0 ⟨#[]⟩ (if hpB s dashT = true then ((lineA s).size : Int) else 0)) ∧ Below w.heap.size w w' := by
 have hc : ∀ w1,Wd m w1 → _ := fun w1 h1 => Tryz.strings_Cut s ⟨#[10]⟩ m w1 hs h1
 have hp := fun w => hp_any s dashT w
 have hown := Own3.new w
 have hw := hm.below hown.bel
 have hb : ∀ v : ByteArray,v = lineA s → (v.size : Int) = ((lineA s).size : Int) := fun v h => by rw [h]
 have e1 : (⟨(Lib.cut s.data.toList (⟨#[10]⟩ : ByteArray).data.toList).1.toArray⟩ : ByteArray) = lineA s := rfl
 rw [e1] at hc
 generalize lineA s = l at *
 generalize (⟨(Lib.cut s.data.toList (⟨#[10]⟩ : ByteArray).data.toList).2.1.toArray⟩ : ByteArray) = l2 at *
 generalize (Lib.cut s.data.toList (⟨#[10]⟩ : ByteArray).data.toList).2.2 = b at *
 have HC := Lib.hid hc
 have HO := Lib.hid hown
 have HW := Lib.hid hw
 clear hc hown hw e1 hm hb
 cases hpb : hpB s dashT with
 | false =>
  rw [hpb] at hp
  have HP := Lib.hid hp
  clear hp hpb
  rw [if_neg (by simp)]
  go_enter Tryz.func141,Tryz.ntmps141
  go_wp2_with (first
   | (go_at_call 180; (with_reducible refine (HP.out _).mono ?_); rintro e w1 ⟨rfl,hw⟩; obtain rfl := hw.symm))
  refine bodyPost_ret (v := pcV 0 ⟨#[]⟩ 0) (by simp [results,Tryz.results141,go_sem]) rfl ?_
  exact ⟨rfl,(Below.refl _ _).alloc (Nat.le_refl _) _⟩
 | true =>
  rw [hpb] at hp
  have HP := Lib.hid hp
  clear hp hpb
  rw [if_pos rfl]
  go_enter Tryz.func141,Tryz.ntmps141
  go_wp2_with (first
   | (go_at_call 180; (with_reducible refine (HP.out _).mono ?_); rintro e w1 ⟨rfl,hw⟩; obtain rfl := hw.symm)
   | (go_at_call 181; refine (HC.out _ HW.out).mono ?_; rintro e w2 ⟨rfl,nq,rfl⟩; have F1 := HO.out.drewN nq; obtain ⟨hB,hL,k0,k1,k2,f0,f1,f2⟩ := id F1))
  refine bodyPost_ret (v := pcV 0 ⟨#[]⟩ (l.size : Int)) (by simp [results,Tryz.results141,go_sem,k0,k1,k2]) rfl ?_
  refine ⟨rfl,((hB.setCell ?_ _).setCell ?_ _).setCell ?_ _⟩ <;> exact Nat.le_refl _

theorem take2_ext (s : ByteArray) (k : Nat) : (s.extract 0 k).toList = s.data.toList.take k := by
 rw [Lib.toList_data,ByteArray.data_extract,Array.toList_extract]
 simp only [List.extract_eq_take_drop,List.drop_zero,Nat.sub_zero]
theorem hpB_two (s : ByteArray) (x y : UInt8) : hpB s ⟨#[x,y]⟩ = decide (s.data.toList.take 2 = [x,y]) := by
 unfold hpB
 have e1 : (⟨#[x,y]⟩ : ByteArray).size = 2 := rfl
 have e2 : (⟨#[x,y]⟩ : ByteArray).toList = [x,y] := by rw [Lib.toList_data]
 rw [e1,e2,take2_ext]
 by_cases h : s.data.toList.take 2 = [x,y]
 ·have h2 : 2 ≤ s.size := by
   have := congrArg List.length h
   rw [List.length_take,← Lib.size_eq] at this
   simp only [List.length_cons,List.length_nil] at this; omega
  rw [decide_eq_true h,decide_eq_true h2,h]; simp
 ·rw [decide_eq_false h]
  simp [h]
theorem ext_list (s : ByteArray) (a : Nat) : (s.extract a s.size).data.toList = s.data.toList.drop a := by
 rw [ByteArray.data_extract,Array.toList_extract,List.extract_eq_take_drop]
 refine List.take_of_length_le ?_
 rw [List.length_drop,← Lib.size_eq]
 exact Nat.le_refl _
def remL : Nat → Tx → Option Nat
 | 0,_ => some 0
 | d + 1,[] => none
 | d + 1,c :: r =>
  if (c :: r).take 2 = [47,42] then (remL (d + 2) (r.drop 1)).map (· + 2)
  else if (c :: r).take 2 = [42,47] then (remL d (r.drop 1)).map (· + 2)
  else (remL (d + 1) r).map (· + 1)
termination_by _ l => l.length
decreasing_by all_goals (simp; try omega)
def remI (o : Option Nat) : Int := match o with | some n => (n : Int) | none => -1
structure RemI (s : ByteArray) (R : Option Nat) (w : World) (d a : Nat) (wr : World) : Prop where
 own : Own3 w wr
 le : a ≤ s.size
 deep : d ≤ a
 val : R = (remL d (s.data.toList.drop a)).map (· + a)
theorem map_add (o : Option Nat) (a b c : Nat) (h : a + b = c) : (o.map (· + a)).map (· + b) = o.map (· + c) := by
 cases o with
 | none => rfl
 | some n => simp; omega
theorem drop_cons_ (l : Tx) (a : Nat) (h : a < l.length) : ∃ c,l.drop a = c :: l.drop (a + 1) := ⟨l[a],List.drop_eq_getElem_cons h⟩
theorem RemI.open_ {s : ByteArray} {R : Option Nat} {w wr : World} {d a : Nat} (h : RemI s R w (d + 1) a wr) (h2 : (s.data.toList.drop a).take 2 = [47,42]) : RemI s R w (d + 2) (a + 2) wr := by
 have hl : a + 2 ≤ s.size := by
  have := congrArg List.length h2
  rw [List.length_take,List.length_drop,← Lib.size_eq] at this
  simp only [List.length_cons,List.length_nil] at this; omega
 obtain ⟨c,hc⟩ := drop_cons_ s.data.toList a (by rw [← Lib.size_eq]; omega)
 refine ⟨h.own,hl,by have := h.deep; omega,?_⟩
 rw [h.val,hc,remL,← hc,if_pos h2,map_add _ _ _ (a + 2) (by omega),List.drop_drop]
theorem RemI.shut_ {s : ByteArray} {R : Option Nat} {w wr : World} {d a : Nat} (h : RemI s R w (d + 1) a wr) (h2 : (s.data.toList.drop a).take 2 = [42,47]) : RemI s R w d (a + 2) wr := by
 have hl : a + 2 ≤ s.size := by
  have := congrArg List.length h2
  rw [List.length_take,List.length_drop,← Lib.size_eq] at this
  simp only [List.length_cons,List.length_nil] at this; omega
 obtain ⟨c,hc⟩ := drop_cons_ s.data.toList a (by rw [← Lib.size_eq]; omega)
 refine ⟨h.own,hl,by have := h.deep; omega,?_⟩
 rw [h.val,hc,remL,← hc,if_neg (by rw [h2]; decide),if_pos h2,map_add _ _ _ (a + 2) (by omega),List.drop_drop]
theorem RemI.on_ {s : ByteArray} {R : Option Nat} {w wr : World} {d a : Nat} (h : RemI s R w (d + 1) a wr) (hl : a < s.size) (h1 : (s.data.toList.drop a).take 2 ≠ [47,42]) (h2 : (s.data.toList.drop a).take 2 ≠ [42,47]) : RemI s R w (d + 1) (a + 1) wr := by
 obtain ⟨c,hc⟩ := drop_cons_ s.data.toList a (by rw [← Lib.size_eq]; omega)
 refine ⟨h.own,by omega,by have := h.deep; omega,?_⟩
 rw [h.val,hc,remL,← hc,if_neg h1,if_neg h2,map_add _ _ _ (a + 1) (by omega)]
abbrev opnT : ByteArray := ⟨#[47,42]⟩
abbrev shtT : ByteArray := ⟨#[42,47]⟩
theorem remark_no (s : ByteArray) (w : World) (h : hpB s opnT = false) :
  Calls Tryz.prog 142 #[.string s] w fun e w' => e = .returned (pcV 0 ⟨#[]⟩ 0) ∧ Below w.heap.size w w' := by
 have hp := fun w => hp_any s opnT w
 rw [h] at hp
 have HP := Lib.hid hp
 clear hp h
 go_enter Tryz.func142,Tryz.ntmps142
 go_wp2_with (first
  | (go_at_call 180; (with_reducible refine (HP.out _).mono ?_); rintro e w1 ⟨rfl,hw⟩; obtain rfl := hw.symm))
 refine bodyPost_ret (v := pcV 0 ⟨#[]⟩ 0) (by simp [results,Tryz.results142,go_sem]) rfl ?_
 exact ⟨rfl,(Below.refl _ _).alloc (Nat.le_refl _) _⟩
set_option maxRecDepth 100000 in
theorem remark_yes (s : ByteArray) (w : World) (hs : s.size ≤ 281474976710656) (h : hpB s opnT = true) (R : Option Nat) (hR : R = (remL 1 (s.data.toList.drop 2)).map (· + 2)) :
  Calls Tryz.prog 142 #[.string s] w fun e w' => e = .returned (pcV 0 ⟨#[]⟩ (remI R)) ∧ Below w.heap.size w w' := by
 have hp := fun w => hp_any s opnT w
 have h2 : 2 ≤ s.size := by unfold hpB at h; simp at h; exact h.1
 have hI : RemI s R w 1 2 _ := ⟨Own3.new w,h2,by omega,hR⟩
 rw [h] at hp
 have HP := Lib.hid hp
 have HI := Lib.hid hI
 clear hp h hR hI
 go_enter Tryz.func142,Tryz.ntmps142
 go_wp2_with (first
  | (go_at_call 180; (with_reducible refine (HP.out _).mono ?_); rintro e w1 ⟨rfl,hw⟩; obtain rfl := hw.symm))
 go_loopw [3,4] (fun u3 u4 wr => ∃ d a : Nat,u3 = .int .i64 (d : Int) ∧ u4 = .int .i64 (a : Int) ∧ RemI s R w d a wr) (fun _ u4 _ => s.size - (match u4 with | .int _ k => k.toNat | _ => 0))
 case atStart => exact ⟨1,2,rfl,rfl,HI.out⟩
 case round =>
  obtain ⟨d,a,rfl,rfl,hr⟩ := hrel
  obtain ⟨hown,hle,hdp,hval⟩ := id hr
  obtain ⟨hB,hL,k0,k1,k2,f0,f1,f2⟩ := id hown
  have HR := Lib.hid hr
  clear hr hown HI hw
  have l0 : (0 : Int) ≤ (a : Int) := by omega
  have l1 : (a : Int) ≤ (s.size : Int) := by omega
  match d,HR,hval,hdp with
  | 0,HR,hval,hdp =>
   have hv : remI R = (a : Int) := by rw [hval,remL]; simp [remI]
   clear hval
   go_wp2
   refine bodyPost_ret (v := pcV 0 ⟨#[]⟩ (a : Int)) (by simp [results,Tryz.results142,go_sem,k0,k1,k2]) rfl ?_
   rw [hv]
   refine ⟨rfl,((hB.setCell ?_ _).setCell ?_ _).setCell ?_ _⟩ <;> exact Nat.le_refl _
  | d + 1,HR,hval,hdp =>
   obtain ⟨z,hz⟩ : ∃ z : Int,((d + 1 : Nat) : Int) = z := ⟨_,rfl⟩
   rw [hz]
   have z0 : (0 : Int) < z := by omega
   have z1 : z ≤ 281474976710656 := by omega
   have HZ := Lib.hid hz
   have HV := Lib.hid hval
   clear hz hval hdp
   by_cases he : a = s.size
   ·have q1 : ((a : Int) == (s.size : Int)) = true := by rw [beq_iff_eq]; omega
    have hv : remI R = -1 := by
     rw [HV.out,he,List.drop_of_length_le (by rw [Lib.size_eq]; exact Nat.le_refl _),remL]; rfl
    go_wp2
    refine bodyPost_ret (v := pcV 0 ⟨#[]⟩ (-1)) (by simp [results,Tryz.results142,go_sem,k0,k1,k2]) rfl ?_
    rw [hv]
    refine ⟨rfl,((hB.setCell ?_ _).setCell ?_ _).setCell ?_ _⟩ <;> exact Nat.le_refl _
   ·have q1 : ((a : Int) == (s.size : Int)) = false := by rw [beq_eq_false_iff_ne]; omega
    have ho := fun w => hp_any (s.extract a s.size) opnT w
    have hc := fun w => hp_any (s.extract a s.size) shtT w
    simp only [hpB_two,ext_list] at ho hc
    by_cases h1 : (s.data.toList.drop a).take 2 = [47,42]
    ·simp only [h1,decide_true] at ho
     have HO := Lib.hid ho
     clear ho hc
     go_wp2_with (go_at_call 180; (with_reducible refine (HO.out _).mono ?_); rintro e w1 ⟨rfl,hw⟩; obtain rfl := hw.symm)
     have hq := HR.out.open_ h1
     have e1 : z + 1 = ((d + 2 : Nat) : Int) := by have := HZ.out; omega
     have e2 : (a : Int) + 2 = ((a + 2 : Nat) : Int) := by omega
     have e3 := hq.le
     refine ⟨⟨d + 2,a + 2,by rw [e1],by rw [e2],hq⟩,?_⟩
     rw [e2]; simp only [Int.toNat_natCast]; omega
    ·simp only [h1,decide_false] at ho
     have HO := Lib.hid ho
     by_cases h3 : (s.data.toList.drop a).take 2 = [42,47]
     ·simp only [h3,decide_true] at hc
      have HC := Lib.hid hc
      clear ho hc
      go_wp2_with (first
       | (go_at_call 180; (with_reducible refine (HO.out _).mono ?_); rintro e w1 ⟨rfl,hw⟩; obtain rfl := hw.symm)
       | (go_at_call 180; (with_reducible refine (HC.out _).mono ?_); rintro e w2 ⟨rfl,hw2⟩; obtain rfl := hw2.symm))
      have hq := HR.out.shut_ h3
      have e1 : z - 1 = (d : Int) := by have := HZ.out; omega
      have e2 : (a : Int) + 2 = ((a + 2 : Nat) : Int) := by omega
      have e3 := hq.le
      refine ⟨⟨d,a + 2,by rw [e1],by rw [e2],hq⟩,?_⟩
      rw [e2]; simp only [Int.toNat_natCast]; omega
     ·simp only [h3,decide_false] at hc
      have HC := Lib.hid hc
      clear ho hc
      go_wp2_with (first
       | (go_at_call 180; (with_reducible refine (HO.out _).mono ?_); rintro e w1 ⟨rfl,hw⟩; obtain rfl := hw.symm)
       | (go_at_call 180; (with_reducible refine (HC.out _).mono ?_); rintro e w2 ⟨rfl,hw2⟩; obtain rfl := hw2.symm))
      have hq := HR.out.on_ (by omega) h1 h3
      have e1 : z = ((d + 1 : Nat) : Int) := HZ.out.symm
      have e2 : (a : Int) + 1 = ((a + 1 : Nat) : Int) := by omega
      have e3 := hq.le
      refine ⟨⟨d + 1,a + 1,by rw [e1],by rw [e2],hq⟩,?_⟩
      rw [e2]; simp only [Int.toNat_natCast]; omega

def betL (q : UInt8) : Tx → Option (Tx × Nat)
 | [] => none
 | c :: r => if c = q then (match r with
   | d :: r2 => if d = q then (betL q r2).map (fun p => (d :: p.1,p.2 + 2)) else some ([],1)
   | [] => some ([],1)) else (betL q r).map (fun p => (c :: p.1,p.2 + 1))
theorem betL_cons (q c : UInt8) (r : Tx) : betL q (c :: r) = if c = q then (match r with
   | d :: r2 => if d = q then (betL q r2).map (fun p => (d :: p.1,p.2 + 2)) else some ([],1)
   | [] => some ([],1)) else (betL q r).map (fun p => (c :: p.1,p.2 + 1)) := by
 rw [betL.eq_def]
 cases r <;> rfl
def u8V (c : UInt8) : Value := .int .u8 (c.toNat : Int)
theorem info5 : (Tryz.prog.info? 5).map (fun i => (i.zero,i.size,i.bytes)) = some (some (.int .u8 0),1,1) := by kernel_rfl
theorem i5_parts : ∃ i,Tryz.prog.info? 5 = some i ∧ i.zero = some (.int .u8 0) ∧ i.size = 1 ∧ i.bytes = 1 := by
 have h := info5
 cases e : Tryz.prog.info? 5 with
 | none => rw [e] at h; cases h
 | some i =>
  rw [e] at h
  simp only [Option.map_some,Option.some.injEq,Prod.mk.injEq] at h
  exact ⟨i,rfl,h.1,h.2.1,h.2.2⟩
theorem und47 : Tryz.prog.underlying 70 = some (.slice 5) := by kernel_rfl
theorem Own3.grown {w w1 w2 : World} {row : Option Nat} (h : Own3 w w1) (g : w1.grownBy w2 row) (hr : ∀ k,row = some k → w.heap.size + 1 ≤ k) : Own3 w w2 := by
 have b : Below (w.heap.size + 1) w1 w2 := (Below.refl _ _).grown g (by have := h.lt; omega) hr
 have l := Nat.lt_succ_self w.heap.size
 exact ⟨h.bel.trans (b.mono (Nat.le_succ _)),Nat.lt_of_lt_of_le h.lt b.size,by rw [b.cell l]; exact h.k0,by rw [b.cell l]; exact h.k1,by rw [b.cell l]; exact h.k2,by rw [b.frozen l]; exact h.f0,by rw [b.frozen l]; exact h.f1,by rw [b.frozen l]; exact h.f2⟩
structure BetI (s : ByteArray) (q : UInt8) (R : Option (Tx × Nat)) (w : World) (xs : Tx) (a : Nat) (v : Value) (wr : World) : Prop where
 own : Own3 w wr
 row : wr.ownsRow (w.heap.size + 1) 5 1 v xs.length (xs.map u8V)
 le : a ≤ s.size
 len : xs.length ≤ a
 val : R = (betL q (s.data.toList.drop a)).map (fun p => (xs ++ p.1,p.2 + a))
theorem BetI.more {s : ByteArray} {q : UInt8} {R : Option (Tx × Nat)} {w wr w2 : World} {xs : Tx} {a b : Nat} {v v2 : Value} {z : Int} (h : BetI s q R w xs a v wr) (c : UInt8) (hz : z = (c.toNat : Int))
  (hr : w2.ownsRow (w.heap.size + 1) 5 1 v2 (xs.length + 1) (xs.map u8V ++ [.int .u8 z])) (hg : (wr.alloc (.cells #[.int .u8 z] 5)).grownBy w2 v.ownBlock)
  (hb : b ≤ s.size) (hab : a < b) (hv : R = (betL q (s.data.toList.drop b)).map (fun p => (xs ++ c :: p.1,p.2 + b))) : BetI s q R w (xs ++ [c]) b v2 w2 := by
 refine ⟨(h.own.step ((Below.refl _ _).alloc (Nat.le_refl _) _)).grown hg (fun k hk => (World.ownsRow.lt h.row k hk).1),?_,hb,by have := h.len; simp; omega,?_⟩
 ·subst hz
  simpa [u8V] using hr
 ·rw [hv]; simp
theorem betV_str {w wr : World} {xs : Tx} {v : Value} (h : wr.ownsRow (w.heap.size + 1) 5 1 v xs.length (xs.map u8V)) : (convert 70 9 v).run Tryz.prog wr = .ok (.string ⟨xs.toArray⟩) wr := by
 have ht := h
 rcases h.2 with ⟨rfl,hn⟩ | ⟨g,cap,cur,rfl,_⟩
 ·have : xs = [] := List.eq_nil_of_length_eq_zero hn
  subst this
  rw [run_convert_bytes_string wr 70 9 5 none 0 0 und47 (by kernel_rfl) (by kernel_rfl)]
  simp [Conv.bytesToString]
  rfl
 ·refine run_convert_bytes_back (P := Tryz.prog) wr 70 9 5 ⟨g,0,none⟩ cap xs und47 (by kernel_rfl) (by kernel_rfl) (fun j hj => ?_)
  exact World.ownsRow.cells ht rfl j _ (by simp [u8V,hj])
def betV (k : Int) (o : Option (Tx × Nat)) : Value := match o with
 | some p => pcV k ⟨p.1.toArray⟩ (p.2 : Int)
 | none => pcV 0 ⟨#[]⟩ (-1)
theorem bet_no (s : ByteArray) (q : UInt8) (k : Int) (w : World) (h : 0 < s.size) (hq : (s[0]'h) ≠ q) :
  Calls Tryz.prog 185 #[.string s,.int .u8 (q.toNat : Int),.int .i64 k] w fun e w' => e = .returned (pcV 0 ⟨#[]⟩ 0) ∧ Below w.heap.size w w' := by
 have hz : (0 : Int) < (s.size : Int) := by omega
 have g : (((s[0]'h).toNat : Int) != (q.toNat : Int)) = true := by
  rw [bne,beq_eq_false_iff_ne.2 (fun e => hq (UInt8.toNat_inj.1 (by omega)))]; rfl
 clear hq
 go_enter Tryz.func185,Tryz.ntmps185
 go_wp2
 refine bodyPost_ret (v := pcV 0 ⟨#[]⟩ 0) (by simp [results,Tryz.results185,go_sem]) rfl ?_
 exact ⟨rfl,(Below.refl _ _).alloc (Nat.le_refl _) _⟩
theorem one_cell (w : World) (z : Int) : ∀ (j : Nat) (u : Value),[Value.int .u8 z][j]? = some u → (w.alloc (.cells #[.int .u8 z] 5)).cell? ((⟨w.heap.size,0,none⟩ : Addr).add j) = some u := by
 intro j u hj
 match j,hj with
 | 0,hj =>
  rw [Addr.add_lit,World.cell?_alloc_mark]
  simpa using hj
set_option maxHeartbeats 1000000 in
set_option maxRecDepth 100000 in
theorem bet_yes (s : ByteArray) (q : UInt8) (k : Int) (w : World) (hs : s.size ≤ 4294967296) (h : 0 < s.size) (hq : (s[0]'h) = q) (R : Option (Tx × Nat)) (hR : R = (betL q (s.data.toList.drop 1)).map (fun p => (p.1,p.2 + 1))) :
  Calls Tryz.prog 185 #[.string s,.int .u8 (q.toNat : Int),.int .i64 k] w fun e w' => e = .returned (betV k R) ∧ Below w.heap.size w w' := by
 obtain ⟨i5,hi5,hz5,hs5,hb5⟩ := i5_parts
 have hz : (0 : Int) < (s.size : Int) := by omega
 have g : (((s[0]'h).toNat : Int) != (q.toNat : Int)) = false := by
  rw [hq]; simp
 have hI : BetI s q R w [] 1 (.slice none 0 0) _ := ⟨Own3.new w,World.ownsRow_nil _ _ _ _,by omega,by simp,by rw [hR]; rfl⟩
 have HI := Lib.hid hI
 clear hI hq hR
 go_enter Tryz.func185,Tryz.ntmps185
 go_wp2
 go_loopw [7,8] (fun u7 u8 wr => ∃ (xs : Tx) (a : Nat),u8 = .int .i64 (a : Int) ∧ BetI s q R w xs a u7 wr) (fun _ u8 _ => s.size - (match u8 with | .int _ k => k.toNat | _ => 0))
 case atStart => exact ⟨[],1,rfl,HI.out⟩
 case round =>
  obtain ⟨xs,a,rfl,hr⟩ := hrel
  obtain ⟨hown,hrow,hle,hlen,hval⟩ := id hr
  obtain ⟨hB,hL,k0,k1,k2,f0,f1,f2⟩ := id hown
  have hconv := betV_str hrow
  have HB := Lib.hid hr
  have HV := Lib.hid hval
  have l0 : (0 : Int) ≤ (a : Int) := by omega
  clear hr hown HI hrow hval g hz
  by_cases ha : a < s.size
  ·have hd := List.drop_eq_getElem_cons (show a < s.data.toList.length by rw [← Lib.size_eq]; exact ha)
   have hda : s.data.toList[a]'(by rw [← Lib.size_eq]; exact ha) = s[a]'ha := rfl
   rw [hda] at hd
   obtain ⟨b,hb⟩ : ∃ b,a + 1 = b := ⟨_,rfl⟩
   have cw : IntKind.i64.wrap ((a : Int) + 1) = (b : Int) := by rw [show (a : Int) + 1 = (b : Int) by omega]; exact IntWalk.i64_in _ (by omega)
   have la : (a : Int) < (s.size : Int) := by omega
   rw [hb] at hd
   have HD := Lib.hid hd
   have HBA := Lib.hid hb
   clear hd hda hb
   by_cases hc : s[a]'ha = q
   ·have g1 : (((s[a]'ha).toNat : Int) == (q.toNat : Int)) = true := by rw [hc]; simp
    have b0 : (0 : Int) ≤ (b : Int) := by omega
    by_cases hbs : b = s.size
    ·have hv : betV k R = pcV k ⟨xs.toArray⟩ (b : Int) := by
      rw [HV.out,HD.out,betL_cons,if_pos hc,List.drop_of_length_le (by rw [← Lib.size_eq]; omega)]
      simp [betV]
      have := HBA.out; omega
     have g2 : ((b : Int) == (s.size : Int)) = true := by rw [beq_iff_eq]; omega
     clear hc
     go_wp2
     refine bodyPost_ret (v := pcV k ⟨xs.toArray⟩ (b : Int)) (by simp [results,Tryz.results185,go_sem,k0,k1,k2]; try omega) rfl ?_
     try rw [hv]
     refine ⟨rfl,((hB.setCell ?_ _).setCell ?_ _).setCell ?_ _⟩ <;> exact Nat.le_refl _
    ·have hbl : b < s.size := by have := HBA.out; omega
     have lb : (b : Int) < (s.size : Int) := by omega
     have g2 : ((b : Int) == (s.size : Int)) = false := by rw [beq_eq_false_iff_ne]; omega
     have hd2 := List.drop_eq_getElem_cons (show b < s.data.toList.length by rw [← Lib.size_eq]; exact hbl)
     have hda2 : s.data.toList[b]'(by rw [← Lib.size_eq]; exact hbl) = s[b]'hbl := rfl
     rw [hda2] at hd2
     by_cases hc2 : s[b]'hbl = q
     ·have g3 : (((s[b]'hbl).toNat : Int) != (q.toNat : Int)) = false := by rw [hc2]; simp
      obtain ⟨d,hdd⟩ : ∃ d,b + 1 = d := ⟨_,rfl⟩
      have cw2 : IntKind.i64.wrap ((b : Int) + 1) = (d : Int) := by rw [show (b : Int) + 1 = (d : Int) by omega]; exact IntWalk.i64_in _ (by omega)
      have hv : R = (betL q (s.data.toList.drop d)).map (fun p => (xs ++ (s[b]'hbl) :: p.1,p.2 + d)) := by
       rw [HV.out,HD.out,betL_cons,if_pos hc,hd2,hdd]
       simp only [hc2,if_true]
       rw [Option.map_map]
       congr 1
       funext p
       simp only [Function.comp]
       have := HBA.out
       rw [show p.2 + 2 + a = p.2 + d by omega]
      have HV2 := Lib.hid hv
      have HDD := Lib.hid hdd
      clear hv hc hc2 hd2 hda2 hdd
      go_wp2_with (at_builtin; go_must (
       refine wpList_append_own_wide _ rfl (.tmp 43) (.tmp 47) 70 rfl (w.heap.size + 1) 5 i5 (.int .u8 0) 1 1 und47 hi5 hz5 hs5 hb5 rfl (by decide) u7 xs.length (xs.map u8V) rfl (HB.out.row.alloc _) ⟨wr.heap.size,0,none⟩ 1 1 [.int .u8 ((s[b]'hbl).toNat : Int)] rfl rfl ?c1 ?c2 ?c3 ?c4 ?c5 ?_
       case c1 => exact one_cell wr _
       case c2 => intro u hu; rw [List.mem_singleton.1 hu]; rfl
       case c3 => unfold maxLen; omega
       case c4 => omega
       case c5 => have := HB.out.own.lt; simp; omega
       intro v9 w9 hown9 hgr9 _))
      have hmore := HB.out.more (b := d) (s[b]'hbl) rfl hown9 hgr9 (by have := HDD.out; omega) (by have := HDD.out; have := HBA.out; omega) HV2.out
      have := HDD.out
      have := HBA.out
      refine ⟨⟨_,d,rfl,hmore⟩,?_⟩
      simp only [Int.toNat_natCast]; omega
     ·have hv : betV k R = pcV k ⟨xs.toArray⟩ (b : Int) := by
       rw [HV.out,HD.out,betL_cons,if_pos hc,hd2]
       simp only [hc2,if_false]
       simp [betV]
       have := HBA.out; omega
      have g3 : (((s[b]'hbl).toNat : Int) != (q.toNat : Int)) = true := by
       rw [bne,beq_eq_false_iff_ne.2 (fun e => hc2 (UInt8.toNat_inj.1 (by omega)))]; rfl
      clear hc hc2 hd2 hda2
      go_wp2
      refine bodyPost_ret (v := pcV k ⟨xs.toArray⟩ (b : Int)) (by simp [results,Tryz.results185,go_sem,k0,k1,k2]; try omega) rfl ?_
      try rw [hv]
      refine ⟨rfl,((hB.setCell ?_ _).setCell ?_ _).setCell ?_ _⟩ <;> exact Nat.le_refl _
   ·have g1 : (((s[a]'ha).toNat : Int) == (q.toNat : Int)) = false := by
     rw [beq_eq_false_iff_ne]; exact fun e => hc (UInt8.toNat_inj.1 (by omega))
    have hv : R = (betL q (s.data.toList.drop b)).map (fun p => (xs ++ (s[a]'ha) :: p.1,p.2 + b)) := by
     rw [HV.out,HD.out,betL_cons,if_neg hc,Option.map_map]
     congr 1
     funext p
     simp only [Function.comp]
     have := HBA.out
     rw [show p.2 + 1 + a = p.2 + b by omega]
    have HV2 := Lib.hid hv
    clear hv hc
    go_wp2_with (at_builtin; go_must (
     refine wpList_append_own_wide _ rfl (.tmp 43) (.tmp 47) 70 rfl (w.heap.size + 1) 5 i5 (.int .u8 0) 1 1 und47 hi5 hz5 hs5 hb5 rfl (by decide) u7 xs.length (xs.map u8V) rfl (HB.out.row.alloc _) ⟨wr.heap.size,0,none⟩ 1 1 [.int .u8 ((s[a]'ha).toNat : Int)] rfl rfl ?c1 ?c2 ?c3 ?c4 ?c5 ?_
     case c1 => exact one_cell wr _
     case c2 => intro u hu; rw [List.mem_singleton.1 hu]; rfl
     case c3 => unfold maxLen; omega
     case c4 => omega
     case c5 => have := HB.out.own.lt; simp; omega
     intro v9 w9 hown9 hgr9 _))
    have hmore := HB.out.more (b := b) (s[a]'ha) rfl hown9 hgr9 (by have := HBA.out; omega) (by have := HBA.out; omega) HV2.out
    have := HBA.out
    refine ⟨⟨_,b,rfl,hmore⟩,?_⟩
    simp only [Int.toNat_natCast]; omega
  ·have la : ¬ ((a : Int) < (s.size : Int)) := by omega
   have hv : betV k R = pcV 0 ⟨#[]⟩ (-1) := by
    rw [HV.out,List.drop_of_length_le (by rw [← Lib.size_eq]; omega)]; rfl
   go_wp2
   refine bodyPost_ret (v := pcV 0 ⟨#[]⟩ (-1)) (by simp [results,Tryz.results185,go_sem,k0,k1,k2]; try omega) rfl ?_
   try rw [hv]
   refine ⟨rfl,((hB.setCell ?_ _).setCell ?_ _).setCell ?_ _⟩ <;> exact Nat.le_refl _
def quoS (q : UInt8) (k : Int) (s : ByteArray) : Value :=
 match s.data.toList with
 | [] => pcV 0 ⟨#[]⟩ 0
 | c :: r => if c = q then betV k ((betL q r).map (fun p => (p.1,p.2 + 1))) else pcV 0 ⟨#[]⟩ 0
theorem bet_any (s : ByteArray) (q : UInt8) (k : Int) (w : World) (hs : s.size ≤ 4294967296) (h : 0 < s.size) :
  Calls Tryz.prog 185 #[.string s,.int .u8 (q.toNat : Int),.int .i64 k] w fun e w' => e = .returned (quoS q k s) ∧ Below w.heap.size w w' := by
 have hd := List.drop_eq_getElem_cons (show 0 < s.data.toList.length by rw [← Lib.size_eq]; exact h)
 rw [List.drop_zero] at hd
 have hda : s.data.toList[0]'(by rw [← Lib.size_eq]; exact h) = s[0]'h := rfl
 rw [hda] at hd
 by_cases hq : s[0]'h = q
 ·have e : quoS q k s = betV k ((betL q (s.data.toList.drop 1)).map (fun p => (p.1,p.2 + 1))) := by
   unfold quoS; rw [hd]; simp only [hq,if_true,List.drop_succ_cons,List.drop_zero]
  rw [e]
  exact bet_yes s q k w hs h hq _ rfl
 ·have e : quoS q k s = pcV 0 ⟨#[]⟩ 0 := by
   unfold quoS; rw [hd]; simp only [hq,if_false]
  rw [e]
  exact bet_no s q k w h hq
theorem betV_agg (k : Int) (o : Option (Tx × Nat)) : ∃ a t n,betV k o = pcV a t n := by
 cases o with
 | none => exact ⟨_,_,_,rfl⟩
 | some p => exact ⟨_,_,_,rfl⟩
theorem quoS_agg (q : UInt8) (k : Int) (s : ByteArray) : ∃ a t n,quoS q k s = pcV a t n := by
 unfold quoS
 split
 ·exact ⟨_,_,_,rfl⟩
 ·split
  ·exact betV_agg _ _
  ·exact ⟨_,_,_,rfl⟩
theorem quoted_any (s : ByteArray) (w : World) (hs : s.size ≤ 4294967296) (h : 0 < s.size) :
  Calls Tryz.prog 144 #[.string s] w fun e w' => e = .returned (quoS 34 2 s) ∧ Below w.heap.size w w' := by
 have hb := fun w => bet_any s 34 2 w hs h
 obtain ⟨a,t,n,e⟩ := quoS_agg 34 2 s
 rw [e] at hb ⊢
 have hb : ∀ w,Calls Tryz.prog 185 #[.string s,.int .u8 34,.int .i64 2] w fun e w' => e = .returned (pcV a t n) ∧ Below w.heap.size w w' := hb
 have HB := Lib.hid hb
 clear hb e
 go_enter Tryz.func144,Tryz.ntmps144
 go_wp2_with (go_at_call 185; (with_reducible refine (HB.out _).mono ?_); rintro e w1 ⟨rfl,hb1⟩; have F1 := (Own3.new w).step hb1; clear hb1; obtain ⟨hB,hL,k0,k1,k2,f0,f1,f2⟩ := id F1)
 refine bodyPost_ret (v := pcV a t n) (by simp [results,Tryz.results144,go_sem,k0,k1,k2]) rfl ?_
 refine ⟨rfl,((hB.setCell ?_ _).setCell ?_ _).setCell ?_ _⟩ <;> exact Nat.le_refl _
theorem str_any (s : ByteArray) (w : World) (hs : s.size ≤ 4294967296) (h : 0 < s.size) :
  Calls Tryz.prog 145 #[.string s] w fun e w' => e = .returned (quoS 39 3 s) ∧ Below w.heap.size w w' := by
 have hb := fun w => bet_any s 39 3 w hs h
 obtain ⟨a,t,n,e⟩ := quoS_agg 39 3 s
 rw [e] at hb ⊢
 have hb : ∀ w,Calls Tryz.prog 185 #[.string s,.int .u8 39,.int .i64 3] w fun e w' => e = .returned (pcV a t n) ∧ Below w.heap.size w w' := hb
 have HB := Lib.hid hb
 clear hb e
 go_enter Tryz.func145,Tryz.ntmps145
 go_wp2_with (go_at_call 185; (with_reducible refine (HB.out _).mono ?_); rintro e w1 ⟨rfl,hb1⟩; have F1 := (Own3.new w).step hb1; clear hb1; obtain ⟨hB,hL,k0,k1,k2,f0,f1,f2⟩ := id F1)
 refine bodyPost_ret (v := pcV a t n) (by simp [results,Tryz.results145,go_sem,k0,k1,k2]) rfl ?_
 refine ⟨rfl,((hB.setCell ?_ _).setCell ?_ _).setCell ?_ _⟩ <;> exact Nat.le_refl _

def isTagL (l : Tx) : Bool := l.isEmpty || (decide (0 < rowL letB l) && decide (rowL tagB l = l.length))
theorem isTag_any (s : ByteArray) (w : World) : Calls Tryz.prog 224 #[.string s] w fun e w' => e = .returned (.bool (isTagL s.data.toList)) ∧ Below w.heap.size w w' := by
 have hr := fun w => row_letter letN letB true (Lib.hid kin_let) s w (Lib.hid (weak_ let_any))
 have hq := fun w => row_tag tagN tagB true (Lib.hid kin_tag) s w (Lib.hid (weak_ tag_any))
 have e0 : isTagL s.data.toList = (s.toList.isEmpty || (decide ((0 : Int) < (rowL letB s.data.toList : Int)) && ((rowL tagB s.data.toList : Int) == (s.size : Int)))) := by
  unfold isTagL
  rw [Lib.toList_data,← Lib.size_eq]
  congr 1
  rw [Bool.eq_iff_iff]
  simp only [Bool.and_eq_true,decide_eq_true_eq,beq_iff_eq]
  omega
 rw [e0]
 clear e0
 generalize rowL letB s.data.toList = n at *
 generalize rowL tagB s.data.toList = m at *
 have HR := Lib.hid hr
 have HQ := Lib.hid hq
 clear hr hq
 cases h0 : s.toList.isEmpty with
 | true =>
  go_enter Tryz.func224,Tryz.ntmps224
  go_wp2
  go_ret
  exact ⟨rfl,Below.refl _ _⟩
 | false =>
  by_cases hn : (0 : Int) < (n : Int)
  ·rw [decide_eq_true hn]
   cases hb : ((m : Int) == (s.size : Int)) with
   | true =>
    go_enter Tryz.func224,Tryz.ntmps224
    go_wp2_with (first
     | (go_at_call 178; (with_reducible refine (HR.out _).mono ?_); rintro e w1 ⟨rfl,hb1⟩)
     | (go_at_call 178; (with_reducible refine (HQ.out _).mono ?_); rintro e w2 ⟨rfl,hb2⟩))
    go_ret
    exact ⟨rfl,hb1.trans (hb2.mono hb1.size)⟩
   | false =>
    go_enter Tryz.func224,Tryz.ntmps224
    go_wp2_with (first
     | (go_at_call 178; (with_reducible refine (HR.out _).mono ?_); rintro e w1 ⟨rfl,hb1⟩)
     | (go_at_call 178; (with_reducible refine (HQ.out _).mono ?_); rintro e w2 ⟨rfl,hb2⟩))
    go_ret
    exact ⟨rfl,hb1.trans (hb2.mono hb1.size)⟩
  ·rw [decide_eq_false hn]
   go_enter Tryz.func224,Tryz.ntmps224
   go_wp2_with (first
    | (go_at_call 178; (with_reducible refine (HR.out _).mono ?_); rintro e w1 ⟨rfl,hb1⟩))
   go_ret
   exact ⟨rfl,hb1⟩
theorem index_ge (s sub : Tx) : -1 ≤ Lib.index s sub := by
 induction s with
 | nil => unfold Lib.index; split <;> omega
 | cons b l ih =>
  unfold Lib.index
  split
  ·omega
  ·split <;> omega
theorem index_len (s sub : Tx) (h : 0 ≤ Lib.index s sub) : (Lib.index s sub).toNat + sub.length ≤ s.length := by
 induction s with
 | nil =>
  unfold Lib.index at h ⊢
  by_cases e : sub.isEmpty
  ·rw [if_pos e]; simp at e; subst e; simp
  ·rw [if_neg e] at h; omega
 | cons b l ih =>
  unfold Lib.index at h ⊢
  by_cases e : sub.isPrefixOf (b :: l)
  ·rw [if_pos e]
   have := (List.isPrefixOf_iff_prefix.1 e).length_le
   simpa using this
  ·rw [if_neg e] at h ⊢
   by_cases e2 : (Lib.index l sub == -1) = true
   ·rw [if_pos e2] at h; omega
   ·rw [if_neg e2] at h ⊢
    have g := index_ge l sub
    have n : Lib.index l sub ≠ -1 := by simpa using e2
    have := ih (by omega)
    rw [List.length_cons]; omega
theorem cut_len (s sep : Tx) (h : (Lib.cut s sep).2.2 = true) : (Lib.cut s sep).1.length + sep.length ≤ s.length := by
 unfold Lib.cut at h ⊢
 by_cases e : 0 ≤ Lib.index s sep
 ·rw [if_pos e]
  have := index_len s sep e
  simp; omega
 ·rw [if_neg e] at h; cases h
theorem mark_core (s r t t2 : ByteArray) (b ends ok : Bool) (m : Int) (w : World) (hm : Wd m w) (hs : s.size ≤ 281474976710656)
  (hc : ∀ w,Calls Tryz.prog 189 #[.string s,.string dolT] w fun e w' => e = .returned (.tuple #[.string r,.bool b]) ∧ w' = w)
  (hk : ∀ w,Wd m w → Calls Tryz.prog 181 #[.string r,.string dolT] w fun e w' => e = .returned (.tuple #[.string t,.string t2,.bool ends]) ∧ ∃ n,w' = w.drewN n)
  (ht : ∀ w,Calls Tryz.prog 224 #[.string t] w fun e w' => e = .returned (.bool ok) ∧ Below w.heap.size w w')
  (hle : b = true → ends = true → t.size + 2 ≤ s.size) :
  Calls Tryz.prog 186 #[.string s] w fun e w' => e = .returned (.string (if (b && ends && ok) = true then s.extract 0 (t.size + 2) else ⟨#[]⟩)) ∧ Below w.heap.size w w' := by
 have HC := Lib.hid hc
 have HK := Lib.hid hk
 have HT := Lib.hid ht
 clear hc hk ht
 cases b with
 | false =>
  rw [if_neg (by simp)]
  clear hle
  go_enter Tryz.func186,Tryz.ntmps186
  go_wp2_with (first
   | (go_at_call 189; (with_reducible refine (HC.out _).mono ?_); rintro e w1 ⟨rfl,hw⟩; obtain rfl := hw.symm)
   | (go_at_call 181; (with_reducible refine (HK.out _ hm).mono ?_); rintro e w2 ⟨rfl,nq,rfl⟩))
  go_ret
  exact ⟨rfl,below_drewN_ (Below.refl _ _) _⟩
 | true =>
 cases ends with
 | false =>
  rw [if_neg (by simp)]
  clear hle
  go_enter Tryz.func186,Tryz.ntmps186
  go_wp2_with (first
   | (go_at_call 189; (with_reducible refine (HC.out _).mono ?_); rintro e w1 ⟨rfl,hw⟩; obtain rfl := hw.symm)
   | (go_at_call 181; (with_reducible refine (HK.out _ hm).mono ?_); rintro e w2 ⟨rfl,nq,rfl⟩))
  go_ret
  exact ⟨rfl,below_drewN_ (Below.refl _ _) _⟩
 | true =>
 cases ok with
 | false =>
  rw [if_neg (by simp)]
  clear hle
  go_enter Tryz.func186,Tryz.ntmps186
  go_wp2_with (first
   | (go_at_call 189; (with_reducible refine (HC.out _).mono ?_); rintro e w1 ⟨rfl,hw⟩; obtain rfl := hw.symm)
   | (go_at_call 181; (with_reducible refine (HK.out _ hm).mono ?_); rintro e w2 ⟨rfl,nq,rfl⟩)
   | (go_at_call 224; (with_reducible refine (HT.out _).mono ?_); rintro e w3 ⟨rfl,hb3⟩))
  go_ret
  exact ⟨rfl,(below_drewN_ (Below.refl _ _) _).trans (hb3.mono (by simp))⟩
 | true =>
  rw [if_pos (show (true && true && true) = true from rfl)]
  have hl := hle rfl rfl
  clear hle
  obtain ⟨n,hn⟩ : ∃ n,t.size + 2 = n := ⟨_,rfl⟩
  have e1 : IntKind.i64.wrap (1 + (t.size : Int)) = 1 + (t.size : Int) := IntWalk.i64_in _ (by omega)
  have e2 : IntKind.i64.wrap (1 + (t.size : Int) + 1) = (n : Int) := by rw [show 1 + (t.size : Int) + 1 = (n : Int) by omega]; exact IntWalk.i64_in _ (by omega)
  have c0 : (0 : Int) ≤ (n : Int) := by omega
  have c1 : (n : Int) ≤ (s.size : Int) := by omega
  rw [hn]
  clear hn hl hs
  go_enter Tryz.func186,Tryz.ntmps186
  go_wp2_with (first
   | (go_at_call 189; (with_reducible refine (HC.out _).mono ?_); rintro e w1 ⟨rfl,hw⟩; obtain rfl := hw.symm)
   | (go_at_call 181; (with_reducible refine (HK.out _ hm).mono ?_); rintro e w2 ⟨rfl,nq,rfl⟩)
   | (go_at_call 224; (with_reducible refine (HT.out _).mono ?_); rintro e w3 ⟨rfl,hb3⟩))
  go_ret
  exact ⟨rfl,(below_drewN_ (Below.refl _ _) _).trans (hb3.mono (by simp))⟩
theorem dol_core (s mk t t2 : ByteArray) (ends : Bool) (m : Int) (w : World) (hm : Wd m w) (hs : s.size ≤ 4294967296) (hle : mk.size ≤ s.size) (hle2 : ends = true → t.size ≤ s.size)
  (hmk : ∀ w,Wd m w → Calls Tryz.prog 186 #[.string s] w fun e w' => e = .returned (.string mk) ∧ Below w.heap.size w w')
  (hk : ∀ w,Wd m w → Calls Tryz.prog 181 #[.string (s.extract mk.size s.size),.string mk] w fun e w' => e = .returned (.tuple #[.string t,.string t2,.bool ends]) ∧ ∃ n,w' = w.drewN n) :
  Calls Tryz.prog 146 #[.string s] w fun e w' => e = .returned (if mk.toList.isEmpty = true then pcV 0 ⟨#[]⟩ 0 else if ends = false then pcV 0 ⟨#[]⟩ (-1) else pcV 3 t ((mk.size : Int) + t.size + mk.size)) ∧ Below w.heap.size w w' := by
 have HW0 := Lib.hid (hm.below (Own3.new w).bel)
 have HM := Lib.hid hmk
 have HK := Lib.hid hk
 clear hmk hk hm
 cases he : mk.toList.isEmpty with
 | true =>
  rw [if_pos rfl]
  go_enter Tryz.func146,Tryz.ntmps146
  go_wp2_with (first
   | (go_at_call 186; (with_reducible refine (HM.out _ HW0.out).mono ?_); rintro e w1 ⟨rfl,hb1⟩; have F1 := (Own3.new w).step hb1; have HW1 := Lib.hid (HW0.out.below hb1); clear hb1; obtain ⟨hB,hL,k0,k1,k2,f0,f1,f2⟩ := id F1))
  refine bodyPost_ret (v := pcV 0 ⟨#[]⟩ 0) (by simp [results,Tryz.results146,go_sem,k0,k1,k2]) rfl ?_
  refine ⟨rfl,((hB.setCell ?_ _).setCell ?_ _).setCell ?_ _⟩ <;> exact Nat.le_refl _
 | false =>
  rw [if_neg (by simp)]
  have c0 : (0 : Int) ≤ (mk.size : Int) := by omega
  have c1 : (mk.size : Int) ≤ (s.size : Int) := by omega
  cases ends with
  | false =>
  rw [if_pos rfl]
  go_enter Tryz.func146,Tryz.ntmps146
  go_wp2_with (first
   | (go_at_call 186; (with_reducible refine (HM.out _ HW0.out).mono ?_); rintro e w1 ⟨rfl,hb1⟩; have F1 := (Own3.new w).step hb1; have HW1 := Lib.hid (HW0.out.below hb1); clear hb1; obtain ⟨hB,hL,k0,k1,k2,f0,f1,f2⟩ := id F1)
   | (go_at_call 181; (with_reducible refine (HK.out _ HW1.out).mono ?_); rintro e w2 ⟨rfl,nq,rfl⟩; have F2 := F1.drewN nq; clear hB hL k0 k1 k2 f0 f1 f2; obtain ⟨hB,hL,k0,k1,k2,f0,f1,f2⟩ := id F2))
  refine bodyPost_ret (v := pcV 0 ⟨#[]⟩ (-1)) (by simp [results,Tryz.results146,go_sem,k0,k1,k2]) rfl ?_
  refine ⟨rfl,((hB.setCell ?_ _).setCell ?_ _).setCell ?_ _⟩ <;> exact Nat.le_refl _
  | true =>
  rw [if_neg (by simp)]
  have ht := hle2 rfl
  have hc := fun w => clone_any t w (by omega)
  have HC := Lib.hid hc
  clear hc hle2
  have e1 : IntKind.i64.wrap ((mk.size : Int) + (t.size : Int)) = (mk.size : Int) + (t.size : Int) := IntWalk.i64_in _ (by omega)
  have e2 : IntKind.i64.wrap ((mk.size : Int) + (t.size : Int) + (mk.size : Int)) = (mk.size : Int) + (t.size : Int) + (mk.size : Int) := IntWalk.i64_in _ (by omega)
  go_enter Tryz.func146,Tryz.ntmps146
  go_wp2_with (first
   | (go_at_call 186; (with_reducible refine (HM.out _ HW0.out).mono ?_); rintro e w1 ⟨rfl,hb1⟩; have F1 := (Own3.new w).step hb1; have HW1 := Lib.hid (HW0.out.below hb1); clear hb1; obtain ⟨hB,hL,k0,k1,k2,f0,f1,f2⟩ := id F1)
   | (go_at_call 181; (with_reducible refine (HK.out _ HW1.out).mono ?_); rintro e w2 ⟨rfl,nq,rfl⟩; have F2 := F1.drewN nq; clear hB hL k0 k1 k2 f0 f1 f2; obtain ⟨hB,hL,k0,k1,k2,f0,f1,f2⟩ := id F2)
   | (go_at_call 85; (with_reducible refine (HC.out _).mono ?_); rintro e w3 ⟨rfl,hb3⟩; have F3 := F2.step hb3; clear hb3 hB hL k0 k1 k2 f0 f1 f2; obtain ⟨hB,hL,k0,k1,k2,f0,f1,f2⟩ := id F3))
  refine bodyPost_ret (v := pcV 3 t ((mk.size : Int) + t.size + mk.size)) (by simp [results,Tryz.results146,go_sem,k0,k1,k2]) rfl ?_
  refine ⟨rfl,((hB.setCell ?_ _).setCell ?_ _).setCell ?_ _⟩ <;> exact Nat.le_refl _

def cutD (s : ByteArray) : Tx × Tx × Bool := Lib.cut (dolR s).data.toList [36]
def markA (s : ByteArray) : ByteArray := if (hpB s dolT && (cutD s).2.2 && isTagL (cutD s).1) = true then s.extract 0 ((cutD s).1.length + 2) else ⟨#[]⟩
theorem arr_size (l : Tx) : (⟨l.toArray⟩ : ByteArray).size = l.length := by rw [Lib.size_eq]
theorem dolR_size (s : ByteArray) (h : hpB s dolT = true) : (dolR s).size + 1 = s.size := by
 have hle : 1 ≤ s.size := by unfold hpB at h; simp at h; exact h.1
 unfold dolR; rw [if_pos h,ByteArray.size_extract]; omega
theorem dolR_le (s : ByteArray) : (dolR s).size ≤ s.size := by
 unfold dolR; split
 ·rw [ByteArray.size_extract]; omega
 ·exact Nat.le_refl _
theorem mark_any (s : ByteArray) (m : Int) (w : World) (hs : s.size < 4294967281) (hm : Wd m w) :
  Calls Tryz.prog 186 #[.string s] w fun e w' => e = .returned (.string (markA s)) ∧ Below w.heap.size w w' := by
 have h := mark_core s (dolR s) ⟨(cutD s).1.toArray⟩ ⟨(cutD s).2.1.toArray⟩ (hpB s dolT) (cutD s).2.2 (isTagL (cutD s).1) m w hm (by omega) (fun w => cutp_any s dolT w)
  (fun w hw => Tryz.strings_Cut (dolR s) dolT m w (by have := dolR_le s; omega) hw)
  (fun w => isTag_any ⟨(cutD s).1.toArray⟩ w)
  (fun h1 h2 => by
   have a := dolR_size s h1
   have b := cut_len (dolR s).data.toList [36] h2
   rw [← Lib.size_eq] at b
   have b : (cutD s).1.length + 1 ≤ (dolR s).size := b
   rw [arr_size]; omega)
 rw [arr_size] at h
 exact h
theorem markA_le (s : ByteArray) : (markA s).size ≤ s.size := by
 unfold markA; split
 ·rw [ByteArray.size_extract]; omega
 ·exact Nat.zero_le _
def cutM (s : ByteArray) : Tx × Tx × Bool := Lib.cut (s.extract (markA s).size s.size).data.toList (markA s).data.toList
def dolS (s : ByteArray) : Value :=
 if (markA s).toList.isEmpty = true then pcV 0 ⟨#[]⟩ 0 else if (cutM s).2.2 = false then pcV 0 ⟨#[]⟩ (-1) else pcV 3 ⟨(cutM s).1.toArray⟩ (((markA s).size : Int) + (⟨(cutM s).1.toArray⟩ : ByteArray).size + (markA s).size)
theorem ext_le (s : ByteArray) (a : Nat) : (s.extract a s.size).size ≤ s.size := by rw [ByteArray.size_extract]; omega
theorem cutM_len (s : ByteArray) (h : (cutM s).2.2 = true) : (⟨(cutM s).1.toArray⟩ : ByteArray).size ≤ s.size := by
 have b := cut_len _ _ h
 rw [arr_size]
 have c : (s.extract (markA s).size s.size).data.toList.length ≤ s.size := by rw [← Lib.size_eq]; exact ext_le s _
 exact Nat.le_trans (Nat.le_trans (Nat.le_add_right _ _) b) c
theorem cutM_call (s : ByteArray) (m : Int) (hs : s.size < 4294967281) (w : World) (hw : Wd m w) : Calls Tryz.prog 181 #[.string (s.extract (markA s).size s.size),.string (markA s)] w fun e w' => e = .returned (.tuple #[.string ⟨(cutM s).1.toArray⟩,.string ⟨(cutM s).2.1.toArray⟩,.bool (cutM s).2.2]) ∧ ∃ n,w' = w.drewN n := by
 have hC : Lib.cut (s.extract (markA s).size s.size).data.toList (markA s).data.toList = cutM s := rfl
 generalize cutM s = C at *
 generalize markA s = M at *
 subst hC
 exact Tryz.strings_Cut (s.extract M.size s.size) M m w (Nat.lt_of_le_of_lt (ext_le s _) hs) hw
theorem dolS_eq (s M : ByteArray) (C : Tx × Tx × Bool) (hM : markA s = M) (hC : cutM s = C) : dolS s = if M.toList.isEmpty = true then pcV 0 ⟨#[]⟩ 0 else if C.2.2 = false then pcV 0 ⟨#[]⟩ (-1) else pcV 3 ⟨C.1.toArray⟩ ((M.size : Int) + (⟨C.1.toArray⟩ : ByteArray).size + M.size) := by
 subst hM hC
 rfl
theorem dol_any (s : ByteArray) (m : Int) (w : World) (hs : s.size < 4294967281) (hm : Wd m w) :
  Calls Tryz.prog 146 #[.string s] w fun e w' => e = .returned (dolS s) ∧ Below w.heap.size w w' := by
 have hs2 : s.size ≤ 4294967296 := by omega
 have hmk := fun w hw => mark_any s m w hs hw
 have hk := fun w hw => cutM_call s m hs w hw
 have hl := cutM_len s
 have hml := markA_le s
 rw [dolS_eq s _ _ rfl rfl]
 exact dol_core s (markA s) ⟨(cutM s).1.toArray⟩ ⟨(cutM s).2.1.toArray⟩ (cutM s).2.2 m w hm hs2 hml hl hmk hk

abbrev Pc : Type := Int × ByteArray × Int
def pc0 : Pc := (0,⟨#[]⟩,0)
def pcW (p : Pc) : Value := pcV p.1 p.2.1 p.2.2
def lineP (s : ByteArray) : Pc := (0,⟨#[]⟩,if hpB s dashT = true then ((lineA s).size : Int) else 0)
def remP (s : ByteArray) : Pc := if hpB s opnT = true then (0,⟨#[]⟩,remI ((remL 1 (s.data.toList.drop 2)).map (· + 2))) else pc0
def wordP (s : ByteArray) : Pc := if rowL letB s.data.toList = 0 then pc0 else (1,smallA (s.extract 0 (rowL wordB s.data.toList)),(rowL wordB s.data.toList : Nat))
def betP (k : Int) (o : Option (Tx × Nat)) : Pc := match o with
 | some p => (k,⟨p.1.toArray⟩,(p.2 : Int))
 | none => (0,⟨#[]⟩,-1)
def quoP (q : UInt8) (k : Int) (s : ByteArray) : Pc := match s.data.toList with
 | [] => pc0
 | c :: r => if c = q then betP k ((betL q r).map (fun p => (p.1,p.2 + 1))) else pc0
def dolP (s : ByteArray) : Pc := if (markA s).toList.isEmpty = true then pc0 else if (cutM s).2.2 = false then (0,⟨#[]⟩,-1) else (3,⟨(cutM s).1.toArray⟩,((markA s).size : Int) + (⟨(cutM s).1.toArray⟩ : ByteArray).size + (markA s).size)
def numP (s : ByteArray) : Pc := if rowL digB s.data.toList = 0 then pc0 else (4,s.extract 0 (rowL numB s.data.toList),(rowL numB s.data.toList : Nat))
def parP (s : ByteArray) : Pc := if hpB s dolT = false ∨ parN s = 0 then pc0 else (5,s.extract 0 (parN s + 1),((parN s + 1 : Nat) : Int))
def signP (s : ByteArray) : Pc := match s.data.toList with
 | [] => pc0
 | c :: _ => if signI c < 0 then pc0 else (5,s.extract 0 1,1)
def rdP (i : Nat) (s : ByteArray) : Pc := match i with
 | 0 => (0,⟨#[]⟩,(rowL fiveQ s.data.toList : Nat))
 | 1 => lineP s
 | 2 => remP s
 | 3 => wordP s
 | 4 => quoP 34 2 s
 | 5 => quoP 39 3 s
 | 6 => dolP s
 | 7 => numP s
 | 8 => parP s
 | _ => signP s
def rdF (i : Nat) : FuncId := match i with
 | 0 => 140 | 1 => 141 | 2 => 142 | 3 => 143 | 4 => 144 | 5 => 145 | 6 => 146 | 7 => 147 | 8 => 148 | _ => 149
theorem rd_call (i : Nat) (hi : i < 10) (s : ByteArray) (h : 0 < s.size) (hs : s.size < 4294967281) (m : Int) (w : World) (hm : Wd m w) :
  Calls Tryz.prog (rdF i) #[.string s] w fun e w' => e = .returned (pcW (rdP i s)) ∧ Below w.heap.size w w' := by
 have hs2 : s.size ≤ 281474976710656 := Nat.le_trans (Nat.le_of_lt hs) (by decide)
 have hs3 : s.size ≤ 4294967296 := Nat.le_trans (Nat.le_of_lt hs) (by decide)
 match i,hi with
 | 0,_ => exact gap_any s w
 | 1,_ => exact line_any s m w hs hm
 | 2,_ =>
  show Calls Tryz.prog 142 #[.string s] w fun e w' => e = .returned (pcW (remP s)) ∧ Below w.heap.size w w'
  unfold remP
  cases hb : hpB s opnT with
  | true => rw [if_pos rfl]; exact remark_yes s w hs2 hb _ rfl
  | false => rw [if_neg (by simp)]; exact remark_no s w hb
 | 3,_ =>
  show Calls Tryz.prog 143 #[.string s] w fun e w' => e = .returned (pcW (wordP s)) ∧ Below w.heap.size w w'
  unfold wordP
  by_cases hb : rowL letB s.data.toList = 0
  ·rw [if_pos hb]; exact word_no s w hb
  ·rw [if_neg hb]; exact word_yes s w hs2 hb
 | 4,_ =>
  have e : pcW (rdP 4 s) = quoS 34 2 s := by
   show pcW (quoP 34 2 s) = _
   unfold quoP quoS
   cases s.data.toList with
   | nil => rfl
   | cons c r =>
    simp only
    split
    ·cases betL 34 r <;> rfl
    ·rfl
  rw [e]; exact quoted_any s w hs3 h
 | 5,_ =>
  have e : pcW (rdP 5 s) = quoS 39 3 s := by
   show pcW (quoP 39 3 s) = _
   unfold quoP quoS
   cases s.data.toList with
   | nil => rfl
   | cons c r =>
    simp only
    split
    ·cases betL 39 r <;> rfl
    ·rfl
  rw [e]; exact str_any s w hs3 h
 | 6,_ =>
  have e : pcW (rdP 6 s) = dolS s := by
   show pcW (dolP s) = _
   unfold dolP dolS
   split
   ·rfl
   ·split <;> rfl
  rw [e]; exact dol_any s m w hs hm
 | 7,_ =>
  show Calls Tryz.prog 147 #[.string s] w fun e w' => e = .returned (pcW (numP s)) ∧ Below w.heap.size w w'
  unfold numP
  by_cases hb : rowL digB s.data.toList = 0
  ·rw [if_pos hb]; exact num_no s w hb
  ·rw [if_neg hb]; exact num_yes s w hs2 hb
 | 8,_ =>
  have p := param_any s w hs2
  have e : pcW (rdP 8 s) = if hpB s dolT = false ∨ parN s = 0 then pcV 0 ⟨#[]⟩ 0 else pcV 5 (s.extract 0 (parN s + 1)) ((parN s + 1 : Nat) : Int) := by
   show pcW (parP s) = _
   unfold parP
   split <;> rfl
  rw [e]; exact p
 | 9,_ =>
  have p := sign_any s h w
  have hd := List.drop_eq_getElem_cons (show 0 < s.data.toList.length by rw [← Lib.size_eq]; exact h)
  rw [List.drop_zero] at hd
  have hda : s.data.toList[0]'(by rw [← Lib.size_eq]; exact h) = s[0]'h := rfl
  rw [hda] at hd
  have e : pcW (rdP 9 s) = if signI (s[0]'h) < 0 then pcV 0 ⟨#[]⟩ 0 else pcV 5 (s.extract 0 1) 1 := by
   show pcW (signP s) = _
   unfold signP
   rw [hd]
   simp only
   split <;> rfl
  rw [e]; exact p
theorem rd_enter (i : Nat) (hi : i < 10) (args : Array Value) (w : World) : Sem.run Tryz.prog (callFunc (rdF i) args) w = .ok (.enter (rdF i) args) w := by
 match i,hi with
 | 0,_ => show Sem.run Tryz.prog (callFunc 140 args) w = _; go_simp; rfl
 | 1,_ => show Sem.run Tryz.prog (callFunc 141 args) w = _; go_simp; rfl
 | 2,_ => show Sem.run Tryz.prog (callFunc 142 args) w = _; go_simp; rfl
 | 3,_ => show Sem.run Tryz.prog (callFunc 143 args) w = _; go_simp; rfl
 | 4,_ => show Sem.run Tryz.prog (callFunc 144 args) w = _; go_simp; rfl
 | 5,_ => show Sem.run Tryz.prog (callFunc 145 args) w = _; go_simp; rfl
 | 6,_ => show Sem.run Tryz.prog (callFunc 146 args) w = _; go_simp; rfl
 | 7,_ => show Sem.run Tryz.prog (callFunc 147 args) w = _; go_simp; rfl
 | 8,_ => show Sem.run Tryz.prog (callFunc 148 args) w = _; go_simp; rfl
 | 9,_ => show Sem.run Tryz.prog (callFunc 149 args) w = _; go_simp; rfl
def rdRow : Array Value := ((List.range 10).map (fun i => Value.func (.func (rdF i)) #[] #[])).toArray
theorem readers_any (w : World) : Calls Tryz.prog 119 #[] w fun e w' => e = .returned (.slice (some ⟨w.heap.size,0,none⟩) 10 10) ∧ w' = w.alloc (.cells rdRow 152) := by
 go_enter Tryz.func119,Tryz.ntmps119
 go_wp2
 go_ret
 exact ⟨rfl,rfl⟩

def Sized (z : Int) (n : Nat) : Prop := z = 0 ∨ z = -1 ∨ (1 ≤ z ∧ z ≤ (n : Int))
theorem sized_nat (k n : Nat) (h : k ≤ n) : Sized (k : Int) n := by unfold Sized; omega
theorem sized_row (p : UInt8 → Bool) (s : ByteArray) : Sized (rowL p s.data.toList : Nat) s.size := sized_nat _ _ (by rw [Lib.size_eq]; exact rowL_le p _)
theorem cut_le (s sep : Tx) : (Lib.cut s sep).1.length ≤ s.length := by
 unfold Lib.cut
 split
 ·simp; omega
 ·exact Nat.le_refl _
theorem remL_le (d : Nat) (l : Tx) : ∀ n,remL d l = some n → n ≤ l.length := by
 fun_induction remL d l with
 | case1 l => intro n h; simp at h; omega
 | case2 d => intro n h; simp at h
 | case3 d c r hc ih =>
  intro n h
  rw [Option.map_eq_some_iff] at h
  obtain ⟨k,hk,rfl⟩ := h
  have := ih k hk
  have h2 := congrArg List.length hc
  rw [List.length_drop] at this
  simp at h2 ⊢
  omega
 | case4 d c r h1 hc ih =>
  intro n h
  rw [Option.map_eq_some_iff] at h
  obtain ⟨k,hk,rfl⟩ := h
  have := ih k hk
  have h2 := congrArg List.length hc
  rw [List.length_drop] at this
  simp at h2 ⊢
  omega
 | case5 d c r h1 h2 ih =>
  intro n h
  rw [Option.map_eq_some_iff] at h
  obtain ⟨k,hk,rfl⟩ := h
  have := ih k hk
  simp; omega
theorem betL_le (q : UInt8) (l : Tx) : ∀ p,betL q l = some p → p.2 ≤ l.length := by
 intro p
 induction hn : l.length using Nat.strongRecOn generalizing l p with
 | _ n ih =>
  intro h
  cases l with
  | nil => cases h
  | cons c r =>
   rw [betL_cons] at h
   split at h
   ·cases r with
    | nil => simp at h; subst h; simp at hn ⊢; omega
    | cons d r2 =>
     simp only at h
     split at h
     ·rw [Option.map_eq_some_iff] at h
      obtain ⟨k,hk,rfl⟩ := h
      have := ih r2.length (by simp at hn; omega) r2 k rfl hk
      simp at hn ⊢; omega
     ·simp at h; subst h; simp at hn ⊢; omega
   ·rw [Option.map_eq_some_iff] at h
    obtain ⟨k,hk,rfl⟩ := h
    have := ih r.length (by simp at hn; omega) r k rfl hk
    simp at hn ⊢; omega
theorem sized_quo (q : UInt8) (k : Int) (s : ByteArray) : Sized (quoP q k s).2.2 s.size := by
 rw [Lib.size_eq]
 unfold quoP
 cases s.data.toList with
 | nil => exact .inl rfl
 | cons c r =>
  simp only
  split
  ·cases hb : betL q r with
   | none => exact .inr (.inl rfl)
   | some p =>
    have := betL_le q r p hb
    refine sized_nat (p.2 + 1) _ ?_
    rw [List.length_cons]; omega
  ·exact .inl rfl
theorem cut_dol (s M : ByteArray) (C : Tx × Tx × Bool) (hC : Lib.cut (s.extract M.size s.size).data.toList M.data.toList = C) (hb : C.2.2 = true) : C.1.length + M.size ≤ s.size - M.size := by
 have c : (s.extract M.size s.size).data.toList.length = s.size - M.size := by rw [ext_list,List.length_drop,← Lib.size_eq]
 have b := cut_len (s.extract M.size s.size).data.toList M.data.toList (by rw [hC]; exact hb)
 rw [c,hC,← Lib.size_eq] at b
 exact b
theorem sized_dol (s : ByteArray) : Sized (dolP s).2.2 s.size := by
 unfold dolP
 split
 ·exact .inl rfl
 ·split
  ·exact .inr (.inl rfl)
  ·rename_i h1 h2
   have hb : (cutM s).2.2 = true := by simpa using h2
   have e := cut_dol s (markA s) (cutM s) rfl hb
   have hm := markA_le s
   refine sized_nat ((markA s).size + (⟨(cutM s).1.toArray⟩ : ByteArray).size + (markA s).size) _ ?_
   rw [arr_size (cutM s).1]
   generalize (cutM s).1.length = x at *
   generalize (markA s).size = y at *
   omega
theorem rd_sized (i : Nat) (s : ByteArray) (h : 0 < s.size) : Sized (rdP i s).2.2 s.size := by
 match i with
 | 0 => exact sized_row _ s
 | 1 =>
  show Sized (lineP s).2.2 s.size
  unfold lineP
  simp only
  split
  ·refine sized_nat _ _ ?_
   unfold lineA
   rw [arr_size,Lib.size_eq]
   exact cut_le _ _
  ·exact .inl rfl
 | 2 =>
  show Sized (remP s).2.2 s.size
  unfold remP
  split
  ·rename_i hb
   have h2 : 2 ≤ s.size := by unfold hpB at hb; simp at hb; exact hb.1
   simp only
   cases hr : remL 1 (s.data.toList.drop 2) with
   | none => exact .inr (.inl rfl)
   | some n =>
    have := remL_le _ _ n hr
    rw [List.length_drop,← Lib.size_eq] at this
    exact sized_nat (n + 2) _ (by omega)
  ·exact .inl rfl
 | 3 =>
  show Sized (wordP s).2.2 s.size
  unfold wordP
  split
  ·exact .inl rfl
  ·exact sized_row _ s
 | 4 => exact sized_quo _ _ s
 | 5 => exact sized_quo _ _ s
 | 6 => exact sized_dol s
 | 7 =>
  show Sized (numP s).2.2 s.size
  unfold numP
  split
  ·exact .inl rfl
  ·exact sized_row _ s
 | 8 =>
  show Sized (parP s).2.2 s.size
  unfold parP
  split
  ·exact .inl rfl
  ·rename_i hb
   have h1 : hpB s dolT = true := by
    cases hc : hpB s dolT with
    | true => rfl
    | false => exact absurd (.inl hc) hb
   have a := dolR_size s h1
   have b : parN s ≤ (dolR s).size := by rw [Lib.size_eq]; exact rowL_le _ _
   refine sized_nat (parN s + 1) _ ?_
   generalize parN s = x at *
   generalize (dolR s).size = y at *
   omega
 | n + 9 =>
  show Sized (signP s).2.2 s.size
  unfold signP
  split
  ·exact .inl rfl
  ·split
   ·exact .inl rfl
   ·exact sized_nat 1 _ h

abbrev Tok : Type := Int × ByteArray × Int
def tokCells (t : Tok) : List Value := [.int .i64 t.1,.string t.2.1,.int .i64 t.2.2]
def tokRow (l : List Tok) : List Value := l.flatMap tokCells
def findR : Nat → ByteArray → Option Pc
 | 0,_ => none
 | k + 1,s => if (rdP (9 - k) s).2.2 = 0 then findR k s else some (rdP (9 - k) s)
theorem findR_at (i : Nat) (hi : i < 10) (s : ByteArray) : findR (10 - i) s = if (rdP i s).2.2 = 0 then findR (10 - (i + 1)) s else some (rdP i s) := by
 have e1 : 10 - i = (9 - i) + 1 := by omega
 have e2 : 9 - (9 - i) = i := by omega
 have e3 : 10 - (i + 1) = 9 - i := by omega
 rw [e1,findR,e2,e3]
def scanN : Nat → ByteArray → Nat → List Tok → List Tok × Int × Int
 | 0,_,_,acc => (acc,0,0)
 | f + 1,s,a,acc =>
  if s.size ≤ a then (acc,0,0) else match findR 10 (s.extract a s.size) with
  | none => ([],7,(a : Int))
  | some p => if p.2.2 = -1 then ([],6,(a : Int)) else scanN f s (a + p.2.2.toNat) (if p.1 = 0 then acc else acc ++ [(p.1,p.2.1,(a : Int))])
structure ScI (m : Int) (w : World) (l : List Tok) (v : Value) (wr : World) : Prop where
 bel : Below w.heap.size w wr
 wd : Wd m wr
 lt : w.heap.size < wr.heap.size
 rdr : wr.heap[w.heap.size]? = some (.cells rdRow 152 (0,0))
 row : wr.ownsRow (w.heap.size + 1) 118 3 v l.length (tokRow l)
 glt : 1 < w.heap.size
theorem ownsRow_below {B : Nat} {e : TypeId} {z n : Nat} {v : Value} {xs : List Value} {w w2 : World} (h : w.ownsRow B e z v n xs) (b : Below w.heap.size w w2) : w2.ownsRow B e z v n xs := by
 refine ⟨h.1,?_⟩
 rcases h.2 with h1 | ⟨g,cap,cur,h1,h2,h3,h4⟩
 ·exact .inl h1
 ·refine .inr ⟨g,cap,cur,h1,h2,?_,h4⟩
  rw [b.block g (Array.getElem?_eq_some_iff.1 h3).1]
  exact h3
theorem ScI.start {m : Int} {w : World} (h : Wd m w) : ScI m w [] (.slice none 0 0) (w.alloc (.cells rdRow 152)) := by
 have b : Below w.heap.size w (w.alloc (.cells rdRow 152)) := (Below.refl _ _).alloc (Nat.le_refl _) _
 exact ⟨b,h.below b,by simp,by show (w.heap.push _)[w.heap.size]? = _; simp,World.ownsRow_nil _ _ _ _,h.lt⟩
theorem ScI.step {m : Int} {w wr w2 : World} {l : List Tok} {v : Value} (h : ScI m w l v wr) (b : Below wr.heap.size wr w2) : ScI m w l v w2 :=
 ⟨h.bel.trans (b.mono (Nat.le_of_lt h.lt)),h.wd.below b,Nat.lt_of_lt_of_le h.lt b.size,by rw [b.block _ h.lt]; exact h.rdr,ownsRow_below h.row b,h.glt⟩
theorem ScI.more {m : Int} {w wr w2 : World} {l : List Tok} {v v2 : Value} (h : ScI m w l v wr) (t : Tok) (g : wr.grownBy w2 v.ownBlock)
  (r : w2.ownsRow (w.heap.size + 1) 118 3 v2 (l.length + 1) (tokRow l ++ tokCells t)) : ScI m w (l ++ [t]) v2 w2 := by
 have b : Below (w.heap.size + 1) wr w2 := (Below.refl _ _).grown g (by have := h.lt; omega) (fun k hk => (World.ownsRow.lt h.row k hk).1)
 have hw : 1 < w.heap.size + 1 := Nat.lt_succ_of_lt h.glt
 refine ⟨h.bel.trans (b.mono (Nat.le_succ _)),?_,Nat.lt_of_lt_of_le h.lt b.size,?_,?_,h.glt⟩
 ·unfold Wd
  rw [b.cell (p := ⟨1,0,none⟩) hw]
  exact h.wd
 ·rw [b.block _ (Nat.lt_succ_self _)]; exact h.rdr
 ·rw [List.length_append,show tokRow (l ++ [t]) = tokRow l ++ tokCells t by simp [tokRow]]
  exact r
theorem ScI.reader {m : Int} {w wr : World} {l : List Tok} {v : Value} (h : ScI m w l v wr) (i : Nat) (hi : i < 10) : wr.cell? ⟨w.heap.size,i,none⟩ = some (.func (.func (rdF i)) #[] #[]) := by
 have e : rdRow[i]? = some (.func (.func (rdF i)) #[] #[]) := by simp [rdRow,hi]
 unfold World.cell?
 rw [h.rdr]
 simpa using e

def TR (w : World) (v : Value) (l : List Tok) : Prop :=
 (∃ A cap,v = .slice A 0 cap ∧ l = []) ∨
 ∃ h off cap,v = .slice (some ⟨h,off,none⟩) l.length cap ∧ l.length ≤ cap ∧ ∀ (i : Nat) (t : Tok),l[i]? = some t →
  w.cell? ⟨h,off + i * 3,none⟩ = some (.int .i64 t.1) ∧ w.cell? ⟨h,off + i * 3 + 1,none⟩ = some (.string t.2.1) ∧ w.cell? ⟨h,off + i * 3 + 2,none⟩ = some (.int .i64 t.2.2)
theorem tokRow_get (l : List Tok) : ∀ (i : Nat) (t : Tok),l[i]? = some t → (tokRow l)[i * 3]? = some (.int .i64 t.1) ∧ (tokRow l)[i * 3 + 1]? = some (.string t.2.1) ∧ (tokRow l)[i * 3 + 2]? = some (.int .i64 t.2.2) := by
 induction l with
 | nil => intro i t h; simp at h
 | cons x r ih =>
  intro i t h
  cases i with
  | zero => simp at h; subst h; exact ⟨rfl,rfl,rfl⟩
  | succ i =>
   have h' : r[i]? = some t := by simpa using h
   obtain ⟨a,b,c⟩ := ih i t h'
   have e : tokRow (x :: r) = Value.int .i64 x.1 :: Value.string x.2.1 :: Value.int .i64 x.2.2 :: tokRow r := rfl
   rw [e,show (i + 1) * 3 = i * 3 + 1 + 1 + 1 by omega]
   exact ⟨by simpa using a,by simpa using b,by simpa using c⟩
theorem TR.own {w : World} {B : Nat} {v : Value} {l : List Tok} (h : w.ownsRow B 118 3 v l.length (tokRow l)) : TR w v l := by
 rcases h.2 with ⟨rfl,hz⟩ | ⟨g,cap,cur,rfl,hb,hh,hc,hm,hs,ht⟩
 ·exact .inl ⟨none,0,rfl,List.eq_nil_of_length_eq_zero hz⟩
 ·refine .inr ⟨g,0,cap,rfl,hc,fun i t hi => ?_⟩
  obtain ⟨a,b,c⟩ := tokRow_get l i t hi
  have hcell := h.cells (g := g) rfl
  have e1 := hcell _ _ a
  have e2 := hcell _ _ b
  have e3 := hcell _ _ c
  rw [Addr.add_lit,Nat.zero_add] at e1 e2 e3
  rw [Nat.zero_add]
  exact ⟨e1,e2,e3⟩
theorem TR.keep {w w' : World} {v : Value} {l : List Tok} (h : TR w v l) (hk : ∀ p : Addr,(w.cell? p).isSome = true → w'.cell? p = w.cell? p) : TR w' v l := by
 rcases h with h | ⟨h,off,cap,e,hc,hm⟩
 ·exact .inl h
 ·refine .inr ⟨h,off,cap,e,hc,fun i t hi => ?_⟩
  obtain ⟨a,b,c⟩ := hm i t hi
  exact ⟨(hk _ (by rw [a]; rfl)).trans a,(hk _ (by rw [b]; rfl)).trans b,(hk _ (by rw [c]; rfl)).trans c⟩
theorem TR.below {w w' : World} {v : Value} {l : List Tok} (h : TR w v l) (hb : Below w.heap.size w w') : TR w' v l :=
 h.keep fun p hp => by
  obtain ⟨u,hu⟩ := Option.isSome_iff_exists.1 hp
  exact hb.cell (World.block_lt_of_cell? w p hu)
theorem TR.form {w : World} {v : Value} {l : List Tok} (h : TR w v l) : ∃ a cap,v = .slice a l.length cap := by
 rcases h with ⟨A,cap,rfl,rfl⟩ | ⟨_,_,_,rfl,_⟩
 ·exact ⟨_,_,rfl⟩
 ·exact ⟨_,_,rfl⟩
def Alike (pl : Bool) (a b : List Tok) : Prop := a.length = b.length ∧ ∀ (i : Nat) (x y : Tok),a[i]? = some x → b[i]? = some y → x.1 = y.1 ∧ x.2.1 = y.2.1 ∧ (pl = true → x.2.2 = y.2.2)
theorem Alike.refl (pl : Bool) (a : List Tok) : Alike pl a a := ⟨rfl,fun i x y h1 h2 => by rw [h1] at h2; cases h2; exact ⟨rfl,rfl,fun _ => rfl⟩⟩

end Go.Proofs.YtgdabkpahmlkpaaGreatDoor
