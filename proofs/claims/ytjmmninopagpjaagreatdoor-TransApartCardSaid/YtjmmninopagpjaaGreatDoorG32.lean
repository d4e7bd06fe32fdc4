/- Ted Tee Tef Teg Teh Tei Tej Tek -/
import Derived.Test.YtjmmninopagpjaaGreatDoorG22
import Derived.Test.YtjmmninopagpjaaGreatDoorG24
import Derived.Test.YtjmmninopagpjaaGreatDoorG26
import Derived.Test.YtjmmninopagpjaaGreatDoorG31
import Derived.Test.YtjmmninopagpjaaGreatDoorG15
import Derived.Deep.RegionWith
import Derived.Deep.RegionHeld
import Derived.Laws.Rows
import Derived.Lib.ItoaLen
import Derived.Test.YtjmmninopagpjaaGreatDoorG1
set_option linter.unusedSimpArgs false
set_option linter.unusedVariables false
namespace Go.Proofs.YtjmmninopagpjaaGreatDoor
open Go.ChangeShapes Go.WideShapes Go.ChangeAt Go.RowKit
set_option maxRecDepth 100000
set_option linter.unusedVariables false
set_option linter.unusedSimpArgs false

def fmCells (f : Fm) : List Value := [.int .i64 f.1,.bool f.2.1,.string f.2.2]
def formCells : Array Value := (formsC.flatMap fmCells).toArray
structure Wq (m : Int) (w : World) : Prop where
 wd : Wd m w
 tab : Lib.TabIs Tryz.prog w "internal/strconv.uint64pow10" .u64 Lib.pow10Tab
 frm : ∃ t fr,w.heap[0]? = some (.cells formCells t fr)
 err : ∃ ev,w.cell? ⟨3,0,none⟩ = some ev ∧ (ev = .nilIface ∨ ∃ te pe,ev = .iface te pe)
theorem tab_below {w w' : World} {name : String} {k : IntKind} {zs : List Int} (h : Lib.TabIs Tryz.prog w name k zs) (b : Below w.heap.size w w') : Lib.TabIs Tryz.prog w' name k zs := by
 unfold Lib.TabIs World.var? at *
 cases hg : Tryz.prog.globalNamed name with
 | none => simp [hg] at h
 | some g =>
  simp only [hg,Option.bind_some] at h ⊢
  have hlt : g < w.heap.size := by
   rcases Nat.lt_or_ge g w.heap.size with h' | h'
   ·exact h'
   ·rw [Array.getElem?_eq_none h'] at h; simp at h
  rw [b.block g hlt]
  exact h
theorem Wq.below {m : Int} {w w' : World} (h : Wq m w) (b : Below w.heap.size w w') : Wq m w' := by
 obtain ⟨t,fr,hf⟩ := h.frm
 obtain ⟨ev,h1,h2⟩ := h.err
 exact ⟨h.wd.below b,tab_below h.tab b,⟨t,fr,(b.block _ (Array.getElem?_eq_some_iff.1 hf).1).trans hf⟩,ev,(b.cell (p := ⟨3,0,none⟩) (World.block_lt_of_cell? w _ h1)).trans h1,h2⟩
theorem below_grow (w : World) (k : Nat) (os : Array Obj) : Below w.heap.size w (Go.Sort.grow (w.drewN k) os) := by
 refine ⟨rfl,rfl,rfl,?_,fun i hi => ?_⟩
 ·show w.heap.size ≤ (w.heap ++ os).size
  rw [Array.size_append]; omega
 ·show (w.heap ++ os)[i]? = _
  rw [Array.getElem?_append_left hi]
theorem itoa_any (n : Int) (m : Int) (w : World) (h0 : -9223372036854775808 ≤ n) (h1 : n ≤ 9223372036854775807) (h : Wq m w) :
  Calls Tryz.prog 98 #[.int .i64 n] w fun e w' => e = .returned (.string (bb (Lib.itoa n))) ∧ Below w.heap.size w w' :=
 (Tryz.strconv_Itoa n h0 h1 w h.tab).mono fun e w' ⟨he,k,os,hw⟩ => ⟨he,by rw [hw]; exact below_grow w k os⟩
abbrev fmV (f : Fm) : Value := .agg #[.int .i64 f.1,.bool f.2.1,.string f.2.2]
abbrev cmV (c : Cm) : Value := .agg #[.int .i64 c.1,.string c.2.1,.int .i64 c.2.2.1,.int .i64 c.2.2.2.1,.bool c.2.2.2.2]
abbrev tkV (t : Tok) : Value := .agg #[.int .i64 t.1,.string t.2.1,.int .i64 t.2.2]
def i64B (n : Int) : Prop := -9223372036854775808 ≤ n ∧ n ≤ 9223372036854775807
theorem fill_keep {g : Nat} {T : ByteArray} {K V : Int} {m : Int} {W w w' : World} (hS : w.cell? ⟨g,1,none⟩ = some (.string T) ∧ w.cell? ⟨g,2,none⟩ = some (.int .i64 K) ∧ w.cell? ⟨g,3,none⟩ = some (.int .i64 V) ∧ Below W.heap.size W w ∧ Wq m w) (b : Below w.heap.size w w') :
  w'.cell? ⟨g,1,none⟩ = some (.string T) ∧ w'.cell? ⟨g,2,none⟩ = some (.int .i64 K) ∧ w'.cell? ⟨g,3,none⟩ = some (.int .i64 V) ∧ Below W.heap.size W w' ∧ Wq m w' := by
 obtain ⟨h1,h2,h3,h4,h5⟩ := hS
 have hl : g < w.heap.size := World.block_lt_of_cell? w _ h1
 exact ⟨(b.cell (p := ⟨g,1,none⟩) hl).trans h1,(b.cell (p := ⟨g,2,none⟩) hl).trans h2,(b.cell (p := ⟨g,3,none⟩) hl).trans h3,h4.trans (b.mono h4.size),h5.below b⟩
set_option maxHeartbeats 4000000 in
theorem fill_any (f : Fm) (c : Cm) (m : Int) (w : World) (hw : Wq m w) (hk : i64B c.2.2.1) (hv : i64B c.2.2.2.1) (hwf : wfT f.2.2.data.toList = true) (hsz : f.2.2.size ≤ 100) (hR : (fillC f c).length ≤ 1000000) :
  Calls Tryz.prog 75 #[fmV f,cmV c] w fun e w' => e = .returned (.string (bb (fillC f c))) ∧ Below w.heap.size w w' := by
 obtain ⟨fk,fb,ft⟩ := f
 obtain ⟨ck,T,K0,V0,kd⟩ := c
 have HW := Lib.hid hw
 have HI : Hid (∀ W,Wq m W → Calls Tryz.prog 98 #[.int .i64 K0] W fun e w' => e = .returned (.string (bb (Lib.itoa K0))) ∧ Below W.heap.size W w') := Lib.hid (fun W hW => itoa_any K0 m W hk.1 hk.2 hW)
 have HJ : Hid (∀ W,Wq m W → Calls Tryz.prog 98 #[.int .i64 V0] W fun e w' => e = .returned (.string (bb (Lib.itoa V0))) ∧ Below W.heap.size W w') := Lib.hid (fun W hW => itoa_any V0 m W hv.1 hv.2 hW)
 have HRR := Lib.hid (fun p o cap W h ho hne B hB => rreplace_any p o cap T (bb (Lib.itoa K0)) (bb (Lib.itoa V0)) ft W h ho hne B hB hwf (Nat.le_trans hsz (by decide)) _ (by rw [bb_list,bb_list]; rfl) hR)
 clear hw hk hv hwf hsz hR
 go_enter Tryz.func75,Tryz.ntmps75
 go_wp2
 obtain ⟨W1,hW1⟩ : ∃ W1,(w.alloc (.cells #[.int .i64 fk,.bool fb,.string ft] 107)).alloc (.cells #[.int .i64 ck,.string T,.int .i64 K0,.int .i64 V0,.bool kd] 34) = W1 := ⟨_,rfl⟩
 have hbl : Blk W1 (w.heap.size + 1) 34 #[.int .i64 ck,.string T,.int .i64 K0,.int .i64 V0,.bool kd] := by rw [← hW1]; exact Blk.newAt _ _ _ _ (by simp)
 have hbf : Blk W1 w.heap.size 107 #[.int .i64 fk,.bool fb,.string ft] := by rw [← hW1]; exact (Blk.new _ _ _).alloc _
 have hb1 : Below w.heap.size w W1 := by rw [← hW1]; exact ((Below.refl _ _).alloc (Nat.le_refl _) _).alloc (by simp) _
 rw [hW1]
 have c1 : W1.cell? ⟨w.heap.size + 1,1,none⟩ = some (.string T) := hbl.cell 1
 have c2 : W1.cell? ⟨w.heap.size + 1,2,none⟩ = some (.int .i64 K0) := hbl.cell 2
 have c3 : W1.cell? ⟨w.heap.size + 1,3,none⟩ = some (.int .i64 V0) := hbl.cell 3
 have HBL := Lib.hid hbl
 have HBF := Lib.hid hbf
 have HB1 := Lib.hid hb1
 have HWA : Hid (Wq m W1.drew) := Lib.hid ((HW.out.below hb1).below ((Below.refl _ _).drew))
 clear hW1 hbl hbf hb1
 refine wp_region_held_drew (S := fun w' => w'.cell? ⟨w.heap.size + 1,1,none⟩ = some (.string T) ∧ w'.cell? ⟨w.heap.size + 1,2,none⟩ = some (.int .i64 K0) ∧ w'.cell? ⟨w.heap.size + 1,3,none⟩ = some (.int .i64 V0) ∧ Below W1.heap.size W1 w' ∧ Wq m w') (by kernel_rfl) ?_ (fun hS => ?_)
 ·exact ⟨c1,c2,c3,(Below.refl _ _).drew,HWA.out⟩
 try dsimp only at hS
 refine tkY 0 ?_ rfl hS ?_ ?_;rotate_left
 ·intro wz hSz;obtain ⟨hz1,hz2,hz3,hz4,hz5⟩ := hSz;go_simp;all_goals with_reducible rfl
 (try simp only [Act.put,pu]);refine tkY 1 ?_ rfl hS ?_ ?_;rotate_left
 ·intro wz hSz;obtain ⟨hz1,hz2,hz3,hz4,hz5⟩ := hSz;go_simp;all_goals with_reducible rfl
 (try simp only [Act.put,pu]);refine tkY 2 ?_ rfl hS ?_ ?_;rotate_left
 ·intro wz hSz;obtain ⟨hz1,hz2,hz3,hz4,hz5⟩ := hSz;go_simp;all_goals with_reducible rfl
 (try simp only [Act.put,pu]);refine tkY 3 ?_ rfl hS ?_ ?_;rotate_left
 ·intro wz hSz;obtain ⟨hz1,hz2,hz3,hz4,hz5⟩ := hSz;go_simp;all_goals with_reducible rfl
 (try simp only [Act.put,pu]);refine tkY 5 ?_ rfl hS ?_ ?_;rotate_left
 ·intro wz hSz;obtain ⟨hz1,hz2,hz3,hz4,hz5⟩ := hSz;go_simp;all_goals with_reducible rfl
 (try simp only [Act.put,pu]);refine tkY 6 ?_ rfl hS ?_ ?_;rotate_left
 ·intro wz hSz;obtain ⟨hz1,hz2,hz3,hz4,hz5⟩ := hSz;go_simp;all_goals with_reducible rfl
 try simp only [Act.put,pu]
 refine wpAnyH_ready (rs := [4]) (by kernel_rfl) (by simp) (AllReadyH.cons rfl (fun K hK => ?_) AllReadyH.nil)
 go_simp
 (go_at_call 98; refine (HI.out _ hS.2.2.2.2).mono ?_; rintro e w2 ⟨rfl,hb⟩)
 refine hK.out _ _ ?_ (fun hSn => ?_)
 ·exact fill_keep hS hb
 clear hK K hS
 have hS := hSn
 clear hSn
 try dsimp only at hS
 try simp only [Act.put,pu]
 refine wpAnyH_ready (rs := [7]) (by kernel_rfl) (by simp) (AllReadyH.cons rfl (fun K hK => ?_) AllReadyH.nil)
 go_simp
 (go_at_call 98; refine (HJ.out _ hS.2.2.2.2).mono ?_; rintro e w2 ⟨rfl,hb⟩)
 refine hK.out _ _ ?_ (fun hSn => ?_)
 ·exact fill_keep hS hb
 clear hK K hS
 have hS := hSn
 clear hSn
 try dsimp only at hS
 try simp only [Act.put,pu]
 refine wpAnyH_ready (rs := [8]) (by kernel_rfl) (by simp) (AllReadyH.cons rfl (fun K hK => ?_) AllReadyH.nil)
 go_simp
 skip
 refine hK.out _ _ ?_ (fun hSn => ?_)
 ·exact fill_keep hS ((Below.refl _ _).alloc (Nat.le_refl _) _)
 clear hK K hS
 have hS := hSn
 clear hSn
 try dsimp only at hS
 try simp only [Act.put,pu]
 refine wpAnyH_ready (rs := [9]) (by kernel_rfl) (by simp) (AllReadyH.cons rfl (fun K hK => ?_) AllReadyH.nil)
 go_simp
 (go_at_call 97; refine (new_any _ T (bb (Lib.itoa K0)) (bb (Lib.itoa V0)) _ (Blk.new _ _ _)).mono ?_; rintro e w4 ⟨p,o,cap,rfl,h4,ho4,hne4,hp4,hb⟩; have hq4 := hS.2.2.2.1.size)
 refine hK.out _ _ ?_ (fun hSn => ?_)
 ·exact fill_keep hS hb
 clear hK K hS
 have hS := hSn
 clear hSn
 try dsimp only at hS
 (try simp only [Act.put,pu]);refine tkY 10 ?_ rfl hS ?_ ?_;rotate_left
 ·intro wz hSz;obtain ⟨hz1,hz2,hz3,hz4,hz5⟩ := hSz;go_simp;all_goals with_reducible rfl
 try simp only [Act.put,pu]
 refine wpAnyH_done (by kernel_rfl) ?_ _
 have hf4 := HBF.out.below hS.2.2.2.1 (Blk.lt HBF.out)
 have cf : w4.cell? ⟨w.heap.size,2,none⟩ = some (.string ft) := hf4.cell 2
 have HBB := Lib.hid (HB1.out.trans (hS.2.2.2.1.mono HB1.out.size))
 have HRP := Lib.hid (HRR.out p o cap w4 h4 ho4 hne4 w.heap.size (by have := HB1.out.size; first | omega | (simp at hp4 hq4; omega)))
 clear hf4 h4 ho4 hne4 hp4 hq4 hS
 go_wp2_with (go_at_call 99; (refine HRP.out.mono ?_); rintro e w5 ⟨rfl,hb5⟩; have HB5 := Lib.hid hb5; clear hb5)
 go_ret
 exact ⟨rfl,HBB.out.trans HB5.out⟩

def kwL (s : ByteArray) : List Tok := [(1,⟨#[102,114,111,109]⟩,0),(1,s,0)]
theorem kw_part (s : ByteArray) : partB (kwL s) 1 = !kwB s := by
 show ((1 : Int) == 2 || (1 : Int) == 1 && !keysL.contains s.toList) = _
 unfold kwB; rw [Lib.toList_data]; rfl
theorem kw_past (s : ByteArray) (i : Nat) (h : 2 ≤ i) : (kwL s)[i]? = none := List.getElem?_eq_none (by simpa [kwL] using h)
theorem part_past (s : ByteArray) (i : Nat) (h : 2 ≤ i) : partB (kwL s) i = false := by unfold partB; rw [kw_past s i h]
theorem is_past (s : ByteArray) (k : Int) (ss : List Tx) (i : Nat) (h : 2 ≤ i) : isTok k ss (kwL s) i = false := by unfold isTok; rw [kw_past s i h]
theorem from_past (s : ByteArray) (i : Nat) (h : 2 ≤ i) : fromL (kwL s) i = [] := by
 have hs : skipB (kwL s) i = i := by unfold skipB; rw [is_past s 1 _ i h]; rfl
 rw [fromL_eq,hs,if_pos]
 unfold nameW
 rw [part_past s i h,if_pos rfl]
theorem is_one (s : ByteArray) (ss : List Tx) : isTok 1 ss (kwL s) 1 = ss.contains s.data.toList := by
 show ((1 : Int) == 1 && ss.contains s.toList) = _
 rw [Lib.toList_data]; rfl
theorem key_sub (s : ByteArray) (ss : List Tx) (h : ss.all (fun x => keysL.contains x) = true) (hk : kwB s = false) : ss.contains s.data.toList = false := by
 cases hc : ss.contains s.data.toList with
 | false => rfl
 | true =>
  have := List.all_eq_true.1 h _ (List.contains_iff_mem.1 hc)
  unfold kwB at hk
  rw [this] at hk; cases hk
theorem kw_from (s : ByteArray) : fromL (kwL s) 1 = if kwB s = true then [] else [(s.data.toList,1)] := by
 rw [fromL_eq]
 by_cases hk : kwB s = true
 ·rw [if_pos hk,if_pos]
  have hp : partB (kwL s) 1 = false := by rw [kw_part,hk]; rfl
  by_cases h1 : isTok 1 [w_only,w_table] (kwL s) 1 = true
  ·have hs : skipB (kwL s) 1 = 2 := by unfold skipB; rw [if_pos h1]
   rw [hs]; unfold nameW; rw [part_past s 2 (by omega),if_pos rfl]
  ·have hs : skipB (kwL s) 1 = 1 := by unfold skipB; rw [if_neg h1]
   rw [hs]; unfold nameW; rw [hp,if_pos rfl]
 ·have hk2 : kwB s = false := by simpa using hk
  have hp : partB (kwL s) 1 = true := by rw [kw_part,hk2]; rfl
  have hs : skipB (kwL s) 1 = 1 := by
   unfold skipB
   rw [is_one,key_sub s _ (by decide) hk2,if_neg (by decide)]
  have hn : nameW (kwL s) 1 = 1 := by
   unfold nameW
   rw [hp,if_neg (by decide),is_past s 5 _ 2 (by omega)]; rfl
  have hx : nameX (kwL s) 1 = s.data.toList := by
   unfold nameX
   rw [hn,if_neg (by decide)]
   show s.toList = _
   rw [Lib.toList_data]
  rw [if_neg hk,hs,hn,if_neg (by decide),hx]
  have hc : commaB (kwL s) (aliasB (kwL s) (1 + 1)) = false := by
   unfold commaB
   exact is_past s 5 _ _ (alias_le (kwL s) 2).1
  rw [hc,if_neg (by decide)]
theorem kw_reads (s : ByteArray) : readsL (kwL s) = if kwB s = true then [] else [s.data.toList] := by
 have h0 : readsAt (kwL s) 0 = if kwB s = true then [] else [s.data.toList] := by
  unfold readsAt
  have : readsB (kwL s) 0 = true := by
   unfold readsB
   have e1 : isTok 1 [w_from] (kwL s) 0 = true := by kernel_rfl
   rw [e1]; simp
  rw [this,if_pos rfl,kw_from]
  by_cases hk : kwB s = true
  ·rw [if_pos hk,if_pos hk]; rfl
  ·rw [if_neg hk,if_neg hk]; rfl
 have h1 : readsAt (kwL s) 1 = [] := by
  unfold readsAt
  rw [from_past s (1 + 1) (by omega)]
  split <;> rfl
 show riseL ((([] : List Tx) ++ readsAt (kwL s) 0) ++ readsAt (kwL s) 1) = _
 rw [h0,h1]
 by_cases hk : kwB s = true
 ·rw [if_pos hk]; rfl
 ·rw [if_neg hk]; rfl
theorem own_shape {w : World} {B z n : Nat} {e : TypeId} {v : Value} {xs : List Value} (h : w.ownsRow B e z v n xs) : ∃ a m c,v = .slice a m c ∧ m = n := by
 rcases h.2 with ⟨rfl,h0⟩ | ⟨g,cap,cur,rfl,_⟩
 ·exact ⟨_,_,_,rfl,h0.symm⟩
 ·exact ⟨_,_,_,rfl,rfl⟩
theorem kw_any (s : ByteArray) (w : World) (hs : s.size ≤ 1000000000) :
  Calls Tryz.prog 185 #[.string s] w fun e w' => e = .returned (.bool (kwB s)) ∧ Below w.heap.size w w' := by
 have hbl : (w.alloc (.cells #[.int .i64 1,.string ⟨#[102,114,111,109]⟩,.int .i64 0,.int .i64 1,.string s,.int .i64 0] 125)).heap[w.heap.size]? = some (.cells (tokRow (kwL s)).toArray 125 (0,0)) := by
  show (w.heap.push _)[w.heap.size]? = _
  rw [Array.getElem?_push_size]
  rfl
 have hTR := TR.block hbl
 have HR := Lib.hid (reads_any _ (kwL s) _ hTR (by simp [kwL]) (by
  intro t ht
  simp only [kwL,List.mem_cons,List.not_mem_nil,or_false] at ht
  rcases ht with rfl | rfl
  ·show (⟨#[102,114,111,109]⟩ : ByteArray).size ≤ _; decide
  ·exact hs))
 have HB := Lib.hid ((Below.refl w.heap.size w).alloc (Nat.le_refl _) (.cells #[.int .i64 1,.string ⟨#[102,114,111,109]⟩,.int .i64 0,.int .i64 1,.string s,.int .i64 0] 125))
 have hre := kw_reads s
 obtain ⟨Q,hQ⟩ : ∃ Q,kwB s = Q := ⟨_,rfl⟩
 rw [hQ] at hre ⊢
 have HRE := Lib.hid hre
 clear hbl hTR hre hs
 go_enter Tryz.func185,Tryz.ntmps185
 go_wp2_with (go_at_call 209; (refine HR.out.mono ?_); rintro e w2 ⟨v2,rfl,ho,hb⟩; rw [HRE.out] at ho; have HB2 := Lib.hid (HB.out.trans (hb.mono HB.out.size)); clear hb; obtain ⟨a2,n2,c2,rfl,hn2⟩ := own_shape ho; have hq2 : decide ((n2 : Int) = 0) = Q := (by rw [hn2]; cases Q <;> rfl); have hq3 : ((n2 : Int) == 0) = Q := (by rw [hn2]; cases Q <;> rfl); clear ho hn2)
 go_ret
 exact ⟨rfl,HB2.out⟩

theorem trim_zero (w : World) : Calls Tryz.prog 187 #[.string ⟨#[]⟩,.string ⟨#[48,49,50,51,52,53,54,55,56,57]⟩] w fun e w' => e = .returned (.string ⟨#[]⟩) ∧ w' = w := by
 go_enter Tryz.func187,Tryz.ntmps187
 go_wp2
 go_ret
 exact ⟨rfl,rfl⟩
theorem atoi_zero (m : Int) (w : World) (h : Wq m w) : Calls Tryz.prog 188 #[.string ⟨#[]⟩] w fun e w' => (∃ te pe,e = .returned (.tuple #[.int .i64 0,.iface te pe])) ∧ Below w.heap.size w w' := by
 obtain ⟨ev,h1,h2⟩ := h.err
 exact (Tryz.strconv_Atoi_err ⟨#[]⟩ (by decide) rfl ev w h1 h2).mono fun e w' ⟨N,he,_,_,hb⟩ => ⟨⟨_,_,he⟩,hb⟩
def NumP (t : Tok) (w : World) (e : Ending) (w' : World) : Prop := ∃ n : Int,e = .returned (.tuple #[.int .i64 n,.bool (numO t).isSome]) ∧ (∀ k,numO t = some k → n = (k : Int)) ∧ Below w.heap.size w w'
theorem num_none (t : Tok) (h : t.1 ≠ 4 ∨ 6 < t.2.1.size ∨ t.2.1.size = 0 ∨ t.2.1.data.toList.all digB = false) : numO t = none := by
 unfold numO
 refine if_neg fun hh => ?_
 obtain ⟨h1,h2,h3,h4⟩ := hh
 rcases h with h | h | h | h
 ·exact h h1
 ·omega
 ·exact h3 h
 ·rw [h] at h4; cases h4
set_option maxHeartbeats 1600000 in
theorem number_any (t : Tok) (m : Int) (w : World) (hw : Wq m w) : Calls Tryz.prog 140 #[tkV t] w (NumP t w) := by
 obtain ⟨k,s,p⟩ := t
 have HB := Lib.hid ((Below.refl w.heap.size w).alloc (Nat.le_refl _) (.cells #[.int .i64 k,.string s,.int .i64 p] 125))
 have HW1 := Lib.hid (hw.below HB.out)
 by_cases h4 : k = 4
 ·subst h4
  by_cases h6 : 6 < s.size
  ·have hn := num_none (4,s,p) (.inr (.inl h6))
   have l6 : (6 : Int) < (s.size : Int) := by omega
   unfold NumP
   rw [hn]
   clear hn h6 hw
   go_enter Tryz.func140,Tryz.ntmps140
   go_wp2
   go_ret2
   exact ⟨_,rfl,(fun k h => by cases h),HB.out⟩
  ·have l6 : ¬ ((6 : Int) < (s.size : Int)) := by omega
   by_cases h0 : s.size = 0
   ·have hs : s = ⟨#[]⟩ := is_empty s h0
    have hn := num_none (4,s,p) (.inr (.inr (.inl h0)))
    subst hs
    unfold NumP
    rw [hn]
    have HT := Lib.hid (trim_zero (w.alloc (.cells #[.int .i64 4,.string ⟨#[]⟩,.int .i64 p] 125)))
    have HA := Lib.hid (atoi_zero m _ HW1.out)
    clear hn hw h0 h6 l6
    go_enter Tryz.func140,Tryz.ntmps140
    go_wp2_with (first
     | (go_at_call 187; (refine HT.out.mono ?_); rintro e w2 ⟨rfl,hw2⟩; obtain rfl := hw2)
     | (go_at_call 188; (refine HA.out.mono ?_); rintro e w3 ⟨⟨te,pe,rfl⟩,hb3⟩; have HB3 := Lib.hid (HB.out.trans (hb3.mono HB.out.size)); clear hb3))
    go_quiet (fail)
    go_wp2
    go_ret2
    exact ⟨_,rfl,(fun k h => by cases h),HB3.out.trans (belN _ _ _)⟩
   ·have h0' : 0 < s.size := by omega
    cases ha : s.data.toList.all digB with
    | false =>
     have hn := num_none (4,s,p) (.inr (.inr (.inr ha)))
     unfold NumP
     rw [hn]
     have HT := Lib.hid (trim_no s (w.alloc (.cells #[.int .i64 4,.string s,.int .i64 p] 125)) (by omega) h0' ha)
     clear hn hw h0 h6 ha
     go_enter Tryz.func140,Tryz.ntmps140
     go_wp2_with (go_at_call 187; (refine HT.out.mono ?_); rintro e w2 ⟨t2,rfl,ht2,hb2⟩; have ht3 : (!(t2.toList.isEmpty)) = true := (by rw [ht2]; rfl); have HB2 := Lib.hid (HB.out.trans (hb2.mono HB.out.size)); clear hb2)
     go_ret2
     exact ⟨_,rfl,(fun k h => by cases h),HB2.out⟩
    | true =>
     have hn : numO (4,s,p) = some (valL s.data.toList) := if_pos ⟨rfl,by show s.size ≤ 6; omega,h0,ha⟩
     unfold NumP
     rw [hn]
     have HT := Lib.hid (trim_yes s (w.alloc (.cells #[.int .i64 4,.string s,.int .i64 p] 125)) (by omega) h0' ha)
     have HA := Lib.hid (fun W => atoi_any s W h0' (by omega) ha)
     generalize valL s.data.toList = q at *
     clear hn hw h0 h6 ha
     go_enter Tryz.func140,Tryz.ntmps140
     go_wp2_with (first
      | (go_at_call 187; (refine HT.out.mono ?_); rintro e w2 ⟨rfl,hb2⟩; have c1 : w2.cell? ⟨w.heap.size,1,none⟩ = some (.string s) := (hb2.cell (p := ⟨w.heap.size,1,none⟩) (by simp)).trans (by rw [World.cell?_alloc_new]; rfl); have HB2 := Lib.hid (HB.out.trans (hb2.mono HB.out.size)); clear hb2)
      | (go_at_call 188; (refine (HA.out _).mono ?_); rintro e w3 ⟨rfl,hb3⟩; have HB3 := Lib.hid (HB2.out.trans (hb3.mono HB2.out.size)); clear hb3))
     go_quiet (fail)
     go_wp2
     go_ret2
     exact ⟨_,rfl,(fun k h => by injection h with h; rw [h]),HB3.out.trans (belN _ _ _)⟩
 ·have hn := num_none (k,s,p) (.inl h4)
  have l4 : (k != 4) = true := by rw [bne_iff_ne]; exact h4
  unfold NumP
  rw [hn]
  clear hn h4 hw
  go_enter Tryz.func140,Tryz.ntmps140
  go_wp2
  go_ret2
  exact ⟨_,rfl,(fun k h => by cases h),HB.out⟩

theorem self_any (s : ByteArray) (m : Int) (w : World) (hw : Wq m w) :
  Calls Tryz.prog 184 #[.string s] w fun e w' => e = .returned (.bool (selfB s)) ∧ Below w.heap.size w w' := by
 have HS := Lib.hid (scan_out s _ rfl m w hw.wd)
 have hq : selfB s = match (scanA s).1 with | [t] => t.1 == 1 && t.2.1.data.toList == s.data.toList | _ => false := rfl
 generalize (scanA s) = r at *
 obtain ⟨l,er,at_⟩ := r
 simp only at HS hq
 rw [hq]
 clear hq hw
 match l,HS with
 | [],HS =>
  go_enter Tryz.func184,Tryz.ntmps184
  go_wp2_with (go_at_call 76; (refine HS.out.mono ?_); rintro e w2 ⟨v,rfl,hT,hb⟩; have HB := Lib.hid hb; clear hb; obtain ⟨a,cap,rfl⟩ := hT.form; clear hT)
  go_ret
  exact ⟨rfl,HB.out⟩
 | [t],HS =>
  obtain ⟨k,u,p⟩ := t
  obtain ⟨Q,hQ⟩ : ∃ Q,((k == 1) && u.data.toList == s.data.toList) = Q := ⟨_,rfl⟩
  simp only
  rw [hQ]
  go_enter Tryz.func184,Tryz.ntmps184
  go_wp2_with (go_at_call 76; (refine HS.out.mono ?_); rintro e w2 ⟨v,rfl,hT,hb⟩; have HB := Lib.hid hb; clear hb; obtain ⟨g,off,cap,rfl,hcap,hx⟩ := hT.inv 1 rfl (by omega); have hx0 := hx 0 _ rfl; rw [Nat.zero_mul,Nat.add_zero] at hx0; obtain ⟨x0,x1,x2⟩ := hx0; have hcp : (0 : Int) < (cap : Int) := (by omega); clear hT hx)
  all_goals
   go_ret
   refine ⟨?_,HB.out⟩
   rw [← hQ]
   simp [*,Lib.toList_data]
 | t :: u :: l2,HS =>
  have hn : ((t :: u :: l2).length : Int) ≠ 1 := by simp; omega
  go_enter Tryz.func184,Tryz.ntmps184
  go_wp2_with (go_at_call 76; (refine HS.out.mono ?_); rintro e w2 ⟨v,rfl,hT,hb⟩; have HB := Lib.hid hb; clear hb; obtain ⟨a,cap,rfl⟩ := hT.form; clear hT; obtain ⟨z,hz⟩ : ∃ z,(t :: u :: l2).length = z := ⟨_,rfl⟩; rw [hz]; rw [hz] at hn; have hn2 : decide ((z : Int) = 1) = false := (by rw [decide_eq_false_iff_not]; exact hn); have hn3 : ((z : Int) == 1) = false := (by rw [beq_eq_false_iff_ne]; exact hn); clear hz)
  go_ret
  exact ⟨rfl,HB.out⟩
def fourB : List ByteArray := [⟨#[105,110,115,101,114,116]⟩,⟨#[117,112,100,97,116,101]⟩,⟨#[100,101,108,101,116,101]⟩,⟨#[109,101,114,103,101]⟩]
theorem four_con (s : ByteArray) : Lib.containsS (fourB.take 4) s = fourL.contains s.data.toList := by
 have h := conS fourB s
 rw [show fourB.length = 4 from rfl] at h
 rw [h,Lib.toList_data]
 have e : fourB.map (·.toList) = fourL := by
  simp only [fourB,fourL,List.map_cons,List.map_nil,Lib.toList_data]
 rw [e]
set_option maxHeartbeats 1600000 in
theorem tab_any (t : Tok) (m : Int) (w : World) (hw : Wq m w) :
  Calls Tryz.prog 139 #[tkV t] w fun e w' => e = .returned (.bool (tabB t)) ∧ Below w.heap.size w w' := by
 obtain ⟨k,s,p⟩ := t
 have HB := Lib.hid ((Below.refl w.heap.size w).alloc (Nat.le_refl _) (.cells #[.int .i64 k,.string s,.int .i64 p] 125))
 have HW1 := Lib.hid (hw.below HB.out)
 have hc0 : (w.alloc (.cells #[.int .i64 k,.string s,.int .i64 p] 125)).cell? ⟨w.heap.size,1,none⟩ = some (.string s) := by rw [World.cell?_alloc_new]; rfl
 have HC0 := Lib.hid hc0
 clear hw hc0
 show Calls Tryz.prog 139 #[tkV (k,s,p)] w fun e w' => e = .returned (.bool (k == 1 && (decide (s.size ≤ 30) && selfB s && !kwB s && !fourL.contains s.data.toList))) ∧ Below w.heap.size w w'
 by_cases hk : k = 1
 ·subst hk
  by_cases h30 : s.size ≤ 30
  ·rw [decide_eq_true h30]
   have l30 : ¬ ((30 : Int) < (s.size : Int)) := by omega
   have HS := Lib.hid (self_any s m _ HW1.out)
   cases hq : selfB s with
   | false =>
    rw [hq] at HS
    clear h30 hq
    go_enter Tryz.func139,Tryz.ntmps139
    go_wp2_with (go_at_call 184; (refine HS.out.mono ?_); rintro e w2 ⟨rfl,hb⟩; have HB2 := Lib.hid (HB.out.trans (hb.mono HB.out.size)); clear hb)
    go_ret
    exact ⟨rfl,HB2.out⟩
   | true =>
    rw [hq] at HS
    have HK := Lib.hid (fun W => kw_any s W (by omega))
    cases hkw : kwB s with
    | true =>
     rw [hkw] at HK
     clear h30 hq hkw
     go_enter Tryz.func139,Tryz.ntmps139
     go_wp2_with (first
      | (go_at_call 184; (refine HS.out.mono ?_); rintro e w2 ⟨rfl,hb⟩; have c1 : w2.cell? ⟨w.heap.size,1,none⟩ = some (.string s) := (hb.cell (p := ⟨w.heap.size,1,none⟩) (by simp)).trans HC0.out; have HB2 := Lib.hid (HB.out.trans (hb.mono HB.out.size)); clear hb)
      | (go_at_call 185; (refine (HK.out _).mono ?_); rintro e w3 ⟨rfl,hb⟩; have HB3 := Lib.hid (HB2.out.trans (hb.mono HB2.out.size)); clear hb))
     go_ret
     exact ⟨rfl,HB3.out⟩
    | false =>
     rw [hkw] at HK
     have HF := Lib.hid (fun b W hc => (Tryz.slices_Contains_string b 0 4 4 fourB s W (by decide) (by omega) hc))
     simp only [four_con] at HF
     obtain ⟨Q,hQ⟩ : ∃ Q,fourL.contains s.data.toList = Q := ⟨_,rfl⟩
     rw [hQ] at HF ⊢
     clear h30 hq hkw hQ
     go_enter Tryz.func139,Tryz.ntmps139
     go_wp2_with (first
      | (go_at_call 184; (refine HS.out.mono ?_); rintro e w2 ⟨rfl,hb⟩; have c1 : w2.cell? ⟨w.heap.size,1,none⟩ = some (.string s) := (hb.cell (p := ⟨w.heap.size,1,none⟩) (by simp)).trans HC0.out; have HB2 := Lib.hid (HB.out.trans (hb.mono HB.out.size)); have hl2 : w.heap.size < w2.heap.size := (Nat.lt_of_lt_of_le (by simp) hb.size); clear hb)
      | (go_at_call 185; (refine (HK.out _).mono ?_); rintro e w3 ⟨rfl,hb⟩; have hl3 : w.heap.size < w3.heap.size := (Nat.lt_of_lt_of_le hl2 hb.size); have c2 : ∀ o,(w3.alloc o).cell? ⟨w.heap.size,1,none⟩ = some (.string s) := (fun o => (World.cell?_of_block (a := ⟨w.heap.size,1,none⟩) (Below.heap_alloc w3 o w.heap.size hl3)).trans ((hb.cell (p := ⟨w.heap.size,1,none⟩) hl2).trans c1)); have HB3 := Lib.hid (HB2.out.trans (hb.mono HB2.out.size)); clear hb)
      | (go_at_call 186; (refine (HF.out w3.heap.size _ (by
        intro j hj
        rw [Nat.zero_add,World.cell?_alloc_new]
        have hj4 : j < 4 := hj
        match j,hj4 with
        | 0,_ => rfl
        | 1,_ => rfl
        | 2,_ => rfl
        | 3,_ => rfl)).mono ?_); rintro e w4 ⟨rfl,hw4⟩; obtain rfl := hw4))
     go_ret
     exact ⟨by simp,HB3.out.alloc HB3.out.size _⟩
  ·rw [decide_eq_false h30]
   have l30 : (30 : Int) < (s.size : Int) := by omega
   clear h30
   go_enter Tryz.func139,Tryz.ntmps139
   go_wp2
   go_ret
   exact ⟨rfl,HB.out⟩
 ·have l1 : (k != 1) = true := by rw [bne_iff_ne]; exact hk
  have l2 : (k == 1) = false := by rw [beq_eq_false_iff_ne]; exact hk
  rw [l2]
  clear hk
  go_enter Tryz.func139,Tryz.ntmps139
  go_wp2
  go_ret
  exact ⟨rfl,HB.out⟩

abbrev cmCells (c : Cm) : Array Value := #[.int .i64 c.1,.string c.2.1,.int .i64 c.2.2.1,.int .i64 c.2.2.2.1,.bool c.2.2.2.2]
def TakeP (c : Cm) (p t : Tok) (g : Nat) (w : World) (e : Ending) (w' : World) : Prop := e = .returned (.bool (takeC c p t).2) ∧ ∃ c',Blk w' g 34 (cmCells c') ∧ ((takeC c p t).2 = true → c' = (takeC c p t).1) ∧ But [g] w w'
theorem take_keep {g n : Nat} {s : ByteArray} {k p : Int} {W w w' : World} (hS : w.cell? ⟨n,0,none⟩ = some (.int .i64 k) ∧ w.cell? ⟨n,1,none⟩ = some (.string s) ∧ w.cell? ⟨n,2,none⟩ = some (.int .i64 p) ∧ But [g] W w) (b : Below w.heap.size w w') :
  w'.cell? ⟨n,0,none⟩ = some (.int .i64 k) ∧ w'.cell? ⟨n,1,none⟩ = some (.string s) ∧ w'.cell? ⟨n,2,none⟩ = some (.int .i64 p) ∧ But [g] W w' := by
 obtain ⟨h1,h2,h3,h4⟩ := hS
 have hl : n < w.heap.size := World.block_lt_of_cell? w _ h1
 exact ⟨(b.cell (p := ⟨n,0,none⟩) hl).trans h1,(b.cell (p := ⟨n,1,none⟩) hl).trans h2,(b.cell (p := ⟨n,2,none⟩) hl).trans h3,h4.trans ⟨b.os,b.tape,b.output,b.size,fun k hk _ => b.block k hk⟩ (fun x hx => hx) (fun x hx _ => hx)⟩
set_option maxHeartbeats 4000000 in
theorem take_any (g : Nat) (c : Cm) (q t : Tok) (m : Int) (w : World) (hw : Wq m w) (h : Blk w g 34 (cmCells c)) (hs : t.2.1.size ≤ 1048576) :
  Calls Tryz.prog 101 #[nP g,tkV q,tkV t] w (TakeP c q t g w) := by
 obtain ⟨qk,qs,qp⟩ := q
 obtain ⟨k,s,p⟩ := t
 obtain ⟨c0,c1,c2,c3,c4⟩ := c
 have HSZ : Hid (s.size ≤ 1048576) := Lib.hid hs
 have hlt := h.lt
 obtain ⟨W1,hW1⟩ : ∃ W1,(w.alloc (.cells #[.int .i64 qk,.string qs,.int .i64 qp] 125)).alloc (.cells #[.int .i64 k,.string s,.int .i64 p] 125) = W1 := ⟨_,rfl⟩
 have hQ : Blk W1 w.heap.size 125 #[.int .i64 qk,.string qs,.int .i64 qp] := by rw [← hW1]; exact (Blk.new _ _ _).alloc _
 have hT : Blk W1 (w.heap.size + 1) 125 #[.int .i64 k,.string s,.int .i64 p] := by rw [← hW1]; exact Blk.newAt _ _ _ _ (by simp)
 have hG : Blk W1 g 34 (cmCells (c0,c1,c2,c3,c4)) := by rw [← hW1]; exact (h.alloc _).alloc _
 have hb1 : Below w.heap.size w W1 := by rw [← hW1]; exact ((Below.refl _ _).alloc (Nat.le_refl _) _).alloc (by simp) _
 have hB1 : But [g] w W1 := by rw [← hW1]; exact ((But.refl _ _).alloc _).alloc _
 have HW1 := Lib.hid (hw.below hb1)
 have q1 : W1.cell? ⟨w.heap.size,1,none⟩ = some (.string qs) := hQ.cell 1
 have q0 : W1.cell? ⟨w.heap.size,0,none⟩ = some (.int .i64 qk) := hQ.cell 0
 have x0 : W1.cell? ⟨w.heap.size + 1,0,none⟩ = some (.int .i64 k) := hT.cell 0
 have x1 : W1.cell? ⟨w.heap.size + 1,1,none⟩ = some (.string s) := hT.cell 1
 have x2 : W1.cell? ⟨w.heap.size + 1,2,none⟩ = some (.int .i64 p) := hT.cell 2
 have HB1 := Lib.hid hB1
 have HG := Lib.hid hG
 have ng : w.heap.size + 1 ≠ g := by omega
 clear h hw hs hlt hQ hT hG hb1 hB1
 by_cases h1 : qs.data.toList = [36,49]
 ·have e1 : qs = ⟨#[36,49]⟩ := by apply ByteArray.ext; exact Array.ext' h1
  subst e1
  have htk : takeC (c0,c1,c2,c3,c4) (qk,⟨#[36,49]⟩,qp) (k,s,p) = ((c0,s,c2,c3,c4),tabB (k,s,p)) := rfl
  unfold TakeP
  rw [htk]
  have hX9 : ∀ (W : World) (u : ByteArray),W.cell? ⟨w.heap.size + 1,0,none⟩ = some (.int .i64 k) → W.cell? ⟨w.heap.size + 1,1,none⟩ = some (.string s) → W.cell? ⟨w.heap.size + 1,2,none⟩ = some (.int .i64 p) → (W.setCell ⟨g,1,none⟩ (.string u)).cell? ⟨w.heap.size + 1,0,none⟩ = some (.int .i64 k) ∧ (W.setCell ⟨g,1,none⟩ (.string u)).cell? ⟨w.heap.size + 1,1,none⟩ = some (.string s) ∧ (W.setCell ⟨g,1,none⟩ (.string u)).cell? ⟨w.heap.size + 1,2,none⟩ = some (.int .i64 p) := by
   intro W u y0 y1 y2
   have hn : ∀ i j : Nat,(⟨g,i,none⟩ : Addr) ≠ ⟨w.heap.size + 1,j,none⟩ := fun i j e => ng (by injection e with e _ _; exact e.symm)
   exact ⟨(World.cell?_setCell_other _ _ _ _ (hn 1 0)).trans y0,(World.cell?_setCell_other _ _ _ _ (hn 1 1)).trans y1,(World.cell?_setCell_other _ _ _ _ (hn 1 2)).trans y2⟩
  have HWA : Hid (Wq m W1.drew) := Lib.hid (HW1.out.below ((Below.refl _ _).drew))
  have hGA : Blk W1.drew g 34 (cmCells (c0,c1,c2,c3,c4)) := HG.out
  clear h1 htk
  go_enter Tryz.func101,Tryz.ntmps101
  go_wp2
  refine wp_region_held_drew (S := fun w' => w'.cell? ⟨w.heap.size + 1,0,none⟩ = some (.int .i64 k) ∧ w'.cell? ⟨w.heap.size + 1,1,none⟩ = some (.string s) ∧ w'.cell? ⟨w.heap.size + 1,2,none⟩ = some (.int .i64 p) ∧ But [g] W1 w') (by kernel_rfl) ?_ (fun hS => ?_)
  ·exact ⟨x0,x1,x2,(But.refl [g] W1).drewN 1⟩
  try dsimp only at hS
  refine tkY 0 ?_ rfl hS ?_ ?_;rotate_left
  ·intro wz hSz;obtain ⟨hz1,hz2,hz3,hz4⟩ := hSz;go_simp;all_goals with_reducible rfl
  (try simp only [Act.put,pu]);refine tkY 1 ?_ rfl hS ?_ ?_;rotate_left
  ·intro wz hSz;obtain ⟨hz1,hz2,hz3,hz4⟩ := hSz;go_simp;all_goals with_reducible rfl
  (try simp only [Act.put,pu]);refine tkY 2 ?_ rfl hS ?_ ?_;rotate_left
  ·intro wz hSz;obtain ⟨hz1,hz2,hz3,hz4⟩ := hSz;go_simp;all_goals with_reducible rfl
  (try simp only [Act.put,pu]);refine tkY 4 ?_ rfl hS ?_ ?_;rotate_left
  ·intro wz hSz;obtain ⟨hz1,hz2,hz3,hz4⟩ := hSz;go_simp;all_goals with_reducible rfl
  try simp only [Act.put,pu]
  refine wpAnyH_ready (rs := [3]) (by kernel_rfl) (by simp) (AllReadyH.cons rfl (fun K hK => ?_) AllReadyH.nil)
  go_simp
  (go_at_call 54; refine (clone_any s _ (Nat.le_trans HSZ.out (by decide))).mono ?_; rintro e w2 ⟨rfl,hb⟩)
  have hb2x := hb
  have HW2 := Lib.hid (HWA.out.below hb)
  refine hK.out _ _ ?_ (fun hSn => ?_)
  ·exact take_keep hS hb
  clear hK K hS
  have hS := hSn
  clear hSn
  try dsimp only at hS
  try simp only [Act.put,pu]
  refine wpAnyH_ready (rs := [5]) (by kernel_rfl) (by simp) (AllReadyH.cons rfl (fun K hK => ?_) AllReadyH.nil)
  go_simp
  (go_at_call 139; refine (tab_any (k,s,p) m _ HW2.out).mono ?_; rintro e w3 ⟨rfl,hb⟩)
  have hb3x := hb
  refine hK.out _ _ ?_ (fun hSn => ?_)
  ·exact take_keep hS hb
  clear hK K hS
  have hS := hSn
  clear hSn
  try dsimp only at hS
  (try simp only [Act.put,pu]);refine tkY 6 ?_ rfl hS ?_ ?_;rotate_left
  ·intro wz hSz;obtain ⟨hz1,hz2,hz3,hz4⟩ := hSz;go_simp;all_goals with_reducible rfl
  (try simp only [Act.put,pu]);refine tkY 7 ?_ rfl hS ?_ ?_;rotate_left
  ·intro wz hSz;obtain ⟨hz1,hz2,hz3,hz4⟩ := hSz;go_simp;all_goals with_reducible rfl
  try simp only [Act.put,pu]
  have hGb := Blk.below (hGA.below hb2x (Blk.lt hGA)) hb3x (Blk.lt (hGA.below hb2x (Blk.lt hGA)))
  have cg1 : w3.cell? ⟨g,1,none⟩ = some (.string c1) := hGb.cell 1
  have fg1 := hGb.frozen 1
  refine wpAnyH_ready (rs := [8]) (by kernel_rfl) (by simp) (AllReadyH.cons rfl (fun K hK => ?_) AllReadyH.nil)
  go_simp
  obtain ⟨W9,hW9⟩ : ∃ W9,w3.setCell ⟨g,1,none⟩ (.string s) = W9 := ⟨_,rfl⟩
  have hG9 : Blk W9 g 34 (cmCells (c0,s,c2,c3,c4)) := by rw [← hW9]; exact hGb.set_ 1 _
  have hB9 : But [g] w3 W9 := by rw [← hW9]; exact (But.refl [g] w3).set _ _ (.inl (by simp))
  have hN9 := hX9 w3 s hS.1 hS.2.1 hS.2.2.1
  rw [hW9]
  rw [hW9] at hN9
  refine hK.out _ _ ?_ (fun hSn => ?_)
  ·exact ⟨hN9.1,hN9.2.1,hN9.2.2,hS.2.2.2.trans hB9 (fun x hx => hx) (fun x hx _ => hx)⟩
  clear hK K hS
  have hS := hSn
  clear hSn
  try dsimp only at hS
  (try simp only [Act.put,pu]);refine tkY 9 ?_ rfl hS ?_ ?_;rotate_left
  ·intro wz hSz;obtain ⟨hz1,hz2,hz3,hz4⟩ := hSz;go_simp;all_goals with_reducible rfl
  try simp only [Act.put,pu]
  refine wpAnyH_done (by kernel_rfl) ?_ _
  have HS9 := Lib.hid hS.2.2.2
  have HG9 := Lib.hid hG9
  clear hS hG9 hGb cg1 fg1 hb2x hb3x hN9 hB9
  go_wp2
  go_ret
  exact ⟨rfl,(c0,s,c2,c3,c4),HG9.out,(fun _ => rfl),HB1.out.trans HS9.out (fun x hx => hx) (fun x hx _ => hx)⟩
 ·by_cases h2 : qs.data.toList = [36,50]
  ·have e1 : qs = ⟨#[36,50]⟩ := by apply ByteArray.ext; exact Array.ext' h2
   subst e1
   have htk : takeC (c0,c1,c2,c3,c4) (qk,⟨#[36,50]⟩,qp) (k,s,p) = ((c0,c1,(((numO (k,s,p)).getD 0 : Nat) : Int),c3,c4),(numO (k,s,p)).isSome) := rfl
   unfold TakeP
   rw [htk]
   have HN := Lib.hid (number_any (k,s,p) m W1 HW1.out)
   clear h1 h2 htk
   go_enter Tryz.func101,Tryz.ntmps101
   go_wp2_with (go_at_call 140; (refine HN.out.mono ?_); rintro e w3 ⟨n,rfl,hn,hb⟩; have hGb := HG.out.below hb (Blk.lt HG.out); have cg1 : w3.cell? ⟨g,2,none⟩ = some (.int .i64 c2) := hGb.cell 2; have fg1 := hGb.frozen 2; have HGB := Lib.hid hGb; have HN3 := Lib.hid hn; have HB3 := Lib.hid hb; clear hGb hn hb)
   go_ret
   refine ⟨rfl,(c0,c1,n,c3,c4),HGB.out.set_ 2 _,fun h => ?_,(HB1.out.trans ⟨HB3.out.os,HB3.out.tape,HB3.out.output,HB3.out.size,fun k hk _ => HB3.out.block k hk⟩ (T := [g]) (fun x hx => hx) (fun x hx _ => hx)).set _ _ (.inl (by simp))⟩
   obtain ⟨z,hz⟩ := Option.isSome_iff_exists.1 h
   rw [HN3.out z hz,hz]; rfl
  ·by_cases h3 : qs.data.toList = [36,51]
   ·have e1 : qs = ⟨#[36,51]⟩ := by apply ByteArray.ext; exact Array.ext' h3
    subst e1
    have htk : takeC (c0,c1,c2,c3,c4) (qk,⟨#[36,51]⟩,qp) (k,s,p) = ((c0,c1,c2,(((numO (k,s,p)).getD 0 : Nat) : Int),c4),(numO (k,s,p)).isSome) := rfl
    unfold TakeP
    rw [htk]
    have HN := Lib.hid (number_any (k,s,p) m W1 HW1.out)
    clear h1 h2 h3 htk
    go_enter Tryz.func101,Tryz.ntmps101
    go_wp2_with (go_at_call 140; (refine HN.out.mono ?_); rintro e w3 ⟨n,rfl,hn,hb⟩; have hGb := HG.out.below hb (Blk.lt HG.out); have cg1 : w3.cell? ⟨g,3,none⟩ = some (.int .i64 c3) := hGb.cell 3; have fg1 := hGb.frozen 3; have HGB := Lib.hid hGb; have HN3 := Lib.hid hn; have HB3 := Lib.hid hb; clear hGb hn hb)
    go_ret
    refine ⟨rfl,(c0,c1,c2,n,c4),HGB.out.set_ 3 _,fun h => ?_,(HB1.out.trans ⟨HB3.out.os,HB3.out.tape,HB3.out.output,HB3.out.size,fun k hk _ => HB3.out.block k hk⟩ (T := [g]) (fun x hx => hx) (fun x hx _ => hx)).set _ _ (.inl (by simp))⟩
    obtain ⟨z,hz⟩ := Option.isSome_iff_exists.1 h
    rw [HN3.out z hz,hz]; rfl
   ·have htk : takeC (c0,c1,c2,c3,c4) (qk,qs,qp) (k,s,p) = ((c0,c1,c2,c3,c4),k == qk && s.data.toList == qs.data.toList) := by
     unfold takeC
     rw [if_neg h1,if_neg h2,if_neg h3]
    unfold TakeP
    rw [htk]
    have n1 : (qs.toList == [36,49]) = false := by rw [Lib.toList_data,beq_eq_false_iff_ne]; exact h1
    have n2 : (qs.toList == [36,50]) = false := by rw [Lib.toList_data,beq_eq_false_iff_ne]; exact h2
    have n3 : (qs.toList == [36,51]) = false := by rw [Lib.toList_data,beq_eq_false_iff_ne]; exact h3
    have z1 : (⟨#[36,49]⟩ : ByteArray).toList = [36,49] := by rw [Lib.toList_data]
    have z2 : (⟨#[36,50]⟩ : ByteArray).toList = [36,50] := by rw [Lib.toList_data]
    have z3 : (⟨#[36,51]⟩ : ByteArray).toList = [36,51] := by rw [Lib.toList_data]
    obtain ⟨Q,hQ⟩ : ∃ Q,(k == qk && s.data.toList == qs.data.toList) = Q := ⟨_,rfl⟩
    have HQ := Lib.hid hQ
    rw [hQ]
    clear h1 h2 h3 htk hQ
    go_enter Tryz.func101,Tryz.ntmps101
    go_wp2
    all_goals
     go_ret
     refine ⟨?_,(c0,c1,c2,c3,c4),HG.out,fun _ => rfl,HB1.out⟩
     rw [← HQ.out]
     simp [*,Lib.toList_data]

def ReadP (R : Cm × Bool) (w : World) (e : Ending) (w' : World) : Prop := e = .returned (.tuple #[cmV R.1,.bool R.2]) ∧ Below w.heap.size w w'
theorem drop_cons_at {l : List Tok} {i : Nat} (h : i < l.length) : l.drop i = l[i] :: l.drop (i + 1) := List.drop_eq_getElem_cons h
theorem but_bel {g : Nat} {a b c : World} (h : Below g a b) (k : But [g] b c) (hg : g ≤ b.heap.size) : Below g a c := h.trans (k.below hg (by simp))
theorem cm_results {w : World} {r : Nat} (c : Cm) (h : Blk w r 34 (cmCells c)) : w.cell? ⟨r,0,none⟩ = some (.int .i64 c.1) ∧ w.cell? ⟨r,1,none⟩ = some (.string c.2.1) ∧ w.cell? ⟨r,2,none⟩ = some (.int .i64 c.2.2.1) ∧ w.cell? ⟨r,3,none⟩ = some (.int .i64 c.2.2.2.1) ∧ w.cell? ⟨r,4,none⟩ = some (.bool c.2.2.2.2) :=
 ⟨h.cell 0,h.cell 1,h.cell 2,h.cell 3,h.cell 4⟩
theorem cm_set5 {w : World} {r : Nat} {c : Cm} (c0 : Int) (c1 : ByteArray) (c2 c3 : Int) (c4 : Bool) (h : Blk w r 34 (cmCells c)) :
  Blk (((((w.setCell ⟨r,0,none⟩ (.int .i64 c0)).setCell ⟨r,1,none⟩ (.string c1)).setCell ⟨r,2,none⟩ (.int .i64 c2)).setCell ⟨r,3,none⟩ (.int .i64 c3)).setCell ⟨r,4,none⟩ (.bool c4)) r 34 (cmCells (c0,c1,c2,c3,c4)) :=
 ((((h.set_ 0 _).set_ 1 _).set_ 2 _).set_ 3 _).set_ 4 _
theorem bel_set5 {B : Nat} {a w : World} {r : Nat} (c0 : Int) (c1 : ByteArray) (c2 c3 : Int) (c4 : Bool) (h : Below B a w) (hr : B ≤ r) :
  Below B a (((((w.setCell ⟨r,0,none⟩ (.int .i64 c0)).setCell ⟨r,1,none⟩ (.string c1)).setCell ⟨r,2,none⟩ (.int .i64 c2)).setCell ⟨r,3,none⟩ (.int .i64 c3)).setCell ⟨r,4,none⟩ (.bool c4)) :=
 ((((h.setCell (p := ⟨r,0,none⟩) hr _).setCell (p := ⟨r,1,none⟩) hr _).setCell (p := ⟨r,2,none⟩) hr _).setCell (p := ⟨r,3,none⟩) hr _).setCell (p := ⟨r,4,none⟩) hr _
set_option maxHeartbeats 4000000 in
theorem read_any (f : Fm) (ps l : List Tok) (pe : Int × Int) (v : Value) (m : Int) (w : World) (hw : Wq m w) (hT : TR w v l) (hz : ∀ t ∈ l,t.2.1.size ≤ 1048576) (hps : scanA f.2.2 = (ps,pe)) (hlen : ps.length ≤ 1000) :
  Calls Tryz.prog 77 #[fmV f,v] w (ReadP (readC f l) w) := by
 obtain ⟨fk,fb,ft⟩ := f
 have hpa : partsC (fk,fb,ft) = ps := by unfold partsC; rw [hps]
 have hR : readC (fk,fb,ft) l = if l.length = ps.length then readFrom (fk,⟨#[]⟩,0,0,fb) ps l else (cmdZ,false) := by unfold readC; rw [hpa]
 rw [hR]
 obtain ⟨R,hRR⟩ : ∃ R,(if l.length = ps.length then readFrom (fk,⟨#[]⟩,0,0,fb) ps l else (cmdZ,false)) = R := ⟨_,rfl⟩
 rw [hRR]
 have HRR := Lib.hid hRR
 have hb1 : Below w.heap.size w ((w.alloc (.cells #[.int .i64 fk,.bool fb,.string ft] 107)).alloc (.cells #[.int .i64 0,.string ⟨#[]⟩,.int .i64 0,.int .i64 0,.bool false] 34)) := ((Below.refl _ _).alloc (Nat.le_refl _) _).alloc (by simp) _
 obtain ⟨W1,hW1⟩ : ∃ W1,(w.alloc (.cells #[.int .i64 fk,.bool fb,.string ft] 107)).alloc (.cells #[.int .i64 0,.string ⟨#[]⟩,.int .i64 0,.int .i64 0,.bool false] 34) = W1 := ⟨_,rfl⟩
 have hF : Blk W1 w.heap.size 107 #[.int .i64 fk,.bool fb,.string ft] := by rw [← hW1]; exact (Blk.new _ _ _).alloc _
 have hZ : Blk W1 (w.heap.size + 1) 34 (cmCells cmdZ) := by rw [← hW1]; exact Blk.newAt _ _ _ _ (by simp)
 rw [hW1] at hb1
 have f2 : W1.cell? ⟨w.heap.size,2,none⟩ = some (.string ft) := hF.cell 2
 have HS := Lib.hid (scan_out ft _ hps m W1 (hw.below hb1).wd)
 have HW1 := Lib.hid (hw.below hb1)
 have HT1 := Lib.hid (hT.below hb1)
 have HF := Lib.hid hF
 have HZ := Lib.hid hZ
 have HB1 := Lib.hid hb1
 have HZS := Lib.hid hz
 obtain ⟨a,cap,rfl⟩ := hT.form
 clear hw hT hz hps hpa hR hF hZ hb1 hRR
 by_cases hll : l.length = ps.length
 ·have hR2 := HRR.out
  rw [if_pos hll] at hR2
  have ne : ((l.length : Int) != (ps.length : Int)) = false := by rw [bne_eq_false_iff_eq]; omega
  have HLL := Lib.hid hll
  have HR2 := Lib.hid hR2
  clear hll hR2
  go_enter Tryz.func77,Tryz.ntmps77
  go_wp2_with (go_at_call 76; (refine HS.out.mono ?_); rintro e w2 ⟨v2,rfl,hT2,hb⟩; have HT2 := Lib.hid hT2; have hf2 := HF.out.below hb (Blk.lt HF.out); have hz2 := HZ.out.below hb (Blk.lt HZ.out); have HF2 := Lib.hid hf2; have HZ2 := Lib.hid hz2; have HB2 := Lib.hid (HB1.out.trans (hb.mono HB1.out.size)); have HW2 := Lib.hid (HW1.out.below hb); have HT12 := Lib.hid (HT1.out.below hb); obtain ⟨a2,cap2,rfl⟩ := hT2.form; have g0 : w2.cell? ⟨w.heap.size,0,none⟩ = some (.int .i64 fk) := hf2.cell 0; have g1 : w2.cell? ⟨w.heap.size,1,none⟩ = some (.bool fb) := hf2.cell 1; obtain ⟨z0,z1,z2,z3,z4⟩ := cm_results cmdZ hz2; have fz0 := hz2.frozen 0; have fz1 := hz2.frozen 1; have fz2 := hz2.frozen 2; have fz3 := hz2.frozen 3; have fz4 := hz2.frozen 4; clear hT2 hb hf2 hz2)
  obtain ⟨g,hg⟩ : ∃ g,w2.heap.size = g := ⟨_,rfl⟩
  obtain ⟨W3,hW3⟩ : ∃ W3,w2.alloc (.cells #[.int .i64 fk,.string ⟨#[]⟩,.int .i64 0,.int .i64 0,.bool fb] 34) = W3 := ⟨_,rfl⟩
  have hC : Blk W3 g 34 (cmCells (fk,⟨#[]⟩,0,0,fb)) := by rw [← hW3,← hg]; exact Blk.new _ _ _
  have hb3 : Below g w2 W3 := by rw [← hW3,← hg]; exact (Below.refl _ _).alloc (Nat.le_refl _) _
  have HC := Lib.hid hC
  have HB3 := Lib.hid hb3
  have HGS := Lib.hid hg
  rw [hW3,hg]
  clear hW3 hC hb3 hg g0 g1 z0 z1 z2 z3 z4 fz0 fz1 fz2 fz3 fz4 f2 hW1
  go_loopg [32] ps.length (fun gk u32 wx => ∃ (i : Nat) (c : Cm),u32 = .int .i64 (i : Int) ∧ i + gk = ps.length ∧ Blk wx g 34 (cmCells c) ∧ Below g w2 wx ∧ readFrom c (ps.drop i) (l.drop i) = R)
  case atStart => exact ⟨0,_,rfl,by omega,HC.out,HB3.out,HR2.out⟩
  case round =>
   obtain ⟨i,c,rfl,hi,hG,hB,hr⟩ := hrel
   have hgs := HGS.out
   have hBw : Below w2.heap.size w2 wr := by rw [hgs]; exact hB
   have HG := Lib.hid hG
   have HB := Lib.hid hB
   have HWR := Lib.hid (HW2.out.below hBw)
   have hzr := HZ2.out.below hBw (Blk.lt HZ2.out)
   have HZR := Lib.hid hzr
   have HTP := Lib.hid (HT2.out.below hBw)
   have HTL := Lib.hid (HT12.out.below hBw)
   have HR := Lib.hid hr
   have HI := Lib.hid hi
   have hgl : g < wr.heap.size := hG.lt
   obtain ⟨z0,z1,z2,z3,z4⟩ := cm_results cmdZ hzr
   have fz0 := hzr.frozen 0
   have fz1 := hzr.frozen 1
   have fz2 := hzr.frozen 2
   have fz3 := hzr.frozen 3
   have fz4 := hzr.frozen 4
   cases gk with
   | zero =>
    have l1 : ¬ ((i : Int) < (ps.length : Int)) := by omega
    obtain ⟨c0,c1,c2,c3,c4⟩ := c
    obtain ⟨y0,y1,y2,y3,y4⟩ := cm_results _ hG
    clear hG hB hr hi hgs hBw hzr hgl
    go_wp2
    have hfin := cm_set5 c0 c1 c2 c3 c4 HZR.out
    have hbfin := bel_set5 c0 c1 c2 c3 c4 (HB2.out.trans ((HB.out.mono (by rw [← HGS.out]; exact HB2.out.size)))) (by omega : w.heap.size ≤ w.heap.size + 1)
    obtain ⟨k0,k1,k2,k3,k4⟩ := cm_results _ hfin
    refine bodyPost_ret (v := .tuple #[cmV (c0,c1,c2,c3,c4),.bool true]) (by simp [results,Tryz.results77,go_sem,k0,k1,k2,k3,k4]) rfl ?_
    refine ⟨?_,hbfin⟩
    have hr := HR.out
    rw [List.drop_of_length_le (by have := HI.out; omega)] at hr
    rw [← hr]; rfl
   | succ gk =>
    have hlt : i < ps.length := by omega
    have hlt2 : i < l.length := by have := HLL.out; omega
    obtain ⟨b1,o1,cp1,he1,hcp1,hx1⟩ := HTP.out.inv ps.length rfl (by omega)
    obtain ⟨b2,o2,cp2,he2,hcp2,hx2⟩ := HTL.out.inv l.length rfl (by omega)
    injection he1 with ea1 _ ec1
    injection he2 with ea2 _ ec2
    subst ea1 ec1 ea2 ec2
    obtain ⟨p,hp⟩ : ∃ p,ps[i] = p := ⟨_,rfl⟩
    obtain ⟨t,ht⟩ : ∃ t,l[i] = t := ⟨_,rfl⟩
    have hts : t.2.1.size ≤ 1048576 := by rw [← ht]; exact HZS.out _ (List.getElem_mem hlt2)
    obtain ⟨x0,x1,x2⟩ := hx1 i p (by rw [List.getElem?_eq_getElem hlt,hp])
    obtain ⟨y0,y1,y2⟩ := hx2 i t (by rw [List.getElem?_eq_getElem hlt2,ht])
    have hb2l : b2 < wr.heap.size := World.block_lt_of_cell? wr _ y0
    have hal : ∀ (o : Obj) (j : Nat),(wr.alloc o).cell? ⟨b2,j,none⟩ = wr.cell? ⟨b2,j,none⟩ := fun o j => World.cell?_of_block (a := ⟨b2,j,none⟩) (Below.heap_alloc wr o b2 hb2l)
    have w0 : ∀ o,(wr.alloc o).cell? ⟨b2,o2 + i * 3,none⟩ = some (.int .i64 t.1) := fun o => (hal o _).trans y0
    have w1 : ∀ o,(wr.alloc o).cell? ⟨b2,o2 + i * 3 + 1,none⟩ = some (.string t.2.1) := fun o => (hal o _).trans y1
    have w2' : ∀ o,(wr.alloc o).cell? ⟨b2,o2 + i * 3 + 2,none⟩ = some (.int .i64 t.2.2) := fun o => (hal o _).trans y2
    have hr2 := hr
    rw [drop_cons_at hlt,drop_cons_at hlt2,hp,ht,readFrom] at hr2
    have HR2' := Lib.hid hr2
    have HTS := Lib.hid hts
    have l0 : (0 : Int) ≤ (i : Int) := by omega
    have l1 : (i : Int) < (ps.length : Int) := by omega
    have l2 : (i : Int) < (l.length : Int) := by omega
    obtain ⟨i1,hi1⟩ : ∃ i1,i + 1 = i1 := ⟨_,rfl⟩
    have wk : IntKind.i64.wrap ((i : Int) + 1) = (i1 : Int) := by rw [show (i : Int) + 1 = (i1 : Int) by omega]; exact IntWalk.i64_in _ (by omega)
    have HI1 := Lib.hid hi1
    have HTA : Hid (∀ W,Wq m W → Blk W g 34 (cmCells c) → Calls Tryz.prog 101 #[nP g,tkV p,tkV t] W fun e w' => e = .returned (.bool (takeC c p t).2) ∧ ∃ c',Blk w' g 34 (cmCells c') ∧ ((takeC c p t).2 = true → c' = (takeC c p t).1) ∧ But [g] W w') := Lib.hid (fun W hW hG => take_any g c p t m W hW hG hts)
    obtain ⟨F,hF⟩ : ∃ F,(takeC c p t).2 = F := ⟨_,rfl⟩
    obtain ⟨cn,hcn⟩ : ∃ cn,(takeC c p t).1 = cn := ⟨_,rfl⟩
    rw [hF,hcn] at HTA HR2'
    obtain ⟨pk,pt,pa⟩ := p
    obtain ⟨tk,tt,ta⟩ := t
    clear hF hcn hG hB hr hr2 hi hgs hBw hzr hx1 hx2 hp ht hts y0 y1 y2 hal hi1 hb2l z0 z1 z2 z3 z4 fz0 fz1 fz2 fz3 fz4
    cases F with
    | true =>
     go_wp2
     obtain ⟨W4,hW4⟩ : ∃ W4,wr.alloc (.cells #[.int .i64 pk,.string pt,.int .i64 pa] 125) = W4 := ⟨_,rfl⟩
     have pb : Blk W4 wr.heap.size 125 #[.int .i64 pk,.string pt,.int .i64 pa] := by rw [← hW4]; exact Blk.new _ _ _
     have hb4 : Below wr.heap.size wr W4 := by rw [← hW4]; exact (Below.refl _ _).alloc (Nat.le_refl _) _
     have p0 : W4.cell? ⟨wr.heap.size,0,none⟩ = some (.int .i64 pk) := pb.cell 0
     have p1 : W4.cell? ⟨wr.heap.size,1,none⟩ = some (.string pt) := pb.cell 1
     have p2 : W4.cell? ⟨wr.heap.size,2,none⟩ = some (.int .i64 pa) := pb.cell 2
     have v0 := w0 (.cells #[.int .i64 pk,.string pt,.int .i64 pa] 125)
     have v1 := w1 (.cells #[.int .i64 pk,.string pt,.int .i64 pa] 125)
     have v2 := w2' (.cells #[.int .i64 pk,.string pt,.int .i64 pa] 125)
     rw [hW4] at v0 v1 v2 ⊢
     have HB4 := Lib.hid hb4
     have HTK := Lib.hid (HTA.out W4.drew ((HWR.out.below hb4).below ((Below.refl _ _).drew)) (HG.out.below hb4.drew hgl))
     clear hW4 pb hb4 w0 w1 w2'
     go_region_with (go_at_call 101; (refine HTK.out.mono ?_); rintro e w5 ⟨rfl,c',h5,hc5,hb5⟩; have H5 := Lib.hid h5; have HC5 := Lib.hid hc5; have HB5 := Lib.hid hb5; clear h5 hc5 hb5)
     all_goals
      have hc5 : c' = cn := HC5.out trivial
      subst hc5
      have hg5 : g ≤ W4.drew.heap.size := Nat.le_trans (Nat.le_of_lt hgl) HB4.out.size
      have hbe := Lib.hid (but_bel ((HB.out.trans (HB4.out.mono (Nat.le_of_lt hgl))).drew) HB5.out hg5)
      go_wp2
      go_roundg gk
      case measure => exact Nat.lt_succ_self _
      case rel => exact ⟨i1,c',rfl,by have := HI.out; have := HI1.out; omega,H5.out,hbe.out,by have := HR2'.out; simp only [if_true] at this; rw [HI1.out] at this; exact this⟩
    | false =>
     go_wp2
     obtain ⟨W4,hW4⟩ : ∃ W4,wr.alloc (.cells #[.int .i64 pk,.string pt,.int .i64 pa] 125) = W4 := ⟨_,rfl⟩
     have pb : Blk W4 wr.heap.size 125 #[.int .i64 pk,.string pt,.int .i64 pa] := by rw [← hW4]; exact Blk.new _ _ _
     have hb4 : Below wr.heap.size wr W4 := by rw [← hW4]; exact (Below.refl _ _).alloc (Nat.le_refl _) _
     have p0 : W4.cell? ⟨wr.heap.size,0,none⟩ = some (.int .i64 pk) := pb.cell 0
     have p1 : W4.cell? ⟨wr.heap.size,1,none⟩ = some (.string pt) := pb.cell 1
     have p2 : W4.cell? ⟨wr.heap.size,2,none⟩ = some (.int .i64 pa) := pb.cell 2
     have v0 := w0 (.cells #[.int .i64 pk,.string pt,.int .i64 pa] 125)
     have v1 := w1 (.cells #[.int .i64 pk,.string pt,.int .i64 pa] 125)
     have v2 := w2' (.cells #[.int .i64 pk,.string pt,.int .i64 pa] 125)
     rw [hW4] at v0 v1 v2 ⊢
     have HB4 := Lib.hid hb4
     have HTK := Lib.hid (HTA.out W4.drew ((HWR.out.below hb4).below ((Below.refl _ _).drew)) (HG.out.below hb4.drew hgl))
     clear hW4 pb hb4 w0 w1 w2'
     go_region_with (go_at_call 101; (refine HTK.out.mono ?_); rintro e w5 ⟨rfl,c',h5,hc5,hb5⟩; have H5 := Lib.hid h5; have HC5 := Lib.hid hc5; have HB5 := Lib.hid hb5; clear h5 hc5 hb5)
     all_goals
      have hg5 : g ≤ W4.drew.heap.size := Nat.le_trans (Nat.le_of_lt hgl) HB4.out.size
      have hbe := but_bel ((HB.out.trans (HB4.out.mono (Nat.le_of_lt hgl))).drew) HB5.out hg5
      have hg2 := HGS.out
      have hz5 := HZ2.out.below (by rw [hg2]; exact hbe : Below w2.heap.size w2 w5) (Blk.lt HZ2.out)
      have HBE := Lib.hid hbe
      have HZ5 := Lib.hid hz5
      obtain ⟨z0,z1,z2,z3,z4⟩ := cm_results cmdZ hz5
      have fz0 := hz5.frozen 0
      have fz1 := hz5.frozen 1
      have fz2 := hz5.frozen 2
      have fz3 := hz5.frozen 3
      have fz4 := hz5.frozen 4
      clear hbe hz5 hg2 hg5
      go_wp2
      have hfin := cm_set5 0 ⟨#[]⟩ 0 0 false HZ5.out
      have hbfin := bel_set5 0 ⟨#[]⟩ 0 0 false (HB2.out.trans ((HBE.out.mono (by rw [← HGS.out]; exact HB2.out.size)))) (by omega : w.heap.size ≤ w.heap.size + 1)
      obtain ⟨k0,k1,k2,k3,k4⟩ := cm_results _ hfin
      refine bodyPost_ret (v := .tuple #[cmV cmdZ,.bool false]) (by simp [results,Tryz.results77,go_sem,k0,k1,k2,k3,k4,cmdZ]) rfl ?_
      exact ⟨by rw [← HR2'.out]; rfl,hbfin⟩
 ·have hR2 := HRR.out
  rw [if_neg hll] at hR2
  have ne : ((l.length : Int) != (ps.length : Int)) = true := by rw [bne_iff_ne]; omega
  have HR2 := Lib.hid hR2
  clear hll hR2
  go_enter Tryz.func77,Tryz.ntmps77
  go_wp2_with (go_at_call 76; (refine HS.out.mono ?_); rintro e w2 ⟨v2,rfl,hT2,hb⟩; have HT2 := Lib.hid hT2; have hf2 := HF.out.below hb (Blk.lt HF.out); have hz2 := HZ.out.below hb (Blk.lt HZ.out); have HF2 := Lib.hid hf2; have HZ2 := Lib.hid hz2; have HB2 := Lib.hid (HB1.out.trans (hb.mono HB1.out.size)); have HW2 := Lib.hid (HW1.out.below hb); have HT12 := Lib.hid (HT1.out.below hb); obtain ⟨a2,cap2,rfl⟩ := hT2.form; have g0 : w2.cell? ⟨w.heap.size,0,none⟩ = some (.int .i64 fk) := hf2.cell 0; have g1 : w2.cell? ⟨w.heap.size,1,none⟩ = some (.bool fb) := hf2.cell 1; obtain ⟨z0,z1,z2,z3,z4⟩ := cm_results cmdZ hz2; have fz0 := hz2.frozen 0; have fz1 := hz2.frozen 1; have fz2 := hz2.frozen 2; have fz3 := hz2.frozen 3; have fz4 := hz2.frozen 4; clear hT2 hb hf2 hz2)
  have hfin := cm_set5 0 ⟨#[]⟩ 0 0 false HZ2.out
  have hbfin := bel_set5 0 ⟨#[]⟩ 0 0 false HB2.out (by omega : w.heap.size ≤ w.heap.size + 1)
  obtain ⟨k0,k1,k2,k3,k4⟩ := cm_results _ hfin
  refine bodyPost_ret (v := .tuple #[cmV cmdZ,.bool false]) (by simp [results,Tryz.results77,go_sem,k0,k1,k2,k3,k4,cmdZ]) rfl ?_
  exact ⟨by rw [← HR2.out],hbfin⟩

theorem parts_len : ∀ f ∈ formsC,(partsC f).length ≤ 1000 := by
 intro f hf
 obtain ⟨q,hq,rfl,hp⟩ := forms_parts f hf
 rw [hp]
 have := (flags q hq).2.2.2
 omega
theorem idx0 (w : World) : (Instr.index 108 (.agg formCells) (.int .i64 0)).run Tryz.prog w = .ok (fmV (formsC[0]'(by decide))) w := by kernel_rfl
theorem idx1 (w : World) : (Instr.index 108 (.agg formCells) (.int .i64 1)).run Tryz.prog w = .ok (fmV (formsC[1]'(by decide))) w := by kernel_rfl
theorem idx2 (w : World) : (Instr.index 108 (.agg formCells) (.int .i64 2)).run Tryz.prog w = .ok (fmV (formsC[2]'(by decide))) w := by kernel_rfl
theorem idx3 (w : World) : (Instr.index 108 (.agg formCells) (.int .i64 3)).run Tryz.prog w = .ok (fmV (formsC[3]'(by decide))) w := by kernel_rfl
theorem idx4 (w : World) : (Instr.index 108 (.agg formCells) (.int .i64 4)).run Tryz.prog w = .ok (fmV (formsC[4]'(by decide))) w := by kernel_rfl
theorem idx5 (w : World) : (Instr.index 108 (.agg formCells) (.int .i64 5)).run Tryz.prog w = .ok (fmV (formsC[5]'(by decide))) w := by kernel_rfl
theorem idx6 (w : World) : (Instr.index 108 (.agg formCells) (.int .i64 6)).run Tryz.prog w = .ok (fmV (formsC[6]'(by decide))) w := by kernel_rfl
theorem idx_form (i : Nat) (h : i < formsC.length) (w : World) : (Instr.index 108 (.agg formCells) (.int .i64 (i : Int))).run Tryz.prog w = .ok (fmV formsC[i]) w := by
 match i,h with
 | 0,_ => exact idx0 w
 | 1,_ => exact idx1 w
 | 2,_ => exact idx2 w
 | 3,_ => exact idx3 w
 | 4,_ => exact idx4 w
 | 5,_ => exact idx5 w
 | 6,_ => exact idx6 w
theorem forms_info : (Tryz.prog.info? 108).map (·.size) = some formCells.size := by kernel_rfl

def eqC (a b : Cm) : Bool := a.1 == b.1 && (a.2.1.toList == b.2.1.toList && (a.2.2.1 == b.2.2.1 && (a.2.2.2.1 == b.2.2.2.1 && a.2.2.2.2 == b.2.2.2.2)))
theorem eqC_iff (a b : Cm) : eqC a b = true ↔ a = b := by
 obtain ⟨a0,a1,a2,a3,a4⟩ := a
 obtain ⟨b0,b1,b2,b3,b4⟩ := b
 unfold eqC
 simp only [Bool.and_eq_true,beq_iff_eq,Prod.mk.injEq,Lib.toList_data]
 constructor
 ·rintro ⟨h1,h2,h3,h4,h5⟩
  exact ⟨h1,by apply ByteArray.ext; exact Array.ext' h2,h3,h4,h5⟩
 ·rintro ⟨h1,h2,h3,h4,h5⟩
  exact ⟨h1,by rw [h2],h3,h4,h5⟩
theorem eq_cm (a b : Cm) (w : World) : (binOp .eql 34 (cmV a) (cmV b)).run Tryz.prog w = .ok (.bool (eqC a b)) w := by
 obtain ⟨a0,a1,a2,a3,a4⟩ := a
 obtain ⟨b0,b1,b2,b3,b4⟩ := b
 unfold eqC
 go_simp
 by_cases h0 : a0 = b0
 ·by_cases h1 : a1.toList = b1.toList
  ·by_cases h2 : a2 = b2
   ·by_cases h3 : a3 = b3
    ·by_cases h4 : a4 = b4
     ·simp [h0,h1,h2,h3,h4]
     ·simp [h0,h1,h2,h3,h4]
    ·simp [h0,h1,h2,h3]
   ·simp [h0,h1,h2]
  ·simp [h0,h1]
 ·simp [h0]
theorem rep_len (a b d : Tx) : ∀ s : Tx,(replC a b d s).length ≤ s.length * (a.length + b.length + d.length + 1) := by
 intro s
 induction s using replC.induct with
 | case1 r ih => rw [replC,List.length_append,List.length_cons,List.length_cons,Nat.succ_mul,Nat.succ_mul]; omega
 | case2 r ih => rw [replC,List.length_append,List.length_cons,List.length_cons,Nat.succ_mul,Nat.succ_mul]; omega
 | case3 r ih => rw [replC,List.length_append,List.length_cons,List.length_cons,Nat.succ_mul,Nat.succ_mul]; omega
 | case4 x r h1 h2 h3 ih =>
  rw [replC.eq_4 a b d x r h1 h2 h3,List.length_cons,List.length_cons,Nat.succ_mul]; omega
 | case5 => simp [replC]
theorem form_facts : ∀ f ∈ formsC,wfT f.2.2.data.toList = true ∧ f.2.2.size ≤ 50 := by
 have h : (formsC.all fun f => wfT f.2.2.data.toList && decide (f.2.2.size ≤ 50)) = true := by kernel_rfl
 intro f hf
 have := List.all_eq_true.1 h f hf
 rw [Bool.and_eq_true,decide_eq_true_eq] at this
 exact this
theorem fill_len (f : Fm) (c : Cm) (hf : f ∈ formsC) (ht : c.2.1.size ≤ 1000) (hk : i64B c.2.2.1) (hv : i64B c.2.2.2.1) : (fillC f c).length ≤ 1000000 := by
 have h1 := rep_len c.2.1.data.toList (Lib.itoa c.2.2.1) (Lib.itoa c.2.2.2.1) f.2.2.data.toList
 have h2 := Lib.itoa_length_le c.2.2.1 hk.1 hk.2
 have h3 := Lib.itoa_length_le c.2.2.2.1 hv.1 hv.2
 have h4 : f.2.2.data.toList.length ≤ 50 := (form_facts f hf).2
 have h5 : c.2.1.data.toList.length ≤ 1000 := ht
 have h6 : f.2.2.data.toList.length * (c.2.1.data.toList.length + (Lib.itoa c.2.2.1).length + (Lib.itoa c.2.2.2.1).length + 1) ≤ 50 * 1043 := Nat.mul_le_mul h4 (by omega)
 show (replC _ _ _ _).length ≤ _
 omega
theorem bel_seq {B : Nat} {a b c : World} (hB : B ≤ a.heap.size) (h : Below B a b) (k : Below b.heap.size b c) : Below B a c := h.trans (k.mono (Nat.le_trans hB h.size))
set_option maxHeartbeats 4000000 in
theorem text_any (c : Cm) (m : Int) (w : World) (hw : Wq m w) (ht : c.2.1.size ≤ 1000) (hk : i64B c.2.2.1) (hv : i64B c.2.2.2.1) :
  Calls Tryz.prog 56 #[cmV c] w fun e w' => e = .returned (.string (bb (textC c))) ∧ Below w.heap.size w w' := by
 obtain ⟨R,hRR⟩ : ∃ R,textC c = R := ⟨_,rfl⟩
 rw [hRR]
 have hR0 : textF (formsC.drop 0) c = R := hRR
 have HFI := Lib.hid (fun f (hf : f ∈ formsC) W hW => fill_any f c m W hW hk hv (form_facts f hf).1 (Nat.le_trans (form_facts f hf).2 (by decide)) (fill_len f c hf ht hk hv))
 have HRD := Lib.hid (fun f (hf : f ∈ formsC) s v W hW hT => read_any f (partsC f) (scanA s).1 (scanA f.2.2).2 v m W hW hT (fun t h => Nat.le_trans (scanA_txt s t h) (by decide)) rfl (parts_len f hf))
 obtain ⟨ft,ffr,hfm⟩ := hw.frm
 obtain ⟨c0,c1,c2,c3,c4⟩ := c
 obtain ⟨W1,hW1⟩ : ∃ W1,w.alloc (.cells #[.int .i64 c0,.string c1,.int .i64 c2,.int .i64 c3,.bool c4] 34) = W1 := ⟨_,rfl⟩
 have hZ : Blk W1 w.heap.size 34 (cmCells (c0,c1,c2,c3,c4)) := by rw [← hW1]; exact Blk.new _ _ _
 have hb1 : Below w.heap.size w W1 := by rw [← hW1]; exact (Below.refl _ _).alloc (Nat.le_refl _) _
 have hfm1 : W1.heap[0]? = some (.cells formCells ft ffr) := (hb1.block _ (Array.getElem?_eq_some_iff.1 hfm).1).trans hfm
 have HFM := Lib.hid hfm1
 have HUN := Lib.hid Tryz.underlying108
 have HW1 := Lib.hid (hw.below hb1)
 have HZ := Lib.hid hZ
 have HB1 := Lib.hid hb1
 have HR0 := Lib.hid hR0
 clear hw ht hk hv hRR hR0 hZ hb1 hfm hfm1
 go_enter Tryz.func56,Tryz.ntmps56
 go_wp2_with ((with_reducible refine wpList_load_row (o := ⟨some 11,.load 108 (.global 0),_,_,_,_⟩) rfl 108 (.global 0) rfl 0 ?_ ft formCells ffr _ HFM.out HUN.out ?_ forms_info ?_); (· rfl); (· rfl))
 go_loopg [12] 7 (fun gk u12 wx => ∃ i : Nat,u12 = .int .i64 (i : Int) ∧ i + gk = 7 ∧ Below W1.heap.size W1 wx ∧ textF (formsC.drop i) (c0,c1,c2,c3,c4) = R)
 case atStart => exact ⟨0,rfl,rfl,Below.refl _ _,HR0.out⟩
 case round =>
  obtain ⟨i,rfl,hi,hB,hr⟩ := hrel
  have HB := Lib.hid hB
  have hzr := HZ.out.below hB (Blk.lt HZ.out)
  have HZR := Lib.hid hzr
  have HWR := Lib.hid (HW1.out.below hB)
  have HI := Lib.hid hi
  have hs1 : w.heap.size ≤ W1.heap.size := HB1.out.size
  cases gk with
  | zero =>
   have l1 : ¬ ((i : Int) < 7) := by omega
   have hR : R = [] := by rw [← hr,List.drop_of_length_le (by show 7 ≤ i; omega)]; rfl
   have HR := Lib.hid hR
   clear hB hzr hr hR hi hs1
   go_wp2
   go_ret
   exact ⟨by rw [HR.out]; rfl,HB1.out.trans (HB.out.mono HB1.out.size)⟩
  | succ gk =>
   have hlt : i < formsC.length := by show i < 7; omega
   have q1 := idx_form i hlt
   have hr2 := hr
   rw [List.drop_eq_getElem_cons hlt,textF] at hr2
   have hmem : formsC[i] ∈ formsC := List.getElem_mem hlt
   obtain ⟨f,hf⟩ : ∃ f,formsC[i] = f := ⟨_,rfl⟩
   rw [hf] at q1 hr2 hmem
   have HF1 := Lib.hid (HFI.out f hmem)
   have HD1 := Lib.hid (HRD.out f hmem (bb (fillC f (c0,c1,c2,c3,c4))))
   have l1 : (i : Int) < 7 := by omega
   obtain ⟨i1,hi1⟩ : ∃ i1,i + 1 = i1 := ⟨_,rfl⟩
   have wk : IntKind.i64.wrap ((i : Int) + 1) = (i1 : Int) := by rw [show (i : Int) + 1 = (i1 : Int) by omega]; exact IntWalk.i64_in _ (by omega)
   have HI1 := Lib.hid hi1
   rw [hi1] at hr2
   obtain ⟨T,hT⟩ : ∃ T,fillC f (c0,c1,c2,c3,c4) = T := ⟨_,rfl⟩
   rw [hT] at hr2 HF1 HD1
   have HSC := Lib.hid (fun W hW => scan_out (bb T) _ rfl m W hW)
   have HR2 := Lib.hid hr2
   obtain ⟨fk,fb,fx⟩ := f
   have hbf : Below wr.heap.size wr (wr.alloc (.cells #[.int .i64 fk,.bool fb,.string fx] 107)) := (Below.refl _ _).alloc (Nat.le_refl _) _
   have HBF := Lib.hid hbf
   obtain ⟨z0,z1,z2,z3,z4⟩ := cm_results _ (Blk.below hzr hbf hzr.lt)
   by_cases hkk : fk = c0
   ·by_cases hbb : fb = c4
    ·subst hkk hbb
     obtain ⟨cn,hcn⟩ : ∃ cn,(readC (fk,fb,fx) (scanA (bb T)).1).1 = cn := ⟨_,rfl⟩
     obtain ⟨F,hF⟩ : ∃ F,(readC (fk,fb,fx) (scanA (bb T)).1).2 = F := ⟨_,rfl⟩
     have hrc : readC (fk,fb,fx) (scanA (bb T)).1 = (cn,F) := by rw [← hcn,← hF]
     have HD2 : Hid (∀ v W,Wq m W → TR W v (scanA (bb T)).1 → Calls Tryz.prog 77 #[fmV (fk,fb,fx),v] W fun e w' => e = .returned (.tuple #[cmV cn,.bool F]) ∧ Below W.heap.size W w') := Lib.hid (fun v W hW hT => by have := HD1.out v W hW hT; unfold ReadP at this; rw [hrc] at this; exact this)
     obtain ⟨E,hE⟩ : ∃ E,eqC cn (fk,c1,c2,c3,fb) = E := ⟨_,rfl⟩
     have qe := eq_cm cn (fk,c1,c2,c3,fb)
     rw [hE] at qe
     have n1 : (fk != fk) = false := by simp
     have n2 : (fb != fb) = false := by simp
     rw [hrc] at hr2
     have hr4 : (if F = true ∧ E = true then T else textF (formsC.drop i1) (fk,c1,c2,c3,fb)) = R := by
      rw [← hr2]
      by_cases hFE : F = true ∧ E = true
      ·rw [if_pos hFE,if_pos ⟨rfl,rfl,by rw [hFE.1,(eqC_iff _ _).1 (hE.trans hFE.2)]⟩]
      ·rw [if_neg hFE,if_neg (fun h => hFE (by
        have h2 := h.2.2
        injection h2 with h3 h4
        exact ⟨h4,by rw [← hE]; exact (eqC_iff _ _).2 h3⟩))]
     have HR4 := Lib.hid hr4
     have HWF := Lib.hid (HWR.out.below hbf)
     have HZF := Lib.hid (Blk.below hzr hbf hzr.lt)
     have HF2 := Lib.hid (HF1.out _ HWF.out)
     have hfb : Blk (wr.alloc (.cells #[.int .i64 fk,.bool fb,.string fx] 107)) wr.heap.size 107 #[.int .i64 fk,.bool fb,.string fx] := Blk.new _ _ _
     have HFB := Lib.hid hfb
     obtain ⟨d0,d1,d2,d3,d4⟩ := cn
     clear hB hzr hr hr2 hi hs1 hmem hf hi1 hbf hlt hT hcn hF hrc hE hr4 hfb HR2 HD1 HF1 HRD HFI
     cases F with
     | true =>
      cases E with
      | true =>
       go_wp2_with (first
        | (go_at_call 75; (refine HF2.out.mono ?_); rintro e w5 ⟨rfl,hb5⟩; have HB5 := Lib.hid hb5; have HW5 := Lib.hid (HWF.out.below hb5); have HZ5 := Lib.hid (HZF.out.below hb5 (Blk.lt HZF.out)); have HFB5 := Lib.hid (HFB.out.below hb5 (Blk.lt HFB.out)); clear hb5)
        | (go_at_call 76; (refine (HSC.out _ HW5.out.wd).mono ?_); rintro e w6 ⟨v6,rfl,hT6,hb6⟩; have HT6 := Lib.hid hT6; have HB6 := Lib.hid hb6; have HW6 := Lib.hid (HW5.out.below hb6); have hz6 := HZ5.out.below hb6 (Blk.lt HZ5.out); have HZ6 := Lib.hid hz6; have hf6 := HFB5.out.below hb6 (Blk.lt HFB5.out); have g0 : w6.cell? ⟨wr.heap.size,0,none⟩ = some (.int .i64 fk) := hf6.cell 0; have g1 : w6.cell? ⟨wr.heap.size,1,none⟩ = some (.bool fb) := hf6.cell 1; have g2 : w6.cell? ⟨wr.heap.size,2,none⟩ = some (.string fx) := hf6.cell 2; clear hT6 hb6 hz6 hf6)
        | (go_at_call 77; (refine (HD2.out _ _ HW6.out HT6.out).mono ?_); rintro e w7 ⟨rfl,hb7⟩; have HB7 := Lib.hid hb7; have hz7 := HZ6.out.below hb7 (Blk.lt HZ6.out); have y := (fun o => cm_results _ (hz7.alloc o)); have y0 := (fun o => (y o).1); have y1 := (fun o => (y o).2.1); have y2 := (fun o => (y o).2.2.1); have y3 := (fun o => (y o).2.2.2.1); have y4 := (fun o => (y o).2.2.2.2); clear hb7 hz7 y))
       go_ret
       have hbb := bel_seq (Nat.le_refl _) (bel_seq (Nat.le_refl _) (bel_seq (Nat.le_refl _) (bel_seq (Nat.le_refl _) HB.out HBF.out) HB5.out) HB6.out) HB7.out
       refine ⟨?_,(bel_seq (Nat.le_refl _) HB1.out hbb).alloc (Nat.le_trans HB1.out.size hbb.size) _⟩
       have := HR4.out
       simp only [and_self,if_true] at this
       rw [← this]; rfl
      | false =>
       go_wp2_with (first
        | (go_at_call 75; (refine HF2.out.mono ?_); rintro e w5 ⟨rfl,hb5⟩; have HB5 := Lib.hid hb5; have HW5 := Lib.hid (HWF.out.below hb5); have HZ5 := Lib.hid (HZF.out.below hb5 (Blk.lt HZF.out)); have HFB5 := Lib.hid (HFB.out.below hb5 (Blk.lt HFB.out)); clear hb5)
        | (go_at_call 76; (refine (HSC.out _ HW5.out.wd).mono ?_); rintro e w6 ⟨v6,rfl,hT6,hb6⟩; have HT6 := Lib.hid hT6; have HB6 := Lib.hid hb6; have HW6 := Lib.hid (HW5.out.below hb6); have hz6 := HZ5.out.below hb6 (Blk.lt HZ5.out); have HZ6 := Lib.hid hz6; have hf6 := HFB5.out.below hb6 (Blk.lt HFB5.out); have g0 : w6.cell? ⟨wr.heap.size,0,none⟩ = some (.int .i64 fk) := hf6.cell 0; have g1 : w6.cell? ⟨wr.heap.size,1,none⟩ = some (.bool fb) := hf6.cell 1; have g2 : w6.cell? ⟨wr.heap.size,2,none⟩ = some (.string fx) := hf6.cell 2; clear hT6 hb6 hz6 hf6)
        | (go_at_call 77; (refine (HD2.out _ _ HW6.out HT6.out).mono ?_); rintro e w7 ⟨rfl,hb7⟩; have HB7 := Lib.hid hb7; have hz7 := HZ6.out.below hb7 (Blk.lt HZ6.out); have y := (fun o => cm_results _ (hz7.alloc o)); have y0 := (fun o => (y o).1); have y1 := (fun o => (y o).2.1); have y2 := (fun o => (y o).2.2.1); have y3 := (fun o => (y o).2.2.2.1); have y4 := (fun o => (y o).2.2.2.2); clear hb7 hz7 y))
       go_roundg gk
       case measure => exact Nat.lt_succ_self _
       case rel =>
        have hbb := bel_seq (Nat.le_refl _) (bel_seq (Nat.le_refl _) (bel_seq (Nat.le_refl _) (bel_seq (Nat.le_refl _) HB.out HBF.out) HB5.out) HB6.out) HB7.out
        exact ⟨i1,rfl,by have := HI.out; have := HI1.out; omega,hbb.alloc hbb.size _,by have := HR4.out; simpa using this⟩
     | false =>
      go_wp2_with (first
       | (go_at_call 75; (refine HF2.out.mono ?_); rintro e w5 ⟨rfl,hb5⟩; have HB5 := Lib.hid hb5; have HW5 := Lib.hid (HWF.out.below hb5); have HZ5 := Lib.hid (HZF.out.below hb5 (Blk.lt HZF.out)); have HFB5 := Lib.hid (HFB.out.below hb5 (Blk.lt HFB.out)); clear hb5)
       | (go_at_call 76; (refine (HSC.out _ HW5.out.wd).mono ?_); rintro e w6 ⟨v6,rfl,hT6,hb6⟩; have HT6 := Lib.hid hT6; have HB6 := Lib.hid hb6; have HW6 := Lib.hid (HW5.out.below hb6); have hz6 := HZ5.out.below hb6 (Blk.lt HZ5.out); have HZ6 := Lib.hid hz6; have hf6 := HFB5.out.below hb6 (Blk.lt HFB5.out); have g0 : w6.cell? ⟨wr.heap.size,0,none⟩ = some (.int .i64 fk) := hf6.cell 0; have g1 : w6.cell? ⟨wr.heap.size,1,none⟩ = some (.bool fb) := hf6.cell 1; have g2 : w6.cell? ⟨wr.heap.size,2,none⟩ = some (.string fx) := hf6.cell 2; clear hT6 hb6 hz6 hf6)
       | (go_at_call 77; (refine (HD2.out _ _ HW6.out HT6.out).mono ?_); rintro e w7 ⟨rfl,hb7⟩; have HB7 := Lib.hid hb7; have hz7 := HZ6.out.below hb7 (Blk.lt HZ6.out); have y := (fun o => cm_results _ (hz7.alloc o)); have y0 := (fun o => (y o).1); have y1 := (fun o => (y o).2.1); have y2 := (fun o => (y o).2.2.1); have y3 := (fun o => (y o).2.2.2.1); have y4 := (fun o => (y o).2.2.2.2); clear hb7 hz7 y))
      go_roundg gk
      case measure => exact Nat.lt_succ_self _
      case rel =>
       have hbb := bel_seq (Nat.le_refl _) (bel_seq (Nat.le_refl _) (bel_seq (Nat.le_refl _) (bel_seq (Nat.le_refl _) HB.out HBF.out) HB5.out) HB6.out) HB7.out
       exact ⟨i1,rfl,by have := HI.out; have := HI1.out; omega,hbb.alloc hbb.size _,by have := HR4.out; simpa using this⟩
    ·have n1 : (fk != c0) = false := by rw [bne_eq_false_iff_eq]; exact hkk
     have n2 : (fb != c4) = true := by rw [bne_iff_ne]; exact hbb
     have hr3 : textF (formsC.drop i1) (c0,c1,c2,c3,c4) = R := by rw [← HR2.out,if_neg (fun h => hbb h.2.1)]
     have HR3 := Lib.hid hr3
     clear n2 hB hzr hr hr2 hi hs1 hmem hf hi1 hbf hlt hT hkk hr3
     cases fb <;> cases c4
     all_goals first
      | exact absurd rfl hbb
      | (clear hbb
         go_wp2
         go_roundg gk
         case measure => exact Nat.lt_succ_self _
         case rel => exact ⟨i1,rfl,by have := HI.out; have := HI1.out; omega,HB.out.trans (HBF.out.mono HB.out.size),HR3.out⟩)
   ·have n1 : (fk != c0) = true := by rw [bne_iff_ne]; exact hkk
    have hr3 : textF (formsC.drop i1) (c0,c1,c2,c3,c4) = R := by rw [← HR2.out,if_neg (fun h => hkk h.1)]
    have HR3 := Lib.hid hr3
    clear hB hzr hr hr2 hi hs1 hmem hf hi1 hbf hlt hT hkk hr3
    go_wp2
    go_roundg gk
    case measure => exact Nat.lt_succ_self _
    case rel => exact ⟨i1,rfl,by have := HI.out; have := HI1.out; omega,HB.out.trans (HBF.out.mono HB.out.size),HR3.out⟩
end Go.Proofs.YtjmmninopagpjaaGreatDoor
