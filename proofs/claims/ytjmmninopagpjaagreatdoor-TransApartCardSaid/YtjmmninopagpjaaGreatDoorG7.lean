/- Tal Tak Tam -/
import Derived.Test.YtjmmninopagpjaaGreatDoorG6
import Derived.Test.YtjmmninopagpjaaGreatDoorG1
set_option linter.unusedSimpArgs false
set_option linter.unusedVariables false
namespace Go.Proofs.YtjmmninopagpjaaGreatDoor
open Go.ChangeShapes Go.WideShapes Go.ChangeAt Go.RowKit Go.ChangeMaps
set_option maxRecDepth 100000
set_option linter.unusedVariables false
set_option linter.unusedSimpArgs false

set_option maxHeartbeats 2000000 in
theorem begin_any (B : Nat) (w : World) (g n : Nat) (C : Cdb) (D : Dbp) (h : CD B w g n C D) (hn : n ≤ 100000) (hB : B ≤ w.heap.size) (id : Int) (hi : I9 id) (hs : isS id = true) (R : Dbp × Int) (hR : beginP D id = R) :
  Calls Tryz.prog 36 #[SL.ptr g,.int .i64 id] w fun e w' => e = .returned (.int .i64 R.2) ∧ StD B g (n + 1) C R.1 w w' := by
 obtain ⟨c0,c1,c2⟩ := h.cells
 have hst : statP D id = stO (D.2 id) := by unfold statP; rw [hs]; rfl
 have HST := Lib.hid (status_any B w g n C D h id hi _ hst)
 have H := Lib.hid h
 have HB := Lib.hid hB
 have HN := Lib.hid hn
 have HK := Lib.hid (keyI9 id hi)
 unfold beginP at hR
 cases hd : D.2 id with
 | some p =>
  rw [hd] at HST hR
  subst hR
  obtain ⟨z,hz⟩ : ∃ z,stO (some p) = z := ⟨_,rfl⟩
  have hz2 : z ≠ 73 := by
   rw [← hz]
   obtain ⟨b,T⟩ := p
   cases b <;> simp [stO]
  rw [hz] at HST
  clear h c0 c1 c2 hB hi hd hst hs hz hn
  go_enter Tryz.func36,Tryz.ntmps36
  go_wp2_with fail
  refine HST.out.mono ?_
  rintro e w' ⟨rfl,rfl⟩
  go_wp2
  go_ret
  exact ⟨rfl,(StD.refl H.out (Below.refl _ _)).mono (Nat.le_succ _)⟩
 | none =>
  rw [hd] at HST hR
  subst hR
  have HST : Hid (Calls Tryz.prog 20 #[SL.ptr g,.int .i64 id] w fun e w' => e = .returned (.int .u8 73) ∧ w = w') := HST
  have HD := Lib.hid hd
  have HNM : Hid (n < maxLen) := Lib.hid (by unfold maxLen; omega)
  have hmm := @run_makeMap Tryz.prog
  obtain ⟨W1,hW1⟩ : ∃ W,w.alloc (.map #[] 0) = W := ⟨_,rfl⟩
  obtain ⟨W2,hW2⟩ : ∃ W,W1.alloc (.cells #[.int .u8 84,.map (some w.heap.size)] 73) = W := ⟨_,rfl⟩
  have b1 : Below w.heap.size w W1 := by rw [← hW1]; exact (Below.refl _ _).alloc (Nat.le_refl _) _
  have b2 : Below W1.heap.size W1 W2 := by rw [← hW2]; exact (Below.refl _ _).alloc (Nat.le_refl _) _
  have s1 : W1.heap.size = w.heap.size + 1 := by rw [← hW1]; simp
  have m1 : MV.MapV Tryz.prog 9 W2 w.heap.size 0 (fun _ => none) := by
   have : MV.MapV Tryz.prog 9 W1 w.heap.size 0 (fun _ => none) := by rw [← hW1]; exact MV.MapV.made _ _ w
   exact this.below b2
  have k2 : SL.Bk W2 W1.heap.size 73 #[.int .u8 84,.map (some w.heap.size)] := by rw [← hW2]; exact SL.Bk.new _ _ _
  obtain ⟨tb,htb⟩ : ∃ b,W1.heap.size = b := ⟨_,rfl⟩
  have hcd := h.below (b1.trans (b2.mono b1.size))
  have H2 := Lib.hid hcd
  have B2 := Lib.hid (b1.trans (b2.mono b1.size))
  have M1 := Lib.hid m1
  have K2 := Lib.hid k2
  have S1 := Lib.hid s1
  have TBE := Lib.hid htb
  obtain ⟨w3,hrun,hm3,ht3⟩ := hcd.mp.put intK9 Tryz.underlying56 HNM.out (keyI9 id hi) (SL.ptr tb)
  have HM4 : Hid (MV.MapV Tryz.prog 3 w3 C.mb (n + 1) (gF ⟨C.mb,C.vs,setG C.G id (some (tb,w.heap.size))⟩)) := Lib.hid (hm3.congr fun kl => gF_set C id (some (tb,w.heap.size)) kl _)
  have HT3 := Lib.hid ht3
  have e2 : W2.cell? ⟨g,2,none⟩ = some (.map (some C.mb)) := hcd.cells.2.2
  clear h c0 c1 hB hi hd hst hs hn b1 b2 s1 m1 k2 hcd hm3 ht3
  go_enter Tryz.func36,Tryz.ntmps36
  go_wp2_with fail
  refine HST.out.mono ?_
  rintro e w' ⟨rfl,rfl⟩
  go_wp2
  go_ret
  refine ⟨rfl,?_⟩
  have hgr := HT3.out.grown
  have hs1 := S1.out
  have htb := TBE.out
  have hc : SL.Chg (C.own g) w w3 := (SL.Chg.of_below B2.out).grown hgr fun k hk _ => by injection hk with hk; subst hk; exact .inr (.inl rfl)
  have hbl : ∀ b,b < w.heap.size → b ≠ C.mb → w3.heap[b]? = w.heap[b]? := fun b hb hne => (hgr.block b (Nat.lt_of_lt_of_le hb B2.out.size) (fun e => hne (by injection e))).trans (B2.out.block b hb)
  have hmb := H.out.mp.lt
  refine H.out.alt (Nat.le_succ n) HB.out hc id (some (tb,w.heap.size)) (some (false,[])) (hbl g H.out.bk.lt (bk_nmap H.out.bk H.out.mp.obj)) HM4.out (fun i p _ hp => ?_) (fun p hp => ?_) (fun e => (by cases e))
  ·obtain ⟨x,_,h2,h3⟩ := H.out.tr i p hp
   exact ⟨hbl p.1 h2.lt (bk_nmap h2 H.out.mp.obj),hbl p.2 h3.lt (H.out.mo i p hp)⟩
  ·injection hp with hp
   subst hp
   have k3 : SL.Bk w3 tb 73 (trC false w.heap.size) := by
    have hk := K2.out
    rw [htb] at hk
    exact hk.heap (hgr.block tb hk.lt (fun e => bk_nmap hk H2.out.mp.obj (by injection e)))
   have m3 : MV.MapV Tryz.prog 9 w3 w.heap.size 0 (fun _ => none) := M1.out.keep (hgr.block _ M1.out.lt (fun e => by injection e with e; omega))
   refine ⟨(false,[]),rfl,k3,⟨fun _ => none,(m3.mono (Nat.zero_le _)).congr fun kl => ?_,fun x p hp => (by cases hp),fun x => rfl⟩,by show w.heap.size ≠ C.mb; omega,fun i r hi hr => ?_,.inr ⟨by show w.heap.size ≤ tb; omega,Nat.le_refl _⟩⟩
   ·cases kl <;> rfl
   ·obtain ⟨x,_,h2,h3⟩ := H.out.tr i r hr
    have := h2.lt
    have := h3.lt
    exact ⟨by show tb ≠ r.1; omega,by show w.heap.size ≠ r.2; omega⟩

set_option maxHeartbeats 2000000 in
theorem fail_any (B : Nat) (w : World) (g n : Nat) (C : Cdb) (D : Dbp) (h : CD B w g n C D) (hB : B ≤ w.heap.size) (id : Int) (hi : I9 id) :
  Calls Tryz.prog 40 #[SL.ptr g,.int .i64 id] w fun e w' => e = .returned (.tuple #[]) ∧ StD B g n C (failP D id) w w' := by
 obtain ⟨c0,c1,c2⟩ := h.cells
 have hl := open_look h id hi
 have H := Lib.hid h
 have HB := Lib.hid hB
 rcases h.at_ id with ⟨hg,hd⟩ | ⟨p,q,hg,hd,hk,ho⟩
 ·rw [hg] at hl
  have HD := Lib.hid hd
  clear h c0 c1 hB hi hd
  simp only [Option.map_none,Option.getD_none,Option.isSome_none] at hl
  go_enter Tryz.func40,Tryz.ntmps40
  go_wp2
  first | go_end0 | (refine bodyPost_ret (v := .tuple #[]) (by simp [results,Tryz.results40,go_sem]) rfl ?_)
  refine ⟨rfl,?_⟩
  have e : failP D id = D := by
   unfold failP failO
   rw [HD.out]
   show (D.1,setO D.2 id none) = D
   rw [show (none : Ses) = D.2 id from HD.out.symm,setO_self]
  rw [e]
  exact .refl H.out (Below.refl _ _)
 ·obtain ⟨tb,ob⟩ := p
  rw [hg] at hl
  have f0 : w.frozen? ⟨tb,0,none⟩ = false := hk.frozen 0
  have k0 : w.cell? ⟨tb,0,none⟩ = some (.int .u8 (if q.1 = true then 69 else 84)) := hk.cell 0
  obtain ⟨z,hz⟩ : ∃ z : Int,(if q.1 = true then 69 else 84) = z := ⟨_,rfl⟩
  rw [hz] at k0
  have HKK := Lib.hid hk
  have HO := Lib.hid ho
  have HD := Lib.hid hd
  have HGG := Lib.hid hg
  clear h c0 c1 hB hi hk ho hd hg hz
  simp only [Option.map_some,Option.getD_some,Option.isSome_some] at hl
  go_enter Tryz.func40,Tryz.ntmps40
  go_wp2
  first | go_end0 | (refine bodyPost_ret (v := .tuple #[]) (by simp [results,Tryz.results40,go_sem]) rfl ?_)
  refine ⟨rfl,?_⟩
  have hown : C.own g tb := .inr (.inr ⟨id,(tb,ob),HGG.out,.inl rfl⟩)
  have hc : SL.Chg (C.own g) w (w.setCell ⟨tb,0,none⟩ (.int .u8 69)) := (SL.Chg.refl _ _).setCell (p := ⟨tb,0,none⟩) hown _
  have hne : ∀ {b},b ≠ tb → (w.setCell ⟨tb,0,none⟩ (.int .u8 69)).heap[b]? = w.heap[b]? := fun hb => Below.heap_setCell _ _ _ _ hb
  have hk := ((H.out.kc hc fun _ e => e)).kt
  have e : failP D id = (D.1,setO D.2 id (some (true,q.2))) := by
   unfold failP failO
   rw [HD.out]
  rw [e]
  refine H.out.alt (Nat.le_refl _) HB.out hc id (some (tb,ob)) _ (hne (H.out.bk.ne_ HKK.out tr_ne_db)) ?_ (fun i r hi hr => ?_) (fun r hr => ?_) (fun e => (by cases e))
  ·rw [← HGG.out,setG_self]
   exact H.out.mp.keep (hne (bk_nmap HKK.out H.out.mp.obj).symm)
  ·obtain ⟨x,_,h2,h3⟩ := H.out.tr i r hr
   exact ⟨hne (H.out.ap i id r (tb,ob) hr HGG.out hi).1,hne (bk_nmap HKK.out h3.obj).symm⟩
  ·injection hr with hr
   subst hr
   refine ⟨(true,q.2),rfl,HKK.out.set_ 0 _,HO.out.keep hk (hne (bk_nmap HKK.out HO.out.obj).symm),H.out.mo id (tb,ob) HGG.out,fun i r hi hr => ?_,.inl ⟨hown,.inr (.inr ⟨id,(tb,ob),HGG.out,.inr rfl⟩)⟩⟩
   have := H.out.ap i id r (tb,ob) hr HGG.out hi
   exact ⟨this.1.symm,this.2.symm⟩

def SeeP (s : List Tb) (w : World) (e : Ending) (w' : World) : Prop := ∃ v x,e = .returned v ∧ FS w.heap.size w' v x ∧ tbs x = s ∧ Below w.heap.size w w'
theorem scopy_any (v : Value) (s : List Tb) (w : World) (h : SQ w v s) (hf : FewS s) :
  Calls Tryz.prog 31 #[v] w (SeeP s w) := by
 refine (copy_any v s w h.sr hf).mono ?_
 rintro e w' ⟨g,x,rfl,_,h1,h2,_,h3⟩
 have hl : s.length = x.length := by rw [← h2,tbs_len]
 exact ⟨_,x,rfl,h1,h2,h3⟩
set_option maxHeartbeats 2000000 in
theorem committed_any (B : Nat) (w : World) (g n : Nat) (C : Cdb) (D : Dbp) (h : CD B w g n C D) (hf : FewS D.1) :
  Calls Tryz.prog 19 #[SL.ptr g] w (SeeP D.1 w) := by
 obtain ⟨c0,c1,c2⟩ := h.cells
 have HG := Lib.hid (dgiven_yes w g c0)
 have HC := Lib.hid (scopy_any C.vs D.1 w h.sq hf)
 obtain ⟨a,c,hv⟩ := h.sq.form
 rw [hv] at c1 HC
 clear h hf hv c0 c2
 go_enter Tryz.func19,Tryz.ntmps19
 go_wp2_with fail
 refine HG.out.mono ?_
 rintro e w' ⟨rfl,rfl⟩
 go_wp2_with fail
 refine HC.out.mono ?_
 rintro e w' ⟨v,x,rfl,h1,h2,h3⟩
 have H1 := Lib.hid h1
 have H2 := Lib.hid h2
 have H3 := Lib.hid h3
 clear h1 h2 h3
 go_wp2
 go_ret
 exact ⟨v,x,rfl,H1.out,H2.out,H3.out⟩
theorem keyStr_inv (key : Value) (kl : Lit) (h : keyOf Tryz.prog 9 key = some kl) : ∃ x : ByteArray,key = .string x := by
 cases key <;> simp [keyOf,mapKey,Tryz.underlying9] at h
 exact ⟨_,rfl⟩
theorem keyStr_lit {x : ByteArray} {kl : Lit} (h : keyOf Tryz.prog 9 (.string x) = some kl) : kl = .string x.data.toList := by
 simp [keyOf,mapKey,Tryz.underlying9] at h
 exact h.2.symm
def SeeI (S T : List Tb) (left : Lit → Bool) (s : List Tb) : Prop := upW s ∧ ∀ x : ByteArray,lkT s x = if left (.string x.data.toList) = true then lkT S x else (lkT T x).or (lkT S x)
theorem SeeI.end_ {S T s : List Tb} {left : Lit → Bool} (h : SeeI S T left s) (hl : ∀ kl,left kl = false) (hS : upW S) (hT : upW T) : s = overS S T :=
 lk_ext h.1 (over_up hS) fun x => by
  rw [h.2 x,over_lk hS hT,if_neg (by rw [hl]; simp)]
theorem SeeI.step {S T s : List Tb} {left : Lit → Bool} (h : SeeI S T left s) {n : ByteArray} {l : List Rw} (hl : left (.string n.data.toList) = true) (hn : lkT T n = some l) : SeeI S T (fun z => left z && !z.sameKey (.string n.data.toList)) (putS s (n,l)) := by
 refine ⟨put_up h.1 _,fun x => ?_⟩
 rw [put_lk h.1]
 show (if n = x then some l else lkT s x) = if (left (.string x.data.toList) && !(Lit.string x.data.toList).sameKey (.string n.data.toList)) = true then lkT S x else (lkT T x).or (lkT S x)
 by_cases e : n = x
 ·subst e
  rw [if_pos rfl,WideAt.sameKey_self (show WideAt.IsKeyLit (Lit.string _) from trivial),hn]
  simp
 ·have hne : (Lit.string x.data.toList).sameKey (.string n.data.toList) = false := Maps.sameKey_ne (fun e2 => e (by injection e2 with e2; exact (MV.ba_of e2).symm))
  rw [if_neg e,h.2 x,hne]
  simp
theorem kt_iter {w w' : World} {r : Nat} (hr : ∃ m s se c,w.heap[r]? = some (.mapIter m s se c)) (hg : w.grownBy w' (some r)) : Kt w w' := fun b cs t fr _ hb => (hg.block b (Array.getElem?_eq_some_iff.1 hb).1 (fun e => by
 obtain ⟨m,s,se,c,hr⟩ := hr
 injection e with e
 subst e
 rw [hr] at hb
 cases hb)).trans hb
theorem MV.RangeV.iter {P : Program} {K : TypeId} {w : World} {b r n cnt : Nat} {f : Lit → Option Value} {left : Lit → Bool} (h : MV.RangeV P K w b r n f left cnt) : ∃ m s se c,w.heap[r]? = some (.mapIter m s se c) := by
 obtain ⟨D,⟨es,clock,since,seen,c0,hb,F,hs,hD,hr,rest⟩,ha⟩ := h
 exact ⟨_,_,_,_,hr⟩
set_option maxHeartbeats 8000000 in
theorem sees_any (B : Nat) (w : World) (g n : Nat) (C : Cdb) (D : Dbp) (h : CD B w g n C D) (hn : n ≤ 100000) (id : Int) (hi : I9 id) (hS : upW D.1) (hT : upW (ownO (D.2 id))) (hl : D.1.length ≤ 100000) (hf : FewS (seenP D id)) (R : List Tb) (hR : seenP D id = R) :
  Calls Tryz.prog 25 #[SL.ptr g,.int .i64 id] w (SeeP R w) := by
 obtain ⟨c0,c1,c2⟩ := h.cells
 have HG := Lib.hid (dgiven_yes w g c0)
 have HO := Lib.hid (own9_any B w g n C D h id hi)
 obtain ⟨a,c,hv⟩ := h.sq.form
 rw [hv] at c1
 have hsq := h.sq
 rw [hv] at hsq
 rw [hR] at hf
 rcases h.at_ id with ⟨hg,hd⟩ | ⟨⟨tb,ob⟩,q,hg,hd,_,hom⟩
 ·have hr0 : R = D.1 := by
   rw [← hR]
   unfold seenP
   rw [hd]; rfl
  rw [hg] at HO
  have HO : Hid (Calls Tryz.prog 48 #[SL.ptr g,.int .i64 id] w fun e w' => e = .returned (.map none) ∧ w = w') := HO
  subst hr0
  have HSQ := Lib.hid hsq
  have HF := Lib.hid hf
  have hrg := run_range_nilMap (P := Tryz.prog) w 71 _ _ Tryz.underlying71
  have hnx : ∀ ty,(Instr.next (.pointer (some ⟨w.heap.size,0,none⟩)) false ty).run Tryz.prog (w.alloc (.mapIter none 0 #[] 0)) = _ := fun ty => run_next_nilMap w ty 0 0 #[]
  have hb1 : Below w.heap.size w (w.alloc (.mapIter none 0 #[] 0)) := (Below.refl _ _).alloc (Nat.le_refl _) _
  have HC := Lib.hid (scopy_any _ D.1 (w.alloc (.mapIter none 0 #[] 0)) (hsq.bel hb1) hf)
  have HB1 := Lib.hid hb1
  clear h hsq hf hv hR hd hg c0 c2 hS hT hl hb1 hi
  go_enter Tryz.func25,Tryz.ntmps25
  go_wp2_with fail
  refine HG.out.mono ?_
  rintro e w' ⟨rfl,rfl⟩
  go_wp2_with fail
  refine HO.out.mono ?_
  rintro e w' ⟨rfl,rfl⟩
  go_wp2
  refine wp_loop_rounds 1 ?_
  rw [rounds_succ]
  go_wp2_with fail
  refine HC.out.mono ?_
  rintro e w' ⟨v,x,rfl,h1,h2,h3⟩
  have H1 := Lib.hid (h1.mono (B' := w.heap.size) HB1.out.size)
  have H2 := Lib.hid h2
  have H3 := Lib.hid (HB1.out.trans (h3.mono HB1.out.size))
  clear h1 h2 h3
  go_wp2
  go_ret
  exact ⟨v,x,rfl,H1.out,H2.out,H3.out⟩
 ·rw [hg] at HO
  have HO : Hid (Calls Tryz.prog 48 #[SL.ptr g,.int .i64 id] w fun e w' => e = .returned (.map (some ob)) ∧ w = w') := HO
  have ho : ownO (D.2 id) = q.2 := by rw [hd]; rfl
  rw [ho] at hT
  obtain ⟨U,hm,hur,huT⟩ := hom
  have hr0 : overS D.1 q.2 = R := by
   rw [← hR]
   unfold seenP
   rw [ho]
  obtain ⟨S,hSS⟩ : ∃ S,D.1 = S := ⟨_,rfl⟩
  obtain ⟨T,hTT⟩ : ∃ T,q.2 = T := ⟨_,rfl⟩
  rw [hSS] at hS hl hsq hr0 c1
  rw [hTT] at hT huT hr0
  have HM := Lib.hid hm
  have HUR := Lib.hid hur
  have HUT := Lib.hid huT
  have HSQ := Lib.hid hsq
  have HF := Lib.hid hf
  have HS := Lib.hid hS
  have HT := Lib.hid hT
  have HL := Lib.hid hl
  have HN := Lib.hid hn
  have HR := Lib.hid hr0
  clear h hsq hf hv hR hd hg c0 c2 hS hT hl hn hi hm hur huT ho hr0 hSS hTT
  go_enter Tryz.func25,Tryz.ntmps25
  go_wp2_with fail
  refine HG.out.mono ?_
  rintro e w' ⟨rfl,rfl⟩
  go_wp2_with fail
  refine HO.out.mono ?_
  rintro e w' ⟨rfl,rfl⟩
  go_wp2_with (at_range; refine MV.wpList_range rfl _ 71 rfl 63 strK9 Tryz.underlying71 rfl HM.out ?_; intro w0 cnt0 left0 hrg0 hleft0 hcnt0 hg0 hs0)
  have hb0 : Below w.heap.size w w0 := ⟨hg0.os,hg0.tape,hg0.output,hg0.size,fun k hk => hg0.block k hk (by simp)⟩
  have HRG0 := Lib.hid hrg0
  have HLE0 := Lib.hid hleft0
  have HCN0 := Lib.hid hcnt0
  have HB0 := Lib.hid hb0
  clear hrg0 hleft0 hcnt0 hg0 hs0 hb0
  go_frame
  go_loopw [5] (fun u5 wr => ∃ (left : Lit → Bool) (cnt : Nat) (s : List Tb),Hid (MV.RangeV Tryz.prog 9 wr ob w.heap.size n (MV.fS fun x => (U x).map fun p => tbV x p.1) left cnt) ∧ Hid (SQ wr u5 s) ∧ Hid (SeeI S T left s) ∧ Hid (s.length + cnt ≤ 200000) ∧ Hid (Below w.heap.size w wr)) (fun _ wr => wr.rangeLeft ob w.heap.size)
  case atStart =>
   refine ⟨left0,cnt0,S,HRG0,Lib.hid (HSQ.out.bel HB0.out),Lib.hid ⟨HS.out,fun x => ?_⟩,Lib.hid (by have := HL.out; have := HN.out; have := HCN0.out; omega),HB0⟩
   split
   ·rfl
   ·rename_i hlx
    rw [HLE0.out _ (show WideAt.IsKeyLit (Lit.string _) from trivial)] at hlx
    have e : lkT T x = none := by
     rw [← HUT.out x]
     have hlx : ¬ ((U x).map fun p => tbV x p.1).isSome = true := hlx
     cases hu : U x with
     | none => rfl
     | some p => rw [hu] at hlx; simp at hlx
    rw [e]; rfl
  case round =>
   obtain ⟨left,cnt,s,hrg,hsq,hsi,hln,hbw⟩ := hrel
   have hsl : s.length ≤ 1000000 := by have := hln.out; omega
   have hform := hsq.out.form
   have HSL := Lib.hid hsl
   clear HRG0 HLE0 HCN0 HB0 hsl
   obtain ⟨a5,c5,rfl⟩ := hform
   go_wp2_with (at_next; refine MV.wpList_step (fun x : ByteArray => Value.string x) keyStr_inv rfl _ rfl strK9 w.heap.size left cnt rfl hrg.out ?_ ?_)
   ·intro hl0
    have HL0 := Lib.hid hl0
    clear hl0
    have hC := scopy_any _ s wr hsq.out (by
     rw [hsi.out.end_ HL0.out HS.out HT.out,HR.out]; exact HF.out)
    have HC := Lib.hid hC
    clear hC
    go_wp2_with fail
    refine HC.out.mono ?_
    rintro e w' ⟨v,x,rfl,h1,h2,h3⟩
    have H1 := Lib.hid (h1.mono (B' := w.heap.size) hbw.out.size)
    have H2 : Hid (tbs x = R) := Lib.hid (by rw [h2,hsi.out.end_ HL0.out HS.out HT.out,HR.out])
    have H3 := Lib.hid (hbw.out.trans (h3.mono hbw.out.size))
    clear h1 h2 h3
    go_wp2
    go_ret
    exact ⟨v,x,rfl,H1.out,H2.out,H3.out⟩
   ·intro x c kl w1 cnt1 hkey hlk hfk hrg1 hlt hg1 hs1 hen
    obtain rfl := keyStr_lit hkey
    have hfk2 : ((U x).map fun p => tbV x p.1) = some c := hfk
    cases hu : U x with
    | none => rw [hu] at hfk2; cases hfk2
    | some p =>
     rw [hu] at hfk2
     obtain ⟨u,l⟩ := p
     injection hfk2 with hfk2
     subst hfk2
     have hkt : Kt wr w1 := kt_iter hrg.out.iter hg1
     have hrq : RQ w u l := HUR.out x _ hu
     have hbw1 : Below w.heap.size w w1 := hbw.out.grown hg1 hbw.out.size fun j hj => by injection hj with hj; omega
     have hrq1 : RQ w1 u l := hrq.kt ((Kt.bel (w := w) (w' := wr) hbw.out).trans hkt)
     have hlkx : lkT T x = some l := by
      have := HUT.out x
      rw [hu] at this
      exact this.symm
     obtain ⟨ua,uc,rfl⟩ := hrq1.form
     obtain ⟨W2,hW2⟩ : ∃ W,w1.alloc (.cells #[.string x,.slice ua l.length uc] 63) = W := ⟨_,rfl⟩
     have hb2 : Below w1.heap.size w1 W2 := by rw [← hW2]; exact (Below.refl _ _).alloc (Nat.le_refl _) _
     have k2 : SL.Bk W2 w1.heap.size 63 #[.string x,.slice ua l.length uc] := by rw [← hW2]; exact SL.Bk.new _ _ _
     have q0 : W2.cell? ⟨w1.heap.size,0,none⟩ = some (.string x) := k2.cell 0
     have q1 : W2.cell? ⟨w1.heap.size,1,none⟩ = some (.slice ua l.length uc) := k2.cell 1
     have HW := Lib.hid (with_any _ s x _ l W2 ((hsq.out.kt hkt).bel hb2) hsi.out.1 HSL.out (hrq1.bel hb2))
     have HRG2 := Lib.hid (hrg1.below hb2)
     have HSI := Lib.hid (hsi.out.step hlk hlkx)
     have HB2 := Lib.hid (hbw1.trans (hb2.mono hbw1.size))
     have HLN : Hid ((putS s (x,l)).length + cnt1 ≤ 200000) := Lib.hid (by have := put_len hsi.out.1 (x,l); have := hln.out; omega)
     have HME : Hid (cnt1 < wr.rangeLeft ob w.heap.size) := Lib.hid (by rw [hrg.out.left_eq]; exact hlt)
     clear hkey hlk hfk hrg1 hlt hg1 hs1 hu hkt hrq hbw1 hrq1 hlkx hb2 k2 hsi hsq hrg hln hbw
     go_wp2_with fail
     try rw [hW2]
     refine HW.out.mono ?_
     rintro e w3 ⟨v3,rfl,hsq3,hb3⟩
     have HSQ3 := Lib.hid hsq3
     have HRG3 := Lib.hid (HRG2.out.below hb3)
     have HB3 := Lib.hid (HB2.out.trans (hb3.mono HB2.out.size))
     clear hsq3 hb3 q0 q1 HRG2 HB2 HW
     try clear hW2
     go_wp2
     go_roundw
     case rel => exact ⟨_,cnt1,putS s (x,l),HRG3,HSQ3,HSI,HLN,HB3⟩
     case measure => rw [HRG3.out.left_eq]; exact HME.out
end Go.Proofs.YtjmmninopagpjaaGreatDoor
