/- Tag Taf Tad Tah Tai Taj -/
import Derived.Test.YtjmmninopagpjaaGreatDoorG5
import Derived.Test.YtjmmninopagpjaaGreatDoorG1
set_option linter.unusedSimpArgs false
set_option linter.unusedVariables false
namespace Go.Proofs.YtjmmninopagpjaaGreatDoor
open Go.ChangeShapes Go.WideShapes Go.ChangeAt Go.RowKit
set_option maxRecDepth 100000
set_option linter.unusedVariables false
set_option linter.unusedSimpArgs false

def TX (w : World) (v : Value) (X : List Tv) : Prop := (X = [] ∧ ∃ a c,v = .slice a 0 c) ∨ ∃ g off cap,v = .slice (some ⟨g,off,none⟩) X.length cap ∧ ∀ (i : Nat) (t : Tv),X[i]? = some t → w.cell? ⟨g,off + i * 2,none⟩ = some (.string t.1) ∧ w.cell? ⟨g,off + i * 2 + 1,none⟩ = some t.2.1
theorem SQ.tx {w : World} {v : Value} {s : List Tb} (h : SQ w v s) : ∃ X : List Tv,tbs X = s ∧ TX w v X ∧ ∀ t ∈ X,RQ w t.2.1 t.2.2 := by
 by_cases hp : 0 < s.length
 ·obtain ⟨g,off,cap,rfl,hc,X,hX,hx⟩ := h.tv hp
  refine ⟨X,hX,.inr ⟨g,off,cap,by rw [← hX,tbs_len],fun i t hi => ⟨(hx i t hi).1,(hx i t hi).2.1⟩⟩,fun t ht => ?_⟩
  obtain ⟨i,hi⟩ := List.getElem?_of_mem ht
  exact (hx i t hi).2.2
 ·have hs : s = [] := List.eq_nil_of_length_eq_zero (by omega)
  subst hs
  obtain ⟨a,c,rfl⟩ := h.form
  exact ⟨[],rfl,.inl ⟨rfl,a,c,rfl⟩,fun t ht => by simp at ht⟩
theorem TX.ones {w : World} {X : List Tv} (h : ∀ t ∈ X,RQ w t.2.1 t.2.2) : ∀ t ∈ X,t.2.1.oneCell' = true := fun t ht => (h t ht).one
set_option maxHeartbeats 2000000 in
theorem tabclone_any (v : Value) (X : List Tv) (w : World) (h : TX w v X) (h1 : ∀ t ∈ X,t.2.1.oneCell' = true) (hl : X.length ≤ 1000000) :
  Calls Tryz.prog 68 #[v] w fun e w' => ∃ v',e = .returned v' ∧ TT.EQ w.heap.size w' v' X ∧ Below w.heap.size w w' := by
 obtain ⟨i30,hi30,hz30,hs30,hb30⟩ := iTab
 have q22 : ∀ (w : World) (a : Option Addr) (n c n' c' : Nat),(binOp .eql 22 (.slice a n c) (.slice none n' c')).run Tryz.prog w = .ok (.bool a.isNone) w := fun w a n c n' c' => Lib.run_eql_slice_nil w _ _ a n c n' c' undTab
 have hcases : (∃ c,v = .slice none 0 c ∧ X = []) ∨ ∃ ad c,v = .slice (some ad) X.length c ∧ ∀ j u,(tcs X)[j]? = some u → w.cell? (ad.add j) = some u := by
  rcases h with ⟨rfl,A,cap,rfl⟩ | ⟨g,off,cap,rfl,hx⟩
  ·cases A with
   | none => exact .inl ⟨_,rfl,rfl⟩
   | some ad => exact .inr ⟨ad,_,rfl,fun j u hj => by simp [tcs,fl] at hj⟩
  ·refine .inr ⟨_,_,rfl,fun j u hj => ?_⟩
   obtain ⟨i,p,hp,hq⟩ := fl_inv _ j u hj
   rw [List.getElem?_map] at hp
   cases hX : X[i]? with
   | none => rw [hX] at hp; cases hp
   | some t =>
    rw [hX] at hp
    injection hp with hp
    subst hp
    obtain ⟨c0,c1⟩ := hx i t hX
    rw [Addr.add_lit]
    rcases hq with ⟨rfl,rfl⟩ | ⟨rfl,rfl⟩
    ·exact c0
    ·rw [← Nat.add_assoc]; exact c1
 clear h
 rcases hcases with ⟨c,rfl,rfl⟩ | ⟨ad,c,rfl,hc⟩
 ·go_enter Tryz.func68,Tryz.ntmps68
  go_wp2
  go_ret
  exact ⟨_,rfl,World.ownsRow_nil _ _ _ _,Below.refl _ _⟩
 ·have HC := Lib.hid hc
  have H1 := Lib.hid h1
  clear hc h1
  go_enter Tryz.func68,Tryz.ntmps68
  go_wp2_with (at_builtin; refine wpList_append_own _ rfl _ _ 22 rfl w.heap.size 63 i30 (.agg #[.string ByteArray.empty,.slice none 0 0]) 2 40 undTab hi30 hz30 hs30 hb30 rfl (by decide) _ _ _ rfl (World.ownsRow_made w #[] 0 (Nat.le_refl _) (Nat.zero_le _) (by simp)) ad X.length c (tcs X) rfl ?qc1 ?qc2 ?qc3 ?qc4 ?qc5 ?qc6 ?_)
  case qc1 => exact tcs_len X
  case qc2 =>
   intro j u hj
   exact Lib.cell?_alloc_some _ (HC.out j u hj)
  case qc3 => exact TT.tcs_oneY H1.out
  case qc4 => unfold maxLen; omega
  case qc5 => omega
  case qc6 => simp
  intro v' w1 hown hgrow hnil
  go_wp2
  go_ret
  refine ⟨v',rfl,by simpa [TT.EQ] using hown,?_⟩
  exact ((Below.refl _ w).alloc (Nat.le_refl _) _).grown hgrow (by simp) (by intro k hk; simp [Value.ownBlock] at hk; omega)
end Go.Proofs.YtjmmninopagpjaaGreatDoor
namespace Go.Proofs.YtjmmninopagpjaaGreatDoor
open Go.ChangeShapes Go.WideShapes Go.ChangeAt Go.RowKit Go.Deep
set_option maxRecDepth 100000
set_option linter.unusedVariables false
set_option linter.unusedSimpArgs false

theorem wcmp_any (n : ByteArray) (u : Value) (m : ByteArray) (w : World) : Calls Tryz.prog 70 #[.agg #[.string n,u],.string m] w fun e w' => e = .returned (.int .i64 (Lib.compareBytes n.data.toList m.data.toList)) ∧ Below w.heap.size w w' := by
 have HC := Lib.hid (fun W => Tryz.strings_Compare n m W)
 have HB := Lib.hid ((Below.refl w.heap.size w).alloc (Nat.le_refl _) (.cells #[.string n,u] 63))
 go_enter Tryz.func70,Tryz.ntmps70
 go_wp2_with (go_at_call 71; (refine (HC.out _).mono ?_); rintro e w2 ⟨rfl,hw⟩; obtain rfl := hw)
 go_ret
 exact ⟨rfl,HB.out⟩
set_option maxHeartbeats 4000000 in
theorem wsearch_any (v : Value) (l : List Tb) (k : ByteArray) (w : World) (h : SR w v l) (hm : MonoP (ltN k) l) (hl : l.length ≤ 1000000) :
  Calls Tryz.prog 69 #[v,.string k,.func (.func 70) #[] #[]] w fun e w' => e = .returned (.tuple #[.int .i64 (lowT l k : Nat),.bool (hasT l k)]) ∧ Below w.heap.size w w' := by
 obtain ⟨R,hR⟩ : ∃ R,lowT l k = R := ⟨_,rfl⟩
 obtain ⟨F,hF⟩ : ∃ F,hasT l k = F := ⟨_,rfl⟩
 rw [hR,hF]
 obtain ⟨a,cap,rfl⟩ := h.form
 have HH := Lib.hid h
 have HM := Lib.hid hm
 have HR := Lib.hid hR
 have HF := Lib.hid hF
 clear h hm hR hF
 have henter : ∀ args w,(callFunc 70 args).run Tryz.prog w = .ok (.enter 70 args) w := fun args w => by show Sem.run Tryz.prog (callFunc 70 args) w = _; go_simp
 go_enter Tryz.func69,Tryz.ntmps69
 go_wp2
 go_loopg [9,10] l.length (fun gk u9 u10 wx => ∃ lo hi : Nat,u9 = .int .i64 (lo : Int) ∧ u10 = .int .i64 (hi : Int) ∧ lo ≤ hi ∧ hi ≤ l.length ∧ hi - lo ≤ gk ∧ Hid (Below w.heap.size w wx) ∧ Hid ((∀ (t : Nat) (x : Tb),t < lo → l[t]? = some x → ltN k x = true) ∧ (∀ (t : Nat) (x : Tb),hi ≤ t → l[t]? = some x → ltN k x = false)))
 case atStart => exact ⟨0,l.length,rfl,rfl,Nat.zero_le _,Nat.le_refl _,by omega,Below.refl _ _,⟨fun t x ht => absurd ht (Nat.not_lt_zero _),fun t x h1 h2 => by have := (List.getElem?_eq_some_iff.1 h2).1; omega⟩⟩
 case round =>
  obtain ⟨lo,hi,rfl,rfl,hlh,hin,hg,HB,I⟩ := hrel
  by_cases hlt : lo < hi
  ·obtain ⟨m,hmid⟩ : ∃ m,(lo + hi) / 2 = m := ⟨_,rfl⟩
   have hml : m < l.length := by omega
   have hRR := HH.out.below HB.out
   obtain ⟨b,o,cp,he,hcp,hx⟩ := hRR.inv (by omega)
   injection he with ea _ ec
   subst ea ec
   obtain ⟨r,hr0⟩ : ∃ r,l[m] = r := ⟨_,rfl⟩
   have hrm : l[m]? = some r := by rw [List.getElem?_eq_getElem hml,hr0]
   obtain ⟨x0,u,x1,hu⟩ := hx m r hrm
   have wm : ((lo : Int) + (hi : Int)) / 2 = (m : Int) := by omega
   have HM2 := Lib.hid hrm
   have HMID := Lib.hid hmid
   have l0 : (0 : Int) ≤ (m : Int) := by omega
   have l1 : (m : Int) < (l.length : Int) := by omega
   obtain ⟨r0,r1⟩ := r
   have HC := Lib.hid (wcmp_any r0 u k wr)
   obtain ⟨m1,hm1⟩ : ∃ m1,m + 1 = m1 := ⟨_,rfl⟩
   have wk : IntKind.i64.wrap ((m : Int) + 1) = (m1 : Int) := by rw [show (m : Int) + 1 = (m1 : Int) by omega]; exact IntWalk.i64_in _ (by omega)
   have HM1 := Lib.hid hm1
   clear hu hx hrm hRR hmid hr0 hml hm1
   by_cases hc : r0.data.toList < k.data.toList
   ·have hq := (cmpB _ _).1 hc
    rw [hq] at HC
    have HCC := Lib.hid hc
    clear hc hq
    go_wp2_with (go_at_call 70; (refine HC.out.mono ?_); rintro e w2 ⟨rfl,hb2⟩; have HB2 := Lib.hid hb2; clear hb2)
    go_roundg (hi - m1)
    case measure => have := HMID.out; have := HM1.out; omega
    case rel =>
     have e1 := HMID.out
     have e2 := HM1.out
     refine ⟨m1,hi,rfl,rfl,by omega,hin,by omega,HB.out.trans (HB2.out.mono HB.out.size),fun t x ht hx => ?_,I.out.2⟩
     exact HM.out t m x _ (by omega) hx HM2.out (decide_eq_true HCC.out)
   ·have hq : Lib.compareBytes r0.data.toList k.data.toList = 0 ∨ Lib.compareBytes r0.data.toList k.data.toList = 1 := by
     rcases Decidable.em (r0.data.toList = k.data.toList) with h | h
     ·exact .inl ((cmpB _ _).2.1 h)
     ·exact .inr ((cmpB _ _).2.2 (lt_tri _ _ hc h))
    have HNC : Hid (¬ (r0.data.toList < k.data.toList)) := Lib.hid hc
    clear hc
    rcases hq with hq | hq
    all_goals
     rw [hq] at HC
     clear hq
     go_wp2_with (go_at_call 70; (refine HC.out.mono ?_); rintro e w2 ⟨rfl,hb2⟩; have HB2 := Lib.hid hb2; clear hb2)
     go_roundg (m - lo)
     case measure => have := HMID.out; omega
     case rel =>
      have e1 := HMID.out
      refine ⟨lo,m,rfl,rfl,by omega,by omega,Nat.le_refl _,HB.out.trans (HB2.out.mono HB.out.size),I.out.1,fun t x ht hx => ?_⟩
      cases hp : ltN k x with
      | false => rfl
      | true =>
       have := HM.out m t _ x ht HM2.out hx hp
       exact absurd (of_decide_eq_true this) HNC.out
  ·obtain rfl : hi = lo := by omega
   have hRe : R = hi := by
    rw [← HR.out]
    exact low_uniq (ltN k) l hi hin I.out.1 (fun x hx => I.out.2 hi x (Nat.le_refl _) hx)
   subst hRe
   by_cases hn : R < l.length
   ·have hRR := HH.out.below HB.out
    obtain ⟨b,o,cp,he,hcp,hx⟩ := hRR.inv (by omega)
    injection he with ea _ ec
    subst ea ec
    obtain ⟨r,hr0⟩ : ∃ r,l[R] = r := ⟨_,rfl⟩
    have hrm : l[R]? = some r := by rw [List.getElem?_eq_getElem hn,hr0]
    obtain ⟨x0,u,x1,hu⟩ := hx R r hrm
    have hf : F = decide (r.1.data.toList = k.data.toList) := by
     rw [← HF.out]; unfold hasT; rw [HR.out,hrm]
    obtain ⟨r0,r1⟩ := r
    have HC := Lib.hid (fun W => wcmp_any r0 u k W)
    clear hu hx hrm hRR hr0
    simp only at hf
    have l0 : (0 : Int) ≤ (R : Int) := by omega
    have l1 : (R : Int) < (l.length : Int) := by omega
    by_cases hc : r0.data.toList = k.data.toList
    ·have hq := (cmpB _ _).2.1 hc
     rw [hq] at HC
     have hF2 : F = true := by rw [hf]; exact decide_eq_true hc
     subst hF2
     clear hc hq hf
     go_wp2_with (go_at_call 70; (refine (HC.out _).mono ?_); rintro e w2 ⟨rfl,hb2⟩; have HB2 := Lib.hid (HB.out.trans (hb2.mono HB.out.size)); clear hb2)
     go_ret2
     exact ⟨rfl,HB2.out⟩
    ·have hq : Lib.compareBytes r0.data.toList k.data.toList = -1 ∨ Lib.compareBytes r0.data.toList k.data.toList = 1 := by
      rcases Decidable.em (r0.data.toList < k.data.toList) with h | h
      ·exact .inl ((cmpB _ _).1 h)
      ·exact .inr ((cmpB _ _).2.2 (lt_tri _ _ h hc))
     have hF2 : F = false := by rw [hf]; exact decide_eq_false hc
     subst hF2
     clear hc hf
     rcases hq with hq | hq
     all_goals
      rw [hq] at HC
      clear hq
      go_wp2_with (go_at_call 70; (refine (HC.out _).mono ?_); rintro e w2 ⟨rfl,hb2⟩; have HB2 := Lib.hid (HB.out.trans (hb2.mono HB.out.size)); clear hb2)
      go_ret2
      exact ⟨rfl,HB2.out⟩
   ·have hF2 : F = false := by
     rw [← HF.out]; unfold hasT; rw [HR.out,List.getElem?_eq_none (by omega)]
    subst hF2
    go_wp2
    go_ret2
    exact ⟨rfl,HB.out⟩

theorem bk_bel {w w' : World} {g : Nat} {t : TypeId} {cs : Array Value} (h : SL.Bk w g t cs) (hb : Below w.heap.size w w') : SL.Bk w' g t cs := h.heap (hb.block g h.lt)
abbrev trC (b : Bool) (ob : Nat) : Array Value := #[.int .u8 (if b = true then 69 else 84),.map (some ob)]
structure Cdb where
 mb : Nat
 vs : Value
 G : Int → Option (Nat × Nat)
def Cdb.own (C : Cdb) (g b : Nat) : Prop := b = g ∨ b = C.mb ∨ ∃ i p,C.G i = some p ∧ (b = p.1 ∨ b = p.2)
abbrev dbC (g : Nat) (C : Cdb) : Array Value := #[SL.ptr g,C.vs,.map (some C.mb)]
def gF (C : Cdb) : Lit → Option Value := MV.fI fun i => (C.G i).map fun p => SL.ptr p.1
structure CD (B : Nat) (w : World) (g n : Nat) (C : Cdb) (D : Dbp) : Prop where
 bk : SL.Bk w g 58 (dbC g C)
 sq : SQ w C.vs D.1
 mp : MV.MapV Tryz.prog 3 w C.mb n (gF C)
 tr : ∀ i p,C.G i = some p → ∃ q,D.2 i = some q ∧ SL.Bk w p.1 73 (trC q.1 p.2) ∧ OwnM w p.2 n q.2
 no : ∀ i,C.G i = none → D.2 i = none
 ap : ∀ i j p q,C.G i = some p → C.G j = some q → i ≠ j → p.1 ≠ q.1 ∧ p.2 ≠ q.2
 mo : ∀ i p,C.G i = some p → p.2 ≠ C.mb
 bs : ∀ b,C.own g b → B ≤ b
def Kc (w w' : World) : Prop := ∀ (b : Nat) (cs : Array Value) (t : TypeId) (fr : Nat × Nat),t ≠ 58 → t ≠ 73 → w.heap[b]? = some (.cells cs t fr) → w'.heap[b]? = some (.cells cs t fr)
theorem Kc.kt {w w' : World} (h : Kc w w') : Kt w w' := fun b cs t fr ht hb => h b cs t fr (by rcases ht with rfl | rfl <;> decide) (by rcases ht with rfl | rfl <;> decide) hb
section
variable {B : Nat} {w w' : World} {g n : Nat} {C : Cdb} {D : Dbp}
theorem CD.kind (h : CD B w g n C D) {b : Nat} (hb : C.own g b) : (∃ cs t fr,(t = 58 ∨ t = 73) ∧ w.heap[b]? = some (.cells cs t fr)) ∨ ∃ es clock,w.heap[b]? = some (.map es clock) := by
 rcases hb with rfl | rfl | ⟨i,p,hp,rfl | rfl⟩
 ·exact .inl ⟨_,_,_,.inl rfl,h.bk⟩
 ·exact .inr h.mp.obj
 ·obtain ⟨q,_,h2,_⟩ := h.tr i p hp
  exact .inl ⟨_,_,_,.inr rfl,h2⟩
 ·obtain ⟨q,_,_,h3⟩ := h.tr i p hp
  exact .inr h3.obj
theorem CD.lt (h : CD B w g n C D) {b : Nat} (hb : C.own g b) : b < w.heap.size := by
 rcases h.kind hb with ⟨cs,t,fr,_,e⟩ | ⟨es,ck,e⟩ <;> exact (Array.getElem?_eq_some_iff.1 e).1
theorem CD.kc (h : CD B w g n C D) {S : Nat → Prop} (hc : SL.Chg S w w') (hs : ∀ b,S b → C.own g b) : Kc w w' := fun b cs t fr h1 h2 hb => (hc.block b (Array.getElem?_eq_some_iff.1 hb).1 (fun ho => by
 rcases h.kind (hs b ho) with ⟨cs',t',fr',ht,e⟩ | ⟨es,ck,e⟩
 ·rw [hb] at e
  injection e with e
  injection e with _ e2 _
  subst e2
  rcases ht with ht | ht
  ·exact h1 ht
  ·exact h2 ht
 ·rw [hb] at e
  injection e with e
  cases e)).trans hb
theorem CD.keep (h : CD B w g n C D) (hk : Kt w w') (hb : ∀ b,C.own g b → w'.heap[b]? = w.heap[b]?) : CD B w' g n C D :=
 ⟨h.bk.heap (hb g (.inl rfl)),h.sq.kt hk,h.mp.keep (hb _ (.inr (.inl rfl))),fun i p hp => by
  obtain ⟨q,h1,h2,h3⟩ := h.tr i p hp
  exact ⟨q,h1,h2.heap (hb _ (.inr (.inr ⟨i,p,hp,.inl rfl⟩))),h3.keep hk (hb _ (.inr (.inr ⟨i,p,hp,.inr rfl⟩)))⟩,h.no,h.ap,h.mo,h.bs⟩
theorem CD.below (h : CD B w g n C D) (hb : Below w.heap.size w w') : CD B w' g n C D := h.keep (.bel hb) fun b ho => hb.block b (h.lt ho)
theorem CD.mono (h : CD B w g n C D) {m : Nat} (hm : n ≤ m) : CD B w g m C D :=
 ⟨h.bk,h.sq,h.mp.mono hm,fun i p hp => by
  obtain ⟨q,h1,h2,h3⟩ := h.tr i p hp
  exact ⟨q,h1,h2,h3.mono hm⟩,h.no,h.ap,h.mo,h.bs⟩
theorem CD.cells (h : CD B w g n C D) : w.cell? ⟨g,0,none⟩ = some (SL.ptr g) ∧ w.cell? ⟨g,1,none⟩ = some C.vs ∧ w.cell? ⟨g,2,none⟩ = some (.map (some C.mb)) := ⟨h.bk.cell 0,h.bk.cell 1,h.bk.cell 2⟩
theorem CD.at_ (h : CD B w g n C D) (i : Int) : (C.G i = none ∧ D.2 i = none) ∨ ∃ p q,C.G i = some p ∧ D.2 i = some q ∧ SL.Bk w p.1 73 (trC q.1 p.2) ∧ OwnM w p.2 n q.2 := by
 cases hg : C.G i with
 | none => exact .inl ⟨rfl,h.no i hg⟩
 | some p =>
  obtain ⟨q,h1,h2,h3⟩ := h.tr i p hg
  exact .inr ⟨p,q,rfl,h1,h2,h3⟩
end
def StD (B : Nat) (g n : Nat) (C : Cdb) (D' : Dbp) (w w' : World) : Prop := ∃ C',CD B w' g n C' D' ∧ SL.Chg (C.own g) w w' ∧ ∀ b,C'.own g b → C.own g b ∨ w.heap.size ≤ b
theorem StD.refl {B : Nat} {w w' : World} {g n : Nat} {C : Cdb} {D : Dbp} (h : CD B w g n C D) (hb : Below w.heap.size w w') : StD B g n C D w w' := ⟨C,h.below hb,.of_below hb,fun b hb => .inl hb⟩
theorem StD.mono {B : Nat} {w w' : World} {g n m : Nat} {C : Cdb} {D' : Dbp} (h : StD B g n C D' w w') (hm : n ≤ m) : StD B g m C D' w w' := by
 obtain ⟨C',h1,h2,h3⟩ := h
 exact ⟨C',h1.mono hm,h2,h3⟩
theorem StD.trans {B : Nat} {w w1 w2 : World} {g n m : Nat} {C : Cdb} {D1 D2 : Dbp} (h : StD B g n C D1 w w1) (k : ∀ C1,CD B w1 g n C1 D1 → StD B g m C1 D2 w1 w2) : StD B g m C D2 w w2 := by
 obtain ⟨C1,h1,h2,h3⟩ := h
 obtain ⟨C2,k1,k2,k3⟩ := k C1 h1
 refine ⟨C2,k1,h2.trans' k2 fun b hb ho => ?_,fun b hb => ?_⟩
 ·rcases h3 b ho with h | h
  ·exact h
  ·omega
 ·rcases k3 b hb with h | h
  ·exact h3 b h
  ·exact .inr (Nat.le_trans h2.size h)
theorem StD.pre {B : Nat} {w w1 w2 : World} {g n : Nat} {C : Cdb} {D2 : Dbp} (hb : Below w.heap.size w w1) (h : StD B g n C D2 w1 w2) : StD B g n C D2 w w2 := by
 obtain ⟨C2,k1,k2,k3⟩ := h
 refine ⟨C2,k1,(SL.Chg.of_below hb).trans' k2 fun b _ ho => ho,fun b ho => ?_⟩
 rcases k3 b ho with h | h
 ·exact .inl h
 ·exact .inr (Nat.le_trans hb.size h)
end Go.Proofs.YtjmmninopagpjaaGreatDoor
namespace Go.Proofs.YtjmmninopagpjaaGreatDoor
open Go.ChangeShapes Go.WideShapes Go.ChangeAt Go.RowKit Go.ChangeMaps
set_option maxRecDepth 100000
set_option linter.unusedVariables false
set_option linter.unusedSimpArgs false

theorem dbinfo : ∃ j,Tryz.prog.info? 58 = some j := Option.isSome_iff_exists.1 (by kernel_rfl)
theorem deql_same (w : World) (a : Addr) : (binOp .eql 26 (.pointer (some a)) (.pointer (some a))).run Tryz.prog w = .ok (.bool true) w := by
 obtain ⟨j,hj⟩ := dbinfo
 exact run_eql_ptr_same (P := Tryz.prog) w a Tryz.underlying26 hj
theorem deql_none (w : World) (a : Addr) : (binOp .eql 26 (.pointer none) (.pointer (some a))).run Tryz.prog w = .ok (.bool false) w := by
 have h : ∀ d : Nat,(Op.equalIn (d + 1) 26 (.pointer none) (.pointer (some a))).run Tryz.prog w = .ok false w := fun d => by
  simp [Op.equalIn,run_underlying Tryz.underlying26]
 simp only [binOp]
 simp [Op.equal,Op.maxDepth,h 9999]
theorem dgiven_yes (w : World) (g : Nat) (h : w.cell? ⟨g,0,none⟩ = some (SL.ptr g)) :
  Calls Tryz.prog 33 #[SL.ptr g] w fun e w' => e = .returned (.bool true) ∧ w = w' := by
 have he := fun w => deql_same w ⟨g,0,none⟩
 go_enter Tryz.func33,Tryz.ntmps33
 go_wp2
 go_ret
 exact ⟨rfl,rfl⟩
theorem dgiven_nil (w : World) :
  Calls Tryz.prog 33 #[.pointer none] w fun e w' => e = .returned (.bool false) ∧ w = w' := by
 go_enter Tryz.func33,Tryz.ntmps33
 go_wp2
 go_ret
 exact ⟨rfl,rfl⟩
theorem dgiven_zero (w : World) (g : Nat) (h : w.cell? ⟨g,0,none⟩ = some (.pointer none)) :
  Calls Tryz.prog 33 #[SL.ptr g] w fun e w' => e = .returned (.bool false) ∧ w = w' := by
 have he := fun w => deql_none w ⟨g,0,none⟩
 go_enter Tryz.func33,Tryz.ntmps33
 go_wp2
 go_ret
 exact ⟨rfl,rfl⟩
theorem iss_any (id : Int) (w : World) : Calls Tryz.prog 35 #[.int .i64 id] w fun e w' => e = .returned (.bool (isS id)) ∧ w = w' := by
 by_cases h0 : 0 ≤ id
 ·by_cases h1 : id ≤ 1000
  ·have e : isS id = true := by unfold isS; simp [h0,h1]
   rw [e]; clear e
   go_enter Tryz.func35,Tryz.ntmps35
   go_wp2
   go_ret
   exact ⟨by simp [h0,h1],rfl⟩
  ·have e : isS id = false := by unfold isS; simp [h1]
   rw [e]; clear e
   go_enter Tryz.func35,Tryz.ntmps35
   go_wp2
   go_ret
   exact ⟨by simp [h0,h1],rfl⟩
 ·have e : isS id = false := by unfold isS; simp [h0]
  rw [e]; clear e
  go_enter Tryz.func35,Tryz.ntmps35
  go_wp2
  go_ret
  exact ⟨by simp [h0],rfl⟩
def MadP9 (B : Nat) (v : Value) (S : List Tb) (w : World) (e : Ending) (w' : World) : Prop := ∃ g C,e = .returned (SL.ptr g) ∧ CD B w' g 0 C (S,fun _ => none) ∧ (∀ b,C.own g b → w.heap.size ≤ b) ∧ C.vs = v ∧ (∀ i,C.G i = none) ∧ Below w.heap.size w w'
theorem made9_any (B : Nat) (v : Value) (S : List Tb) (w : World) (h : SQ w v S) (hB : B ≤ w.heap.size) :
  Calls Tryz.prog 30 #[v] w (MadP9 B v S w) := by
 have hmm := @run_makeMap Tryz.prog
 obtain ⟨a,c,rfl⟩ := h.form
 have HV := Lib.hid h
 have HB := Lib.hid hB
 clear h hB
 obtain ⟨W1,hW1⟩ : ∃ W,w.alloc (.map #[] 0) = W := ⟨_,rfl⟩
 have m1 : MV.MapV Tryz.prog 3 W1 w.heap.size 0 (fun _ => none) := by rw [← hW1]; exact MV.MapV.made _ _ w
 have b1 : Below w.heap.size w W1 := by rw [← hW1]; exact (Below.refl _ _).alloc (Nat.le_refl _) _
 have s1 : W1.heap.size = w.heap.size + 1 := by rw [← hW1]; simp
 obtain ⟨W2,hW2⟩ : ∃ W,W1.alloc (.cells #[.pointer none,.slice a S.length c,.map (some w.heap.size)] 58) = W := ⟨_,rfl⟩
 have k2 : SL.Bk W2 W1.heap.size 58 #[.pointer none,.slice a S.length c,.map (some w.heap.size)] := by rw [← hW2]; exact SL.Bk.new _ _ _
 have b2 : Below W1.heap.size W1 W2 := by rw [← hW2]; exact (Below.refl _ _).alloc (Nat.le_refl _) _
 obtain ⟨g,hg⟩ : ∃ g,W1.heap.size = g := ⟨_,rfl⟩
 have M1 := Lib.hid m1
 have B1 := Lib.hid b1
 have S1 := Lib.hid s1
 have K2 := Lib.hid k2
 have B2 := Lib.hid b2
 have G := Lib.hid hg
 have f0 : W2.frozen? ⟨g,0,none⟩ = false := by rw [← hg]; exact k2.frozen 0
 have c0 : W2.cell? ⟨g,0,none⟩ = some (.pointer none) := by rw [← hg]; exact k2.cell 0
 clear m1 b1 s1 k2 b2
 go_enter Tryz.func30,Tryz.ntmps30
 go_wp2_with fail
 try rw [hW1]
 try rw [hg]
 try rw [hW2]
 clear hW1 hW2 hg
 go_wp2
 go_ret
 have hgs := G.out
 have hs1 := S1.out
 have k3 : SL.Bk (W2.setCell ⟨g,0,none⟩ (SL.ptr g)) g 58 #[SL.ptr g,.slice a S.length c,.map (some w.heap.size)] := by
  have := K2.out.set_ 0 (SL.ptr W1.heap.size)
  rw [hgs] at this
  exact this
 have b3 : Below w.heap.size w (W2.setCell ⟨g,0,none⟩ (SL.ptr g)) := (B1.out.trans (B2.out.mono B1.out.size)).setCell (p := ⟨g,0,none⟩) (by show w.heap.size ≤ g; omega) _
 have m3 : MV.MapV Tryz.prog 3 (W2.setCell ⟨g,0,none⟩ (SL.ptr g)) w.heap.size 0 (fun _ => none) := (M1.out.below B2.out).keep (Below.heap_setCell _ _ _ _ (by show w.heap.size ≠ g; omega))
 refine ⟨g,⟨w.heap.size,.slice a S.length c,fun _ => none⟩,rfl,⟨k3,HV.out.bel b3,m3.congr fun kl => ?_,fun i p hp => (by cases hp),fun i _ => rfl,fun i j p q hp => (by cases hp),fun i p hp => (by cases hp),fun b hb => ?_⟩,fun b hb => ?_,rfl,fun _ => rfl,b3⟩
 ·unfold gF MV.fI
  cases kl with
  | int q n => cases q <;> rfl
  | _ => rfl
 ·have := HB.out
  rcases hb with rfl | rfl | ⟨i,p,hp,_⟩
  ·omega
  ·exact this
  ·cases hp
 ·rcases hb with rfl | rfl | ⟨i,p,hp,_⟩
  ·omega
  ·exact Nat.le_refl _
  ·cases hp
theorem zTr_any (w : World) : (zeroValue 70).run Tryz.prog w = .ok (.pointer none) w := by
 have h : (Tryz.prog.info? 70).bind (fun i => i.zero) = some (.pointer none) := by kernel_rfl
 cases hi : Tryz.prog.info? 70 with
 | none => rw [hi] at h; cases h
 | some j =>
  rw [hi] at h
  simp [zeroValue,typeInfo,hi,show j.zero = some (.pointer none) from h]
theorem open_look {B : Nat} {w : World} {g n : Nat} {C : Cdb} {D : Dbp} (h : CD B w g n C D) (id : Int) (hi : I9 id) :
  (Instr.lookup 56 (.map (some C.mb)) (.int .i64 id) true).run Tryz.prog w = .ok (.tuple #[((C.G id).map fun p => SL.ptr p.1).getD (.pointer none),.bool (C.G id).isSome]) w := by
 have := h.mp.look intK9 Tryz.underlying56 (zTr_any w) (keyI9 id hi)
 rw [this]
 simp only [gF,MV.fI,Option.isSome_map]
theorem own9_any (B : Nat) (w : World) (g n : Nat) (C : Cdb) (D : Dbp) (h : CD B w g n C D) (id : Int) (hi : I9 id) :
  Calls Tryz.prog 48 #[SL.ptr g,.int .i64 id] w fun e w' => e = .returned (.map ((C.G id).map (·.2))) ∧ w = w' := by
 obtain ⟨c0,c1,c2⟩ := h.cells
 have hl := open_look h id hi
 rcases h.at_ id with ⟨hg,_⟩ | ⟨p,q,hg,_,hk,_⟩
 ·rw [hg] at hl ⊢
  clear h c0 c1
  simp only [Option.map_none,Option.getD_none,Option.isSome_none] at hl ⊢
  go_enter Tryz.func48,Tryz.ntmps48
  go_wp2
  go_ret
  exact ⟨rfl,rfl⟩
 ·rw [hg] at hl ⊢
  have k1 : w.cell? ⟨p.1,1,none⟩ = some (.map (some p.2)) := hk.cell 1
  clear h c0 c1 hk
  simp only [Option.map_some,Option.getD_some,Option.isSome_some] at hl ⊢
  go_enter Tryz.func48,Tryz.ntmps48
  go_wp2
  go_ret
  exact ⟨rfl,rfl⟩
theorem trC_st (b : Bool) (T : List Tb) : (if b = true then (69 : Int) else 84) = stO (some (b,T)) := by cases b <;> rfl
theorem status_any (B : Nat) (w : World) (g n : Nat) (C : Cdb) (D : Dbp) (h : CD B w g n C D) (id : Int) (hi : I9 id) (R : Int) (hR : statP D id = R) :
  Calls Tryz.prog 20 #[SL.ptr g,.int .i64 id] w fun e w' => e = .returned (.int .u8 R) ∧ w = w' := by
 obtain ⟨c0,c1,c2⟩ := h.cells
 have hl := open_look h id hi
 unfold statP at hR
 cases hs : isS id with
 | false =>
  rw [hs] at hR
  simp only [Bool.false_eq_true,if_false] at hR
  subst hR
  have HI := Lib.hid (iss_any id w)
  rw [hs] at HI
  have HG := Lib.hid (dgiven_yes w g c0)
  clear h hl c1 c2 hs hi
  go_enter Tryz.func20,Tryz.ntmps20
  go_wp2_with fail
  refine HG.out.mono ?_
  rintro e w' ⟨rfl,rfl⟩
  go_wp2_with fail
  refine HI.out.mono ?_
  rintro e w' ⟨rfl,rfl⟩
  go_wp2
  go_ret
  exact ⟨rfl,rfl⟩
 | true =>
  rw [hs] at hR
  simp only [if_true] at hR
  have HI := Lib.hid (iss_any id w)
  rw [hs] at HI
  have HG := Lib.hid (dgiven_yes w g c0)
  rcases h.at_ id with ⟨hg,hd⟩ | ⟨p,q,hg,hd,hk,_⟩
  ·rw [hg] at hl
   rw [hd] at hR
   have hR2 : R = 73 := hR.symm
   subst hR2
   clear h c0 c1 hs hi hR
   simp only [Option.map_none,Option.getD_none,Option.isSome_none] at hl
   go_enter Tryz.func20,Tryz.ntmps20
   go_wp2_with fail
   refine HG.out.mono ?_
   rintro e w' ⟨rfl,rfl⟩
   go_wp2_with fail
   refine HI.out.mono ?_
   rintro e w' ⟨rfl,rfl⟩
   go_wp2
   go_ret
   exact ⟨rfl,rfl⟩
  ·rw [hg] at hl
   have k0 : w.cell? ⟨p.1,0,none⟩ = some (.int .u8 R) := by
    have := hk.cell 0
    rw [this,← hR,hd,← trC_st q.1 q.2]; rfl
   clear h c0 c1 hs hi hR hk hd
   simp only [Option.map_some,Option.getD_some,Option.isSome_some] at hl
   go_enter Tryz.func20,Tryz.ntmps20
   go_wp2_with fail
   refine HG.out.mono ?_
   rintro e w' ⟨rfl,rfl⟩
   go_wp2_with fail
   refine HI.out.mono ?_
   rintro e w' ⟨rfl,rfl⟩
   go_wp2
   go_ret
   exact ⟨rfl,rfl⟩
end Go.Proofs.YtjmmninopagpjaaGreatDoor
namespace Go.Proofs.YtjmmninopagpjaaGreatDoor
open Go.ChangeShapes Go.WideShapes Go.ChangeAt Go.RowKit Go.ChangeMaps
set_option maxRecDepth 100000
set_option linter.unusedVariables false
set_option linter.unusedSimpArgs false

def setG (G : Int → Option (Nat × Nat)) (id : Int) (o : Option (Nat × Nat)) : Int → Option (Nat × Nat) := fun x => if x = id then o else G x
theorem setG_self (G : Int → Option (Nat × Nat)) (id : Int) : setG G id (G id) = G := funext fun x => by
 unfold setG
 split
 ·rename_i h; rw [h]
 ·rfl
theorem gF_set (C : Cdb) (id : Int) (o : Option (Nat × Nat)) (kl : Lit) (c : Decidable (kl = .int .i64 id)) : (@ite _ (kl = .int .i64 id) c (o.map fun p => SL.ptr p.1) (gF C kl)) = gF ⟨C.mb,C.vs,setG C.G id o⟩ kl := by
 have h := MV.fI_put (fun i => (C.G i).map fun p => SL.ptr p.1) id (o.map fun p => SL.ptr p.1) kl
 have e : (fun x => if x = id then (o.map fun p => SL.ptr p.1) else (C.G x).map fun p => SL.ptr p.1) = fun i => (setG C.G id o i).map fun p => SL.ptr p.1 := funext fun x => by
  unfold setG
  split <;> rfl
 rw [e] at h
 show _ = MV.fI (fun i => (setG C.G id o i).map fun p => SL.ptr p.1) kl
 rw [← h]
 unfold gF
 split <;> rfl
section
variable {B : Nat} {w w' : World} {g n m : Nat} {C : Cdb} {D : Dbp}
theorem bk_nmap {t : TypeId} {cs : Array Value} {a b : Nat} (h : SL.Bk w a t cs) (k : ∃ es ck,w.heap[b]? = some (.map es ck)) : a ≠ b := by
 rintro rfl
 obtain ⟨es,ck,k⟩ := k
 unfold SL.Bk at h
 rw [h] at k
 cases k
theorem tr_ne_db : (58 : TypeId) ≠ 73 := by decide
theorem CD.alt (h : CD B w g n C D) (hn : n ≤ m) (hB : B ≤ w.heap.size) (hc : SL.Chg (C.own g) w w') (id : Int) (o : Option (Nat × Nat)) (q : Ses) (hg : w'.heap[g]? = w.heap[g]?)
  (hmp : MV.MapV Tryz.prog 3 w' C.mb m (gF ⟨C.mb,C.vs,setG C.G id o⟩))
  (hoth : ∀ i p,i ≠ id → C.G i = some p → w'.heap[p.1]? = w.heap[p.1]? ∧ w'.heap[p.2]? = w.heap[p.2]?)
  (hid : ∀ p,o = some p → ∃ x,q = some x ∧ SL.Bk w' p.1 73 (trC x.1 p.2) ∧ OwnM w' p.2 m x.2 ∧ p.2 ≠ C.mb ∧ (∀ i r,i ≠ id → C.G i = some r → p.1 ≠ r.1 ∧ p.2 ≠ r.2) ∧ ((C.own g p.1 ∧ C.own g p.2) ∨ (w.heap.size ≤ p.1 ∧ w.heap.size ≤ p.2)))
  (hno : o = none → q = none) : StD B g m C (D.1,setO D.2 id q) w w' := by
 have hk := (h.kc hc fun _ e => e).kt
 have hown : ∀ b,Cdb.own ⟨C.mb,C.vs,setG C.G id o⟩ g b → C.own g b ∨ w.heap.size ≤ b := by
  rintro b (rfl | rfl | ⟨i,p,hp,hb⟩)
  ·exact .inl (.inl rfl)
  ·exact .inl (.inr (.inl rfl))
  ·simp only [setG] at hp
   split at hp
   ·obtain ⟨x,_,_,_,_,_,h1 | h1⟩ := hid p hp
    ·rcases hb with rfl | rfl
     ·exact .inl h1.1
     ·exact .inl h1.2
    ·rcases hb with rfl | rfl
     ·exact .inr h1.1
     ·exact .inr h1.2
   ·exact .inl (.inr (.inr ⟨i,p,hp,hb⟩))
 refine ⟨⟨C.mb,C.vs,setG C.G id o⟩,⟨h.bk.heap hg,h.sq.kt hk,hmp,fun i p hp => ?_,fun i hi => ?_,fun i j p r hp hr hij => ?_,fun i p hp => ?_,fun b hb => ?_⟩,hc,hown⟩
 ·simp only [setG] at hp
  by_cases e : i = id
  ·rw [if_pos e] at hp
   obtain ⟨x,h1,h2,h3,_⟩ := hid p hp
   refine ⟨x,?_,h2,h3⟩
   show setO D.2 id q i = _
   rw [e,setO_at]; exact h1
  ·rw [if_neg e] at hp
   obtain ⟨x,h1,h2,h3⟩ := h.tr i p hp
   obtain ⟨e1,e2⟩ := hoth i p e hp
   refine ⟨x,?_,h2.heap e1,(h3.keep hk e2).mono hn⟩
   show setO D.2 id q i = _
   rw [setO_ne _ _ e]; exact h1
 ·show setO D.2 id q i = none
  simp only [setG] at hi
  by_cases e : i = id
  ·rw [if_pos e] at hi
   rw [e,setO_at]; exact hno hi
  ·rw [if_neg e] at hi
   rw [setO_ne _ _ e]; exact h.no i hi
 ·simp only [setG] at hp hr
  by_cases e : i = id
  ·rw [if_pos e] at hp
   rw [if_neg (fun e2 => hij (by rw [e,e2]))] at hr
   obtain ⟨x,_,_,_,_,h5,_⟩ := hid p hp
   exact h5 j r (fun e2 => hij (by rw [e,e2])) hr
  ·rw [if_neg e] at hp
   by_cases e2 : j = id
   ·rw [if_pos e2] at hr
    obtain ⟨x,_,_,_,_,h5,_⟩ := hid r hr
    have := h5 i p e hp
    exact ⟨this.1.symm,this.2.symm⟩
   ·rw [if_neg e2] at hr
    exact h.ap i j p r hp hr hij
 ·simp only [setG] at hp
  split at hp
  ·obtain ⟨x,_,_,_,h4,_⟩ := hid p hp
   exact h4
  ·exact h.mo i p hp
 ·rcases hown b hb with e | e
  ·exact h.bs b e
  ·exact Nat.le_trans hB e
theorem CD.com (h : CD B w g n C D) (v : Value) (S : List Tb) (hv : SQ w v S) (hB : B ≤ w.heap.size) : StD B g n C (S,D.2) w (w.setCell ⟨g,1,none⟩ v) := by
 have hc : SL.Chg (C.own g) w (w.setCell ⟨g,1,none⟩ v) := (SL.Chg.refl _ _).setCell (p := ⟨g,1,none⟩) (.inl rfl) v
 have hk := (h.kc hc fun _ e => e).kt
 have hne : ∀ {b},b ≠ g → (w.setCell ⟨g,1,none⟩ v).heap[b]? = w.heap[b]? := fun hb => Below.heap_setCell _ _ _ _ hb
 have hmb : C.mb ≠ g := (bk_nmap h.bk h.mp.obj).symm
 refine ⟨⟨C.mb,v,C.G⟩,⟨h.bk.set_ 1 v,hv.kt hk,h.mp.keep (hne hmb),fun i p hp => ?_,h.no,h.ap,h.mo,fun b hb => h.bs b hb⟩,hc,fun b hb => .inl hb⟩
 obtain ⟨x,h1,h2,h3⟩ := h.tr i p hp
 exact ⟨x,h1,h2.heap (hne (h2.ne_ h.bk tr_ne_db.symm)),h3.keep hk (hne (bk_nmap h.bk h3.obj).symm)⟩
theorem CD.ends (h : CD B w g n C D) (hB : B ≤ w.heap.size) (id : Int) (hm : MV.MapV Tryz.prog 3 w' C.mb n (gF ⟨C.mb,C.vs,setG C.G id none⟩)) (ht : w.mapTurned w' C.mb) : StD B g n C (endP D id) w w' := by
 have hg := ht.grown
 have hc : SL.Chg (C.own g) w w' := (SL.Chg.refl _ _).grown hg fun k hk _ => by injection hk with hk; subst hk; exact .inr (.inl rfl)
 refine h.alt (Nat.le_refl _) hB hc id none none (hg.block g h.bk.lt (fun e => bk_nmap h.bk h.mp.obj (by injection e))) hm (fun i p _ hp => ?_) (fun p hp => (by cases hp)) (fun _ => rfl)
 obtain ⟨x,_,h2,h3⟩ := h.tr i p hp
 exact ⟨hg.block p.1 h2.lt (fun e => bk_nmap h2 h.mp.obj (by injection e)),hg.block p.2 h3.lt (fun e => h.mo i p hp (by injection e))⟩
end
set_option maxHeartbeats 2000000 in
theorem end_any (B : Nat) (w : World) (g n : Nat) (C : Cdb) (D : Dbp) (h : CD B w g n C D) (hB : B ≤ w.heap.size) (id : Int) (hi : I9 id) :
  Calls Tryz.prog 12 #[SL.ptr g,.int .i64 id] w fun e w' => e = .returned (.tuple #[]) ∧ StD B g n C (endP D id) w w' := by
 obtain ⟨c0,c1,c2⟩ := h.cells
 have HG := Lib.hid (dgiven_yes w g c0)
 have H := Lib.hid h
 have HB := Lib.hid hB
 have HK := Lib.hid (keyI9 id hi)
 clear h c1 hB hi
 go_enter Tryz.func12,Tryz.ntmps12
 go_wp2_with fail
 refine HG.out.mono ?_
 rintro e w' ⟨rfl,rfl⟩
 go_wp2_with (at_delete; refine MV.wpList_del rfl _ _ 56 rfl 70 intK9 Tryz.underlying56 rfl H.out.mp _ _ rfl HK.out ?_; intro w2 hm2 ht2; have HS := Lib.hid (H.out.ends HB.out id (hm2.congr fun kl => gF_set C id none kl _) ht2); clear hm2 ht2)
 first | go_end0 | (refine bodyPost_ret (v := .tuple #[]) (by simp [results,Tryz.results12,go_sem]) rfl ?_)
 exact ⟨rfl,HS.out⟩
set_option maxHeartbeats 2000000 in
theorem roll_any (B : Nat) (w : World) (g n : Nat) (C : Cdb) (D : Dbp) (h : CD B w g n C D) (hB : B ≤ w.heap.size) (id : Int) (hi : I9 id) (hs : isS id = true) (R : Dbp × Int) (hR : rollP D id = R) :
  Calls Tryz.prog 38 #[SL.ptr g,.int .i64 id] w fun e w' => e = .returned (.int .i64 R.2) ∧ StD B g n C R.1 w w' := by
 obtain ⟨c0,c1,c2⟩ := h.cells
 have hst : statP D id = stO (D.2 id) := by unfold statP; rw [hs]; rfl
 have HST := Lib.hid (status_any B w g n C D h id hi _ hst)
 have H := Lib.hid h
 have HB := Lib.hid hB
 have HK := Lib.hid (keyI9 id hi)
 unfold rollP at hR
 cases hd : D.2 id with
 | none =>
  rw [hd] at HST hR
  subst hR
  have HST : Hid (Calls Tryz.prog 20 #[SL.ptr g,.int .i64 id] w fun e w' => e = .returned (.int .u8 73) ∧ w = w') := HST
  clear h c0 c1 c2 hB hi hd hst hs
  go_enter Tryz.func38,Tryz.ntmps38
  go_wp2_with fail
  refine HST.out.mono ?_
  rintro e w' ⟨rfl,rfl⟩
  go_wp2
  go_ret
  exact ⟨rfl,.refl H.out (Below.refl _ _)⟩
 | some p =>
  rw [hd] at HST hR
  subst hR
  obtain ⟨z,hz⟩ : ∃ z,stO (some p) = z := ⟨_,rfl⟩
  have hz2 : z ≠ 73 := by
   rw [← hz]
   obtain ⟨b,T⟩ := p
   cases b <;> simp [stO]
  rw [hz] at HST
  clear h c0 c1 hB hi hd hst hs hz
  go_enter Tryz.func38,Tryz.ntmps38
  go_wp2_with fail
  refine HST.out.mono ?_
  rintro e w' ⟨rfl,rfl⟩
  go_wp2_with (at_delete; refine MV.wpList_del rfl _ _ 56 rfl 70 intK9 Tryz.underlying56 rfl H.out.mp _ _ rfl HK.out ?_; intro w2 hm2 ht2; have HS := Lib.hid (H.out.ends HB.out id (hm2.congr fun kl => gF_set C id none kl _) ht2); clear hm2 ht2)
  go_ret
  exact ⟨rfl,HS.out⟩

theorem tcs_put (x : List Tv) (i : Nat) (t q : Tv) (h : x[i]? = some t) : ((tcs x).set (i * 2) (.string q.1)).set (i * 2 + 1) q.2.1 = tcs (x.set i q) := by
 have hl := (List.getElem?_eq_some_iff.1 h).1
 rw [tcs_name x i t q.1 t.2.2 h,tcs_set (x.set i (q.1,t.2.1,t.2.2)) i (q.1,t.2.1,t.2.2) q.2.1 q.2.2 (by rw [List.getElem?_set_self hl]),List.set_set]
theorem TT.EQ.set {B g cap : Nat} {w : World} {l : List Tv} (h : TT.EQ B w (.slice (some ⟨g,0,none⟩) l.length cap) l) (i : Nat) (t q : Tv) (hi : l[i]? = some t) :
  TT.EQ B ((w.setCell ⟨g,i * 2,none⟩ (.string q.1)).setCell ⟨g,i * 2 + 1,none⟩ q.2.1) (.slice (some ⟨g,0,none⟩) l.length cap) (l.set i q) := by
 obtain ⟨a1,a2⟩ := World.ownsRow.stored h (i * 2) (.string q.1)
 obtain ⟨b1,b2⟩ := World.ownsRow.stored a1 (i * 2 + 1) q.2.1
 rw [tcs_put l i t q hi] at b1
 unfold TT.EQ
 rw [List.length_set]; exact b1
theorem TT.EQ.at_ {B g n cap : Nat} {w : World} {l : List Tv} (h : TT.EQ B w (.slice (some ⟨g,0,none⟩) n cap) l) (i : Nat) (t : Tv) (hi : l[i]? = some t) : w.cell? ⟨g,i * 2,none⟩ = some (.string t.1) ∧ w.cell? ⟨g,i * 2 + 1,none⟩ = some t.2.1 ∧ w.frozen? ⟨g,i * 2,none⟩ = false ∧ w.frozen? ⟨g,i * 2 + 1,none⟩ = false := by
 obtain ⟨e1,e2⟩ := tcs_at l i t hi
 have hn : n = l.length := by
  rcases h.2 with ⟨h',_⟩ | ⟨_,_,_,h',_⟩
  ·cases h'
  ·injection h'
 subst hn
 have c1 := World.ownsRow.cells h (g := g) rfl _ _ e1
 have c2 := World.ownsRow.cells h (g := g) rfl _ _ e2
 rw [Addr.add_lit,Nat.zero_add] at c1 c2
 have hf : ∀ j,w.frozen? ⟨g,j,none⟩ = false := fun j => by
  rcases h.2 with ⟨h',_⟩ | ⟨g',c',cur,h',_,hg,_⟩
  ·cases h'
  ·injection h' with h'
   injection h' with h'
   injection h' with h'
   subst h'
   simp [World.frozen?,hg]
 exact ⟨c1,c2,hf _,hf _⟩
def WithQ (s : List Tb) (w : World) (e : Ending) (w' : World) : Prop := ∃ v,e = .returned v ∧ SQ w' v s ∧ Below w.heap.size w w'
theorem SQ.ofE {B : Nat} {w : World} {v : Value} {x : List Tv} (h : TT.EQ B w v x) (hr : ∀ t ∈ x,RQ w t.2.1 t.2.2) : SQ w v (tbs x) := SQ.of_own h hr
theorem mset {α : Type} {l : List α} {i : Nat} {a x : α} (h : x ∈ l.set i a) : x ∈ l ∨ x = a := by
 rcases List.mem_or_eq_of_mem_set h with h | h
 ·exact .inl h
 ·exact .inr h
theorem tbs_ins9 (x : List Tv) (i : Nat) (n : ByteArray) (u : Value) (l : List Rw) : tbs (x.take i ++ (n,u,l) :: x.drop i) = (tbs x).take i ++ (n,l) :: (tbs x).drop i := by
 unfold tbs
 rw [List.map_append,List.map_cons,List.map_take,List.map_drop]
set_option maxHeartbeats 4000000 in
theorem with_any (v : Value) (s : List Tb) (n : ByteArray) (u : Value) (l : List Rw) (w : World) (h : SQ w v s) (hu : upW s) (hl : s.length ≤ 1000000) (ht : RQ w u l) :
  Calls Tryz.prog 49 #[v,tbV n u] w (WithQ (putS s (n,l)) w) := by
 obtain ⟨a,c,rfl⟩ := h.form
 obtain ⟨ua,uc,rfl⟩ := ht.form
 have hone := ht.one
 obtain ⟨P,hP⟩ : ∃ P,putS s (n,l) = P := ⟨_,rfl⟩
 rw [hP]
 obtain ⟨W0,hW0⟩ : ∃ W,w.alloc (.cells #[.string n,.slice ua l.length uc] 63) = W := ⟨_,rfl⟩
 obtain ⟨tb,htb⟩ : ∃ b,w.heap.size = b := ⟨_,rfl⟩
 have b0 : Below w.heap.size w W0 := by rw [← hW0]; exact (Below.refl _ _).alloc (Nat.le_refl _) _
 have k0 : SL.Bk W0 tb 63 #[.string n,.slice ua l.length uc] := by rw [← hW0,← htb]; exact SL.Bk.new _ _ _
 have hlt : tb < W0.heap.size := k0.lt
 have hs0 := h.bel b0
 have ht0 := ht.bel b0
 obtain ⟨X,hX,hx,hr⟩ := hs0.tx
 have hlx : X.length = s.length := by rw [← hX,tbs_len]
 have HC := Lib.hid (tabclone_any _ X W0 hx (TX.ones hr) (by omega))
 have HP := Lib.hid hP
 have B0 := Lib.hid b0
 have K0 := Lib.hid k0
 have HX := Lib.hid hX
 have HR := Lib.hid hr
 have HT := Lib.hid ht0
 have HU := Lib.hid hu
 have HL := Lib.hid hl
 have HLX := Lib.hid hlx
 have HTB := Lib.hid htb
 have HLT := Lib.hid hlt
 have HON := Lib.hid hone
 clear h hu hl ht hP b0 k0 hlt hs0 ht0 hX hx hr hlx hone
 go_enter Tryz.func49,Tryz.ntmps49
 go_wp2_with fail
 try rw [hW0]
 try rw [htb]
 refine HC.out.mono ?_
 rintro e w1 ⟨v1,rfl,he1,hb1⟩
 have hr1 : ∀ t ∈ X,RQ w1 t.2.1 t.2.2 := fun t ht => (HR.out t ht).bel hb1
 have hsq1 := SQ.ofE he1 hr1
 rw [HX.out] at hsq1
 have HS := Lib.hid (wsearch_any v1 s n w1 hsq1.sr (upN_mono (upW_iff.2 HU.out) n) HL.out)
 have K1 := Lib.hid (bk_bel K0.out hb1)
 have B1 := Lib.hid (B0.out.trans (hb1.mono B0.out.size))
 have HE1 := Lib.hid he1
 have HR1 := Lib.hid hr1
 have HT1 := Lib.hid (HT.out.bel hb1)
 have hv1 : ∃ a1 c1,v1 = .slice a1 s.length c1 := hsq1.form
 have q0 : w1.cell? ⟨tb,0,none⟩ = some (.string n) := (bk_bel K0.out hb1).cell 0
 have q1 : w1.cell? ⟨tb,1,none⟩ = some (.slice ua l.length uc) := (bk_bel K0.out hb1).cell 1
 have HLT1 : Hid (tb < w1.heap.size ∧ W0.heap.size ≤ w1.heap.size) := Lib.hid ⟨(bk_bel K0.out hb1).lt,hb1.size⟩
 have HB1 := Lib.hid hb1
 clear he1 hr1 hsq1 hb1 HC HR HT K0 B0
 try clear hW0
 obtain ⟨a1,c1,rfl⟩ := hv1
 go_wp2_with fail
 refine HS.out.mono ?_
 rintro e w2 ⟨rfl,hb2⟩
 have K2 := Lib.hid (bk_bel K1.out hb2)
 have B2 := Lib.hid (B1.out.trans (hb2.mono B1.out.size))
 have he2 : TT.EQ W0.heap.size w2 (.slice a1 s.length c1) X := own_below HE1.out hb2
 have HE2 := Lib.hid he2
 have HR2 : Hid (∀ t ∈ X,RQ w2 t.2.1 t.2.2) := Lib.hid fun t ht => (HR1.out t ht).bel hb2
 have HT2 := Lib.hid (HT1.out.bel hb2)
 have r0 : w2.cell? ⟨tb,0,none⟩ = some (.string n) := K2.out.cell 0
 have r1 : w2.cell? ⟨tb,1,none⟩ = some (.slice ua l.length uc) := K2.out.cell 1
 have HZ : Hid (w.heap.size ≤ W0.heap.size ∧ W0.heap.size ≤ w2.heap.size) := Lib.hid ⟨by have := HLT.out; have := HTB.out; omega,Nat.le_trans HLT1.out.2 hb2.size⟩
 clear q0 q1 hb2 he2 HE1 HR1 HT1 K1 B1 HB1 HLT1 HS
 obtain ⟨at9,hat⟩ : ∃ k,lowT s n = k := ⟨_,rfl⟩
 have hatl : at9 ≤ s.length := by rw [← hat]; exact low_le (ltN n) s
 rw [hat]
 cases hh : hasT s n with
 | true =>
  have hp : s.set at9 (n,l) = P := by
   rw [← HP.out]
   unfold putS
   show _ = if hasT s n = true then s.set (lowT s n) (n,l) else _
   rw [if_pos hh,hat]
  have hat2 : at9 < s.length := by
   unfold hasT at hh
   rw [hat] at hh
   split at hh
   ·rename_i t ht; exact (List.getElem?_eq_some_iff.1 ht).1
   ·cases hh
  rcases HE2.out.inv with ⟨hv,hx0⟩ | ⟨g1,cap,hv,hcap,_,hB,hg1⟩
  ·have := HLX.out; rw [hx0] at this; simp at this; omega
  ·injection hv with ea _ ec
   subst ea ec
   obtain ⟨t0,ht0⟩ : ∃ t0,X[at9]? = some t0 := ⟨X[at9]'(by have := HLX.out; omega),List.getElem?_eq_getElem _⟩
   have he3 : TT.EQ W0.heap.size w2 (.slice (some ⟨g1,0,none⟩) X.length c1) X := by
    have := HE2.out
    rw [← HLX.out] at this; exact this
   obtain ⟨z0,z1,z2,z3⟩ := he3.at_ at9 t0 ht0
   have l0 : (0 : Int) ≤ (at9 : Int) := by omega
   have l1 : (at9 : Int) < (s.length : Int) := by omega
   have hbB : W0.heap.size ≤ g1 := hB
   have HG1 := Lib.hid (show W0.heap.size ≤ g1 from hB)
   have HFIN := Lib.hid (he3.set at9 t0 (n,.slice ua l.length uc,l) ht0)
   have HPP := Lib.hid hp
   have HAT2 := Lib.hid hat2
   obtain ⟨cur,hcur⟩ := own_type HE2.out (g := g1) rfl
   have HR3 : Hid (∀ (x y : Value) (v : Value) (l : List Rw),RQ w2 v l → RQ ((w2.setCell ⟨g1,at9 * 2,none⟩ x).setCell ⟨g1,at9 * 2 + 1,none⟩ y) v l) := Lib.hid fun x y v l hq => hq.krow fun b cs fr hb => by
    have hne : b ≠ g1 := by
     rintro rfl
     unfold Blk at hcur
     rw [hcur] at hb
     injection hb with hb
     injection hb with _ hb _
     exact ty_ne hb
    exact (Below.heap_setCell _ _ _ _ hne).trans (Below.heap_setCell _ _ _ _ hne)
   clear hp hat hh he3 hcap hg1 hB hbB ht0 hatl hat2 hcur
   go_wp2
   go_ret
   have hb3 : Below w.heap.size w ((w2.setCell ⟨g1,at9 * 2,none⟩ (.string n)).setCell ⟨g1,at9 * 2 + 1,none⟩ (.slice ua l.length uc)) := by
    have hz := HZ.out
    have hg := HG1.out
    exact (B2.out.setCell (p := ⟨g1,at9 * 2,none⟩) (by show w.heap.size ≤ g1; omega) _).setCell (p := ⟨g1,at9 * 2 + 1,none⟩) (by show w.heap.size ≤ g1; omega) _
   refine ⟨_,rfl,?_,hb3⟩
   have hfin := SQ.ofE HFIN.out fun t ht => by
    rcases mset ht with ht | rfl
    ·exact HR3.out _ _ _ _ (HR2.out t ht)
    ·exact HR3.out _ _ _ _ HT2.out
   rw [tbs_set,HX.out,HPP.out] at hfin
   first | exact hfin | (rw [HLX.out] at hfin; exact hfin)
 | false =>
  have hp : s.take at9 ++ (n,l) :: s.drop at9 = P := by
   rw [← HP.out]
   unfold putS
   show _ = if hasT s n = true then s.set (lowT s n) (n,l) else s.take (lowT s n) ++ (n,l) :: s.drop (lowT s n)
   rw [if_neg (by rw [hh]; simp),hat]
  obtain ⟨W3,hW3⟩ : ∃ W,w2.alloc (.cells #[.string n,.slice ua l.length uc] 63) = W := ⟨_,rfl⟩
  obtain ⟨vb,hvb⟩ : ∃ b,w2.heap.size = b := ⟨_,rfl⟩
  have b3 : Below w2.heap.size w2 W3 := by rw [← hW3]; exact (Below.refl _ _).alloc (Nat.le_refl _) _
  have k3 : SL.Bk W3 vb 63 #[.string n,.slice ua l.length uc] := by rw [← hW3,← hvb]; exact SL.Bk.new _ _ _
  have he3 : TT.EQ W0.heap.size W3 (.slice a1 s.length c1) X := own_below HE2.out b3
  have hr3 : ∀ t ∈ X,RQ W3 t.2.1 t.2.2 := fun t ht => (HR2.out t ht).bel b3
  have ht3 := HT2.out.bel b3
  have hz := HZ.out
  obtain ⟨R,hR⟩ : ∃ R,X.take at9 ++ (n,.slice ua l.length uc,l) :: X.drop at9 = R := ⟨_,rfl⟩
  have hI := (TT.einsert_any W0.heap.size _ X at9 (n,.slice ua l.length uc,l) vb W3 he3 k3 (fun q hq => by have := (HE2.out.lt q hq).2; omega) (by have := HLX.out; omega) (TX.ones HR2.out) HON.out (by have := HLX.out; have := HL.out; omega) (by have := b3.size; omega))
  rw [hR] at hI
  have HI := Lib.hid hI
  have HRR := Lib.hid hR
  clear hI hR
  have HE3 := Lib.hid he3
  have HR3 := Lib.hid hr3
  have HT3 := Lib.hid ht3
  have HPP := Lib.hid hp
  have B3 := Lib.hid (B2.out.trans (b3.mono B2.out.size))
  have HZ3 : Hid (w.heap.size ≤ W0.heap.size) := Lib.hid hz.1
  clear b3 k3 he3 hr3 ht3 hz hp hat hh hatl
  go_wp2_with fail
  try rw [hW3]
  try rw [hvb]
  refine HI.out.mono ?_
  rintro e w4 ⟨a4,c4,rfl,he4,hg4,_⟩
  have HE4 := Lib.hid he4
  have HG4 := Lib.hid hg4
  clear he4 hg4
  try clear hW3 hvb
  go_wp2
  go_ret
  have hk4 : ∀ (b : Nat) (cs : Array Value) (fr : Nat × Nat),W3.heap[b]? = some (.cells cs 65 fr) → w4.heap[b]? = W3.heap[b]? := fun b cs fr hb => HG4.out.block b (Array.getElem?_eq_some_iff.1 hb).1 fun e => by
   obtain ⟨cur,hcur⟩ := own_type HE3.out (g := b) e.symm
   unfold Blk at hcur
   rw [hcur] at hb
   injection hb with hb
   injection hb with _ hb _
   exact ty_ne hb
  have hfin := SQ.ofE HE4.out fun t ht => by
   rw [← HRR.out] at ht
   rcases List.mem_append.1 ht with ht | ht
   ·exact (HR3.out t (List.mem_of_mem_take ht)).krow hk4
   ·rcases List.mem_cons.1 ht with rfl | ht
    ·exact HT3.out.krow hk4
    ·exact (HR3.out t (List.mem_of_mem_drop ht)).krow hk4
  rw [← HRR.out,tbs_ins9,HX.out,HPP.out,HRR.out] at hfin
  exact ⟨_,rfl,hfin,B3.out.grown HG4.out B3.out.size fun j hj => by have := (HE3.out.lt j hj).1; have := HZ3.out; omega⟩
end Go.Proofs.YtjmmninopagpjaaGreatDoor
