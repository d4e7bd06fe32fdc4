/- Sef Seg Seh -/
import Derived.Test.YtjmmninopagpjaaGreatDoorG27
import Derived.Deep.LoopGhost
import Derived.Test.YtjmmninopagpjaaGreatDoorG1
set_option linter.unusedSimpArgs false
set_option linter.unusedVariables false
namespace Go.Proofs.YtjmmninopagpjaaGreatDoor
open Go.ChangeShapes Go.WideShapes Go.ChangeAt Go.RowKit
set_option maxRecDepth 100000
set_option linter.unusedVariables false
set_option linter.unusedSimpArgs false

def aliasC (l : List Tok) (i : Nat) : Nat := if nameW l (asB l i) = 1 then asB l i + 1 else asB l i
theorem aliasC_le (l : List Tok) (i : Nat) : i ≤ aliasC l i ∧ aliasC l i ≤ i + 2 := by have := as_le l i; unfold aliasC; split <;> omega
theorem part_nocomma {l : List Tok} {i : Nat} (h : partB l i = true) : commaB l i = false := by
 have hi := partB_lt h
 rw [partB_in hi] at h
 unfold commaB
 rw [isTok_in 5 _ hi]
 generalize l[i] = t at *
 by_cases h5 : t.1 = 5
 ·rw [h5] at h; simp at h
 ·have : (t.1 == 5) = false := by rw [beq_eq_false_iff_ne]; exact h5
  rw [this]; rfl
theorem dot_nocomma {l : List Tok} {i : Nat} (h : isTok 5 [[46]] l i = true) : commaB l i = false := by
 have hi := isTok_lt h
 rw [isTok_in 5 _ hi] at h
 unfold commaB
 rw [isTok_in 5 _ hi]
 generalize l[i] = t at *
 simp only [Bool.and_eq_true,beq_iff_eq,List.contains_cons,List.contains_nil,Bool.or_false] at h
 rw [h.2]; simp
theorem alias_same (l : List Tok) (i : Nat) : (commaB l (aliasC l i) = true ∧ aliasC l i = aliasB l i) ∨ (commaB l (aliasC l i) = false ∧ commaB l (aliasB l i) = false) := by
 unfold aliasC aliasB
 generalize asB l i = j
 cases hp : partB l j with
 | false =>
  have : nameW l j = 0 := by unfold nameW; rw [if_pos hp]
  rw [this,if_neg (by decide),if_neg (by decide)]
  cases commaB l j with
  | true => exact .inl ⟨rfl,rfl⟩
  | false => exact .inr ⟨rfl,rfl⟩
 | true =>
  rw [if_pos rfl]
  cases hd : (isTok 5 [[46]] l (j + 1) && partB l (j + 2)) with
  | true =>
   have : nameW l j = 3 := by unfold nameW; rw [hp,hd]; rfl
   rw [this,if_neg (by decide)]
   exact .inr ⟨part_nocomma hp,dot_nocomma (Bool.and_eq_true_iff.1 hd).1⟩
  | false =>
   have : nameW l j = 1 := by unfold nameW; rw [hp,hd]; rfl
   rw [this,if_pos rfl]
   cases commaB l (j + 1) with
   | true => exact .inl ⟨rfl,rfl⟩
   | false => exact .inr ⟨rfl,rfl⟩
theorem below_new (w : World) (o : Obj) : Below w.heap.size w (w.alloc o) := (Below.refl _ _).alloc (Nat.le_refl _) _
theorem isWord1 (v : Value) (l : List Tok) (i : Nat) (s : ByteArray) (w : World) (h : TR w v l) (hl : l.length ≤ 1099511627776) :
  Calls Tryz.prog 262 #[v,.int .i64 (i : Int),.slice (some ⟨w.heap.size,0,none⟩) 1 1] (w.alloc (.cells #[.string s] 9)) fun e w' => e = .returned (.bool (isTok 1 [s.toList] l i)) ∧ w' = w.alloc (.cells #[.string s] 9) :=
 isWord_any v l i w.heap.size 0 1 [s] _ (h.below (below_new _ _)) hl (by simp) fun j hj => by
  obtain rfl : j = 0 := by simpa using hj
  simp [go_sem]
theorem isWord2 (v : Value) (l : List Tok) (i : Nat) (s t : ByteArray) (w : World) (h : TR w v l) (hl : l.length ≤ 1099511627776) :
  Calls Tryz.prog 262 #[v,.int .i64 (i : Int),.slice (some ⟨w.heap.size,0,none⟩) 2 2] (w.alloc (.cells #[.string s,.string t] 9)) fun e w' => e = .returned (.bool (isTok 1 [s.toList,t.toList] l i)) ∧ w' = w.alloc (.cells #[.string s,.string t] 9) :=
 isWord_any v l i w.heap.size 0 2 [s,t] _ (h.below (below_new _ _)) hl (by simp) fun j hj => by
  match j,hj with
  | 0,_ => simp [go_sem]
  | 1,_ => simp [go_sem]
theorem bytes_of (l : Tx) : (⟨l.toArray⟩ : ByteArray).toList = l := by rw [Lib.toList_data]
set_option maxHeartbeats 1000000 in
theorem behindAlias_any (v : Value) (l : List Tok) (i : Nat) (w : World) (h : TR w v l) (hl : l.length ≤ 1099511627776) (hi : i ≤ 1099511627700) :
  Calls Tryz.prog 265 #[v,.int .i64 (i : Int)] w fun e w' => e = .returned (.int .i64 (aliasC l i : Nat)) ∧ Below w.heap.size w w' := by
 obtain ⟨i1,hi1⟩ : ∃ i1,i + 1 = i1 := ⟨_,rfl⟩
 obtain ⟨i2,hi2⟩ : ∃ i2,i + 2 = i2 := ⟨_,rfl⟩
 have wa : IntKind.i64.wrap ((i : Int) + 1) = (i1 : Int) := by rw [show (i : Int) + 1 = (i1 : Int) by omega]; exact wrap_nat (by omega)
 have wb : IntKind.i64.wrap ((i1 : Int) + 1) = (i2 : Int) := by rw [show (i1 : Int) + 1 = (i2 : Int) by omega]; exact wrap_nat (by omega)
 have hw := isWord1 v l i ⟨#[97,115]⟩ w h hl
 have hn1 := nameSize_any v l i (w.alloc (.cells #[.string ⟨#[97,115]⟩] 9)) (h.below (below_new _ _)) hl (by omega)
 have hn2 := nameSize_any v l i1 (w.alloc (.cells #[.string ⟨#[97,115]⟩] 9)) (h.below (below_new _ _)) hl (by omega)
 have e0 : [(⟨#[97,115]⟩ : ByteArray).toList] = [w_as] := by rw [Lib.toList_data]; rfl
 rw [e0] at hw
 have hB := below_new w (.cells #[.string ⟨#[97,115]⟩] 9)
 have hr : aliasC l i = if isTok 1 [w_as] l i = true then (if nameW l i1 = 1 then i2 else i1) else (if nameW l i = 1 then i1 else i) := by
  unfold aliasC asB
  subst hi2 hi1
  split <;> rfl
 generalize aliasC l i = r at *
 generalize isTok 1 [w_as] l i = b at *
 generalize nameW l i = n at *
 generalize nameW l i1 = m at *
 have HW := Lib.hid hw
 have HM := Lib.hid hn1
 have HN := Lib.hid hn2
 have HB := Lib.hid hB
 clear hw hn1 hn2 hB h hi1 hi2 hi e0
 cases b
 ·by_cases h1 : n = 1
  ·subst h1
   rw [if_neg (by decide),if_pos rfl] at hr
   subst hr
   go_enter Tryz.func265,Tryz.ntmps265
   go_wp2_with (first
    | (go_at_call 262; (with_reducible refine HW.out.mono ?_); rintro e w2 ⟨rfl,rfl⟩)
    | (go_at_call 263; (with_reducible refine HM.out.mono ?_); rintro e w2 ⟨rfl,rfl⟩))
   go_ret
   exact ⟨rfl,HB.out⟩
  ·have e1 : ((n : Int) == (1 : Int)) = false := by rw [beq_eq_false_iff_ne]; omega
   rw [if_neg (by decide),if_neg h1] at hr
   subst hr
   clear h1
   go_enter Tryz.func265,Tryz.ntmps265
   go_wp2_with (first
    | (go_at_call 262; (with_reducible refine HW.out.mono ?_); rintro e w2 ⟨rfl,rfl⟩)
    | (go_at_call 263; (with_reducible refine HM.out.mono ?_); rintro e w2 ⟨rfl,rfl⟩))
   go_ret
   exact ⟨rfl,HB.out⟩
 ·by_cases h1 : m = 1
  ·subst h1
   rw [if_pos rfl,if_pos rfl] at hr
   subst hr
   go_enter Tryz.func265,Tryz.ntmps265
   go_wp2_with (first
    | (go_at_call 262; (with_reducible refine HW.out.mono ?_); rintro e w2 ⟨rfl,rfl⟩)
    | (go_at_call 263; (with_reducible refine HN.out.mono ?_); rintro e w2 ⟨rfl,rfl⟩))
   go_ret
   exact ⟨rfl,HB.out⟩
  ·have e1 : ((m : Int) == (1 : Int)) = false := by rw [beq_eq_false_iff_ne]; omega
   rw [if_pos rfl,if_neg h1] at hr
   subst hr
   clear h1
   go_enter Tryz.func265,Tryz.ntmps265
   go_wp2_with (first
    | (go_at_call 262; (with_reducible refine HW.out.mono ?_); rintro e w2 ⟨rfl,rfl⟩)
    | (go_at_call 263; (with_reducible refine HN.out.mono ?_); rintro e w2 ⟨rfl,rfl⟩))
   go_ret
   exact ⟨rfl,HB.out⟩

theorem nameText_one (v : Value) (t : Tok) (w : World) (h : TR w v [t]) (hz : t.2.1.size ≤ 281474976710656) :
  Calls Tryz.prog 264 #[v] w fun e w' => e = .returned (.string t.2.1) ∧ Below w.heap.size w w' := by
 obtain ⟨a,cap,rfl,hx⟩ := tr_at h
 clear h
 rcases hx with h0 | ⟨g,off,rfl,hcap,hx⟩
 ·exact absurd h0 (by simp)
 ·have x2 := (hx 0 (by simp)).2
  have hc := clone_any t.2.1 w hz
  obtain ⟨kd,tx,ta⟩ := t
  simp only [List.getElem_cons_zero,List.length_singleton,Nat.zero_mul,Nat.add_zero] at x2 hc hx ⊢
  have HC := Lib.hid hc
  clear hx hc hcap hz
  go_enter Tryz.func264,Tryz.ntmps264
  go_wp2_with (go_at_call 54; (with_reducible refine HC.out.mono ?_); rintro e w2 ⟨rfl,hb⟩)
  go_ret
  exact ⟨rfl,hb⟩
set_option maxHeartbeats 1000000 in
theorem nameText_two (v : Value) (t p q : Tok) (w : World) (h : TR w v [t,p,q]) (hz : t.2.1.size ≤ 1000000000) (hz2 : q.2.1.size ≤ 1000000000) :
  Calls Tryz.prog 264 #[v] w fun e w' => (∃ s : ByteArray,e = .returned (.string s) ∧ s.toList = t.2.1.toList ++ [46] ++ q.2.1.toList) ∧ Below w.heap.size w w' := by
 obtain ⟨a,cap,rfl,hx⟩ := tr_at h
 clear h
 rcases hx with h0 | ⟨g,off,rfl,hcap,hx⟩
 ·exact absurd h0 (by simp)
 ·have x1 := (hx 0 (by simp)).2
  have x2 := (hx 2 (by simp)).2
  obtain ⟨kd,tx,ta⟩ := t
  obtain ⟨kq,ty,tb⟩ := q
  simp only [List.getElem_cons_zero,List.getElem_cons_succ,List.length_cons,List.length_nil,Nat.zero_add,Nat.reduceAdd,Nat.zero_mul,Nat.add_zero,Nat.reduceMul] at x1 x2 hx hz hz2 ⊢
  clear hx hcap
  go_enter Tryz.func264,Tryz.ntmps264
  go_wp2
  go_quiet (fail)
  go_wp2
  go_ret
  refine ⟨⟨_,rfl,?_⟩,⟨rfl,rfl,rfl,Nat.le_refl _,fun _ _ => rfl⟩⟩
  simp only [Lib.toList_data,ByteArray.data_append,Array.toList_append]

def toldL (more : List (Tx × Nat) → Tx × Nat → Bool) : List (Tx × Nat) → List (Tx × Nat) → List (Tx × Nat)
 | d,[] => d
 | d,x :: r => if more d x = true then toldL more (d ++ [x]) r else d ++ [x]
structure Teller (f : Nat) (lb : Array Value) (v : Value) (l : List Tok) (z : Nat) (J : List (Tx × Nat) → World → Prop) (more : List (Tx × Nat) → Tx × Nat → Bool) : Prop where
 enter : ∀ args w,Sem.run Tryz.prog (callFunc f args) w = .ok (.enter f args) w
 reads : ∀ d W,J d W → TR W v l
 keeps : ∀ d W W',J d W → Below W.heap.size W W' → J d W'
 tells : ∀ d (s : ByteArray) (p : Nat) W,J d W → d.length + 1 ≤ z → s.size ≤ 2000000001 → p < l.length → Calls Tryz.prog f (#[.string s,.int .i64 (p : Int)] ++ lb) W fun e W' => e = .returned (.bool (more d (s.toList,p))) ∧ J (d ++ [(s.toList,p)]) W'
theorem piece_tr {w : World} {g off : Nat} {l : List Tok} (hx : ∀ k (hk : k < l.length),w.cell? ⟨g,off + k * 3,none⟩ = some (.int .i64 l[k].1) ∧ w.cell? ⟨g,off + k * 3 + 1,none⟩ = some (.string l[k].2.1) ∧ w.cell? ⟨g,off + k * 3 + 2,none⟩ = some (.int .i64 l[k].2.2)) (j n c : Nat) (hj : j + n ≤ l.length) (hc : n ≤ c) :
  TR w (.slice (some ⟨g,off + j * 3,none⟩) n c) ((l.drop j).take n) := by
 have hlen : ((l.drop j).take n).length = n := by rw [List.length_take,List.length_drop]; omega
 refine .inr ⟨g,off + j * 3,c,by rw [hlen],by rw [hlen]; exact hc,fun i t hi => ?_⟩
 have hin : i < n := by have := (List.getElem?_eq_some_iff.1 hi).1; omega
 rw [List.getElem?_take_of_lt hin,List.getElem?_drop] at hi
 obtain ⟨h1,h2⟩ := List.getElem?_eq_some_iff.1 hi
 have h3 := hx (j + i) h1
 rw [h2,show off + (j + i) * 3 = off + j * 3 + i * 3 by omega] at h3
 exact h3
theorem nameText_at (v : Value) (l : List Tok) (j : Nat) (w : World) (h : TR w v l) (hz : ∀ t ∈ l,t.2.1.size ≤ 1000000000) (hn : nameW l j ≠ 0) (g off cap : Nat) (hv : v = .slice (some ⟨g,off,none⟩) l.length cap) (c : Nat) (hc : nameW l j ≤ c) :
  Calls Tryz.prog 264 #[.slice (some ⟨g,off + j * 3,none⟩) (nameW l j) c] w fun e w' => (∃ s : ByteArray,e = .returned (.string s) ∧ s.toList = nameX l j ∧ s.size ≤ 2000000001) ∧ Below w.heap.size w w' := by
 obtain ⟨hle,h1,h3⟩ := nameW_lt hn
 have hx : ∀ k (hk : k < l.length),w.cell? ⟨g,off + k * 3,none⟩ = some (.int .i64 l[k].1) ∧ w.cell? ⟨g,off + k * 3 + 1,none⟩ = some (.string l[k].2.1) ∧ w.cell? ⟨g,off + k * 3 + 2,none⟩ = some (.int .i64 l[k].2.2) := by
  rcases h with ⟨A,c2,e,rfl⟩ | ⟨g2,off2,c2,e,_,hx⟩
  ·intro k hk; exact absurd hk (by simp)
  ·rw [hv] at e; cases e
   exact fun k hk => hx k l[k] (List.getElem?_eq_getElem hk)
 have hp := piece_tr hx j (nameW l j) c hle hc
 have hj : j < l.length := by omega
 have t0 : txtAt l j = l[j].2.1.toList := by unfold txtAt; rw [List.getElem?_eq_getElem hj]
 have sz : ∀ k (hk : k < l.length),l[k].2.1.size ≤ 1000000000 := fun k hk => hz _ (List.getElem_mem hk)
 have hs0 := sz j hj
 have hw : nameW l j = 3 ∨ nameW l j = 1 := by
  unfold nameW at hn ⊢
  split at hn
  ·exact absurd rfl hn
  ·rename_i hp
   rw [if_neg hp]
   split
   ·exact .inl rfl
   ·exact .inr rfl
 rcases hw with e | e
 ·have hj2 : j + 2 < l.length := by omega
  have hj1 : j + 1 < l.length := by omega
  have ep : (l.drop j).take 3 = [l[j],l[j + 1],l[j + 2]] := by
   rw [List.drop_eq_getElem_cons hj,List.drop_eq_getElem_cons hj1,List.drop_eq_getElem_cons hj2]; rfl
  have t2 : txtAt l (j + 2) = l[j + 2].2.1.toList := by unfold txtAt; rw [List.getElem?_eq_getElem hj2]
  have hs2 := sz (j + 2) hj2
  rw [e] at hp ⊢
  rw [ep] at hp
  refine (nameText_two _ _ _ _ w hp hs0 hs2).mono fun e2 w' ⟨⟨s,he,hs⟩,hb⟩ => ⟨⟨s,he,?_,?_⟩,hb⟩
  ·rw [hs,nameX,if_pos e,t0,t2]
  ·have h5 : s.size = s.toList.length := by rw [Lib.toList_data]; rfl
   have h6 : l[j].2.1.size = l[j].2.1.toList.length := by rw [Lib.toList_data]; rfl
   have h7 : l[j + 2].2.1.size = l[j + 2].2.1.toList.length := by rw [Lib.toList_data]; rfl
   rw [h5,hs,List.length_append,List.length_append,List.length_singleton]
   omega
 ·have ep : (l.drop j).take 1 = [l[j]] := by rw [List.drop_eq_getElem_cons hj]; rfl
  rw [e] at hp ⊢
  rw [ep] at hp
  refine (nameText_one _ _ w hp (by omega)).mono fun e2 w' ⟨he,hb⟩ => ⟨⟨_,he,?_,by omega⟩,hb⟩
  rw [nameX,if_neg (by omega),t0]
end Go.Proofs.YtjmmninopagpjaaGreatDoor
