/- See Sef Seg Seh Sei Sej -/
import Derived.Test.YtgdabkpahmlkpaaGreatDoorG10
import Derived.Deep.RegionWith
import Derived.Deep.RegionHeld3
import Derived.Deep.LoopGhost
import Derived.Test.YtgdabkpahmlkpaaGreatDoorG9
import Derived.Test.YtgdabkpahmlkpaaGreatDoorG8
import Derived.OneCell
import Derived.Deep.AppendLies
set_option linter.unusedSimpArgs false
set_option linter.unusedVariables false
namespace Go.Proofs.YtgdabkpahmlkpaaGreatDoor
open Go.ChangeShapes Go.WideShapes Go.ChangeAt Go.RowKit
set_option maxRecDepth 100000
set_option linter.unusedVariables false
set_option linter.unusedSimpArgs false

set_option maxHeartbeats 1000000 in
theorem isName_any (v : Value) (l : List Tok) (i : Nat) (w : World) (h : TR w v l) (hl : l.length ≤ 1099511627776) :
  Calls Tryz.prog 278 #[v,.int .i64 (i : Int)] w fun e w' => e = .returned (.bool (partB l i)) ∧ w' = w := by
 obtain ⟨a,cap,rfl,hx⟩ := tr_at h
 clear h
 by_cases hi : i < l.length
 ·rcases hx with h0 | ⟨g,off,rfl,hcap,hx⟩
  ·omega
  ·obtain ⟨x1,x2⟩ := hx i hi
   have l0 : (0 : Int) ≤ (i : Int) := by omega
   have l1 : (i : Int) < (l.length : Int) := by omega
   rw [partB_in hi]
   generalize l[i] = t at *
   obtain ⟨kd,tx,ta⟩ := t
   simp only at x1 x2 ⊢
   clear hx hi
   have hk := isKeyWord_any tx w
   obtain ⟨c,hc⟩ : ∃ c,keysL.contains tx.toList = c := ⟨_,rfl⟩
   unfold KeyP at hk
   rw [hc] at hk ⊢
   have HK := Lib.hid hk
   clear hk hc
   by_cases h2 : kd = 2
   ·subst h2
    go_enter Tryz.func278,Tryz.ntmps278
    go_wp2
    go_ret
    exact ⟨rfl,rfl⟩
   ·have k2 : (kd == (2 : Int)) = false := by rw [beq_eq_false_iff_ne]; exact h2
    rw [k2]
    clear h2
    by_cases h1 : kd = 1
    ·subst h1
     cases c <;>
     ·go_enter Tryz.func278,Tryz.ntmps278
      go_wp2_with (go_at_call 289; (with_reducible refine HK.out.mono ?_); rintro e w2 ⟨rfl,rfl⟩)
      go_ret
      exact ⟨rfl,rfl⟩
    ·have k1 : (kd == (1 : Int)) = false := by rw [beq_eq_false_iff_ne]; exact h1
     rw [k1]
     clear h1
     go_enter Tryz.func278,Tryz.ntmps278
     go_wp2
     go_ret
     exact ⟨rfl,rfl⟩
 ·have l1 : ((l.length : Int) ≤ (i : Int)) := by omega
  rw [partB_out hi]
  clear hx hi
  go_enter Tryz.func278,Tryz.ntmps278
  go_wp2
  go_ret
  exact ⟨rfl,rfl⟩
theorem wrap_nat {n : Nat} (h : n < 9223372036854775808) : IntKind.i64.wrap (n : Int) = (n : Int) := IntWalk.i64_in _ (by omega)
set_option maxHeartbeats 1000000 in
theorem nameSize_any (v : Value) (l : List Tok) (i : Nat) (w : World) (h : TR w v l) (hl : l.length ≤ 1099511627776) (hi : i ≤ 1099511627776) :
  Calls Tryz.prog 255 #[v,.int .i64 (i : Int)] w fun e w' => e = .returned (.int .i64 (nameW l i : Nat)) ∧ w' = w := by
 have h1 := fun n => isName_any v l n w h hl
 have h2 := fun n => isSign_any v l n ⟨#[46]⟩ w h hl
 have hn : nameW l i = if partB l i = false then 0 else if (isTok 5 [[46]] l (i + 1) && partB l (i + 2)) = true then 3 else 1 := rfl
 obtain ⟨i1,hi1⟩ : ∃ i1,i + 1 = i1 := ⟨_,rfl⟩
 obtain ⟨i2,hi2⟩ : ∃ i2,i + 2 = i2 := ⟨_,rfl⟩
 have wa : IntKind.i64.wrap ((i : Int) + 1) = (i1 : Int) := by rw [show (i : Int) + 1 = (i1 : Int) by omega]; exact wrap_nat (by omega)
 have wb : IntKind.i64.wrap ((i : Int) + 2) = (i2 : Int) := by rw [show (i : Int) + 2 = (i2 : Int) by omega]; exact wrap_nat (by omega)
 rw [hi1,hi2] at hn
 clear hi1 hi2 hi
 have h1a := h1 i
 have h1b := h1 i2
 have h2a := h2 i1
 have e0 : [(⟨#[46]⟩ : ByteArray).toList] = [[46]] := by rw [Lib.toList_data]
 rw [e0] at h2a
 generalize partB l i = p at *
 generalize isTok 5 [[46]] l i1 = q at *
 generalize partB l i2 = r at *
 generalize nameW l i = n at *
 subst hn
 have HA := Lib.hid h1a
 have HB := Lib.hid h1b
 have HC := Lib.hid h2a
 clear h1a h1b h2a h1 h2 h e0
 have step : ∀ x y : Bool,(if (x && y) = true then 3 else 1) = (if x = true then (if y = true then 3 else 1) else 1 : Nat) := by decide
 cases p
 ·go_enter Tryz.func255,Tryz.ntmps255
  go_wp2_with (go_at_call 278; (with_reducible refine HA.out.mono ?_); rintro e w2 ⟨rfl,rfl⟩)
  go_ret
  exact ⟨rfl,rfl⟩
 ·cases q
  ·go_enter Tryz.func255,Tryz.ntmps255
   go_wp2_with (first
    | (go_at_call 278; (with_reducible refine HA.out.mono ?_); rintro e w2 ⟨rfl,rfl⟩)
    | (go_at_call 258; (with_reducible refine HC.out.mono ?_); rintro e w2 ⟨rfl,rfl⟩))
   go_ret
   exact ⟨rfl,rfl⟩
  ·cases r <;>
   ·go_enter Tryz.func255,Tryz.ntmps255
    go_wp2_with (first
     | (go_at_call 278; (with_reducible refine HA.out.mono ?_); rintro e w2 ⟨rfl,rfl⟩)
     | (go_at_call 278; (with_reducible refine HB.out.mono ?_); rintro e w2 ⟨rfl,rfl⟩)
     | (go_at_call 258; (with_reducible refine HC.out.mono ?_); rintro e w2 ⟨rfl,rfl⟩))
    go_ret
    exact ⟨rfl,rfl⟩

def aliasC (l : List Tok) (i : Nat) : Nat := if nameW l (asB l i) = 1 then asB l i + 1 else asB l i
theorem aliasC_le (l : List Tok) (i : Nat) : i ≤ aliasC l i ∧ aliasC l i ≤ i + 2 := by have := as_le l i; unfold aliasC; split <;> omega
theorem part_nocomma {l : List Tok} {i : Nat} (h : partB l i = true) : commaB l i = false := by
 have hi := partB_lt h
 rw [partB_in hi] at h
 unfold commaB
 rw [isTok_in 5 _ hi]
 generalize l[i] = t at *
 by_cases h5 : t.1 = 5
 ·rw [h5] at h; simp at h
 ·have : (t.1 == 5) = false := by rw [beq_eq_false_iff_ne]; exact h5
  rw [this]; rfl
theorem dot_nocomma {l : List Tok} {i : Nat} (h : isTok 5 [[46]] l i = true) : commaB l i = false := by
 have hi := isTok_lt h
 rw [isTok_in 5 _ hi] at h
 unfold commaB
 rw [isTok_in 5 _ hi]
 generalize l[i] = t at *
 simp only [Bool.and_eq_true,beq_iff_eq,List.contains_cons,List.contains_nil,Bool.or_false] at h
 rw [h.2]; simp
theorem alias_same (l : List Tok) (i : Nat) : (commaB l (aliasC l i) = true ∧ aliasC l i = aliasB l i) ∨ (commaB l (aliasC l i) = false ∧ commaB l (aliasB l i) = false) := by
 unfold aliasC aliasB
 generalize asB l i = j
 cases hp : partB l j with
 | false =>
  have : nameW l j = 0 := by unfold nameW; rw [if_pos hp]
  rw [this,if_neg (by decide),if_neg (by decide)]
  cases commaB l j with
  | true => exact .inl ⟨rfl,rfl⟩
  | false => exact .inr ⟨rfl,rfl⟩
 | true =>
  rw [if_pos rfl]
  cases hd : (isTok 5 [[46]] l (j + 1) && partB l (j + 2)) with
  | true =>
   have : nameW l j = 3 := by unfold nameW; rw [hp,hd]; rfl
   rw [this,if_neg (by decide)]
   exact .inr ⟨part_nocomma hp,dot_nocomma (Bool.and_eq_true_iff.1 hd).1⟩
  | false =>
   have : nameW l j = 1 := by unfold nameW; rw [hp,hd]; rfl
   rw [this,if_pos rfl]
   cases commaB l (j + 1) with
   | true => exact .inl ⟨rfl,rfl⟩
   | false => exact .inr ⟨rfl,rfl⟩
theorem below_new (w : World) (o : Obj) : Below w.heap.size w (w.alloc o) := (Below.refl _ _).alloc (Nat.le_refl _) _
theorem isWord1 (v : Value) (l : List Tok) (i : Nat) (s : ByteArray) (w : World) (h : TR w v l) (hl : l.length ≤ 1099511627776) :
  Calls Tryz.prog 254 #[v,.int .i64 (i : Int),.slice (some ⟨w.heap.size,0,none⟩) 1 1] (w.alloc (.cells #[.string s] 9)) fun e w' => e = .returned (.bool (isTok 1 [s.toList] l i)) ∧ w' = w.alloc (.cells #[.string s] 9) :=
 isWord_any v l i w.heap.size 0 1 [s] _ (h.below (below_new _ _)) hl (by simp) fun j hj => by
  obtain rfl : j = 0 := by simpa using hj
  simp [go_sem]
theorem isWord2 (v : Value) (l : List Tok) (i : Nat) (s t : ByteArray) (w : World) (h : TR w v l) (hl : l.length ≤ 1099511627776) :
  Calls Tryz.prog 254 #[v,.int .i64 (i : Int),.slice (some ⟨w.heap.size,0,none⟩) 2 2] (w.alloc (.cells #[.string s,.string t] 9)) fun e w' => e = .returned (.bool (isTok 1 [s.toList,t.toList] l i)) ∧ w' = w.alloc (.cells #[.string s,.string t] 9) :=
 isWord_any v l i w.heap.size 0 2 [s,t] _ (h.below (below_new _ _)) hl (by simp) fun j hj => by
  match j,hj with
  | 0,_ => simp [go_sem]
  | 1,_ => simp [go_sem]
theorem bytes_of (l : Tx) : (⟨l.toArray⟩ : ByteArray).toList = l := by rw [Lib.toList_data]
set_option maxHeartbeats 1000000 in
theorem behindAlias_any (v : Value) (l : List Tok) (i : Nat) (w : World) (h : TR w v l) (hl : l.length ≤ 1099511627776) (hi : i ≤ 1099511627700) :
  Calls Tryz.prog 257 #[v,.int .i64 (i : Int)] w fun e w' => e = .returned (.int .i64 (aliasC l i : Nat)) ∧ Below w.heap.size w w' := by
 obtain ⟨i1,hi1⟩ : ∃ i1,i + 1 = i1 := ⟨_,rfl⟩
 obtain ⟨i2,hi2⟩ : ∃ i2,i + 2 = i2 := ⟨_,rfl⟩
 have wa : IntKind.i64.wrap ((i : Int) + 1) = (i1 : Int) := by rw [show (i : Int) + 1 = (i1 : Int) by omega]; exact wrap_nat (by omega)
 have wb : IntKind.i64.wrap ((i1 : Int) + 1) = (i2 : Int) := by rw [show (i1 : Int) + 1 = (i2 : Int) by omega]; exact wrap_nat (by omega)
 have hw := isWord1 v l i ⟨#[97,115]⟩ w h hl
 have hn1 := nameSize_any v l i (w.alloc (.cells #[.string ⟨#[97,115]⟩] 9)) (h.below (below_new _ _)) hl (by omega)
 have hn2 := nameSize_any v l i1 (w.alloc (.cells #[.string ⟨#[97,115]⟩] 9)) (h.below (below_new _ _)) hl (by omega)
 have e0 : [(⟨#[97,115]⟩ : ByteArray).toList] = [w_as] := by rw [Lib.toList_data]; rfl
 rw [e0] at hw
 have hB := below_new w (.cells #[.string ⟨#[97,115]⟩] 9)
 have hr : aliasC l i = if isTok 1 [w_as] l i = true then (if nameW l i1 = 1 then i2 else i1) else (if nameW l i = 1 then i1 else i) := by
  unfold aliasC asB
  subst hi2 hi1
  split <;> rfl
 generalize aliasC l i = r at *
 generalize isTok 1 [w_as] l i = b at *
 generalize nameW l i = n at *
 generalize nameW l i1 = m at *
 have HW := Lib.hid hw
 have HM := Lib.hid hn1
 have HN := Lib.hid hn2
 have HB := Lib.hid hB
 clear hw hn1 hn2 hB h hi1 hi2 hi e0
 cases b
 ·by_cases h1 : n = 1
  ·subst h1
   rw [if_neg (by decide),if_pos rfl] at hr
   subst hr
   go_enter Tryz.func257,Tryz.ntmps257
   go_wp2_with (first
    | (go_at_call 254; (with_reducible refine HW.out.mono ?_); rintro e w2 ⟨rfl,rfl⟩)
    | (go_at_call 255; (with_reducible refine HM.out.mono ?_); rintro e w2 ⟨rfl,rfl⟩))
   go_ret
   exact ⟨rfl,HB.out⟩
  ·have e1 : ((n : Int) == (1 : Int)) = false := by rw [beq_eq_false_iff_ne]; omega
   rw [if_neg (by decide),if_neg h1] at hr
   subst hr
   clear h1
   go_enter Tryz.func257,Tryz.ntmps257
   go_wp2_with (first
    | (go_at_call 254; (with_reducible refine HW.out.mono ?_); rintro e w2 ⟨rfl,rfl⟩)
    | (go_at_call 255; (with_reducible refine HM.out.mono ?_); rintro e w2 ⟨rfl,rfl⟩))
   go_ret
   exact ⟨rfl,HB.out⟩
 ·by_cases h1 : m = 1
  ·subst h1
   rw [if_pos rfl,if_pos rfl] at hr
   subst hr
   go_enter Tryz.func257,Tryz.ntmps257
   go_wp2_with (first
    | (go_at_call 254; (with_reducible refine HW.out.mono ?_); rintro e w2 ⟨rfl,rfl⟩)
    | (go_at_call 255; (with_reducible refine HN.out.mono ?_); rintro e w2 ⟨rfl,rfl⟩))
   go_ret
   exact ⟨rfl,HB.out⟩
  ·have e1 : ((m : Int) == (1 : Int)) = false := by rw [beq_eq_false_iff_ne]; omega
   rw [if_pos rfl,if_neg h1] at hr
   subst hr
   clear h1
   go_enter Tryz.func257,Tryz.ntmps257
   go_wp2_with (first
    | (go_at_call 254; (with_reducible refine HW.out.mono ?_); rintro e w2 ⟨rfl,rfl⟩)
    | (go_at_call 255; (with_reducible refine HN.out.mono ?_); rintro e w2 ⟨rfl,rfl⟩))
   go_ret
   exact ⟨rfl,HB.out⟩

theorem nameText_one (v : Value) (t : Tok) (w : World) (h : TR w v [t]) (hz : t.2.1.size ≤ 281474976710656) :
  Calls Tryz.prog 256 #[v] w fun e w' => e = .returned (.string t.2.1) ∧ Below w.heap.size w w' := by
 obtain ⟨a,cap,rfl,hx⟩ := tr_at h
 clear h
 rcases hx with h0 | ⟨g,off,rfl,hcap,hx⟩
 ·exact absurd h0 (by simp)
 ·have x2 := (hx 0 (by simp)).2
  have hc := clone_any t.2.1 w hz
  obtain ⟨kd,tx,ta⟩ := t
  simp only [List.getElem_cons_zero,List.length_singleton,Nat.zero_mul,Nat.add_zero] at x2 hc hx ⊢
  have HC := Lib.hid hc
  clear hx hc hcap hz
  go_enter Tryz.func256,Tryz.ntmps256
  go_wp2_with (go_at_call 85; (with_reducible refine HC.out.mono ?_); rintro e w2 ⟨rfl,hb⟩)
  go_ret
  exact ⟨rfl,hb⟩
set_option maxHeartbeats 1000000 in
theorem nameText_two (v : Value) (t p q : Tok) (w : World) (h : TR w v [t,p,q]) (hz : t.2.1.size ≤ 1000000000) (hz2 : q.2.1.size ≤ 1000000000) :
  Calls Tryz.prog 256 #[v] w fun e w' => (∃ s : ByteArray,e = .returned (.string s) ∧ s.toList = t.2.1.toList ++ [46] ++ q.2.1.toList) ∧ Below w.heap.size w w' := by
 obtain ⟨a,cap,rfl,hx⟩ := tr_at h
 clear h
 rcases hx with h0 | ⟨g,off,rfl,hcap,hx⟩
 ·exact absurd h0 (by simp)
 ·have x1 := (hx 0 (by simp)).2
  have x2 := (hx 2 (by simp)).2
  obtain ⟨kd,tx,ta⟩ := t
  obtain ⟨kq,ty,tb⟩ := q
  simp only [List.getElem_cons_zero,List.getElem_cons_succ,List.length_cons,List.length_nil,Nat.zero_add,Nat.reduceAdd,Nat.zero_mul,Nat.add_zero,Nat.reduceMul] at x1 x2 hx hz hz2 ⊢
  clear hx hcap
  go_enter Tryz.func256,Tryz.ntmps256
  go_wp2
  go_quiet (fail)
  go_wp2
  go_ret
  refine ⟨⟨_,rfl,?_⟩,⟨rfl,rfl,rfl,Nat.le_refl _,fun _ _ => rfl⟩⟩
  simp only [Lib.toList_data,ByteArray.data_append,Array.toList_append]

def toldL (more : List (Tx × Nat) → Tx × Nat → Bool) : List (Tx × Nat) → List (Tx × Nat) → List (Tx × Nat)
 | d,[] => d
 | d,x :: r => if more d x = true then toldL more (d ++ [x]) r else d ++ [x]
structure Teller (f : Nat) (lb : Array Value) (v : Value) (l : List Tok) (z : Nat) (J : List (Tx × Nat) → World → Prop) (more : List (Tx × Nat) → Tx × Nat → Bool) : Prop where
 enter : ∀ args w,Sem.run Tryz.prog (callFunc f args) w = .ok (.enter f args) w
 reads : ∀ d W,J d W → TR W v l
 keeps : ∀ d W W',J d W → Below W.heap.size W W' → J d W'
 tells : ∀ d (s : ByteArray) (p : Nat) W,J d W → d.length + 1 ≤ z → s.size ≤ 2000000001 → p < l.length → Calls Tryz.prog f (#[.string s,.int .i64 (p : Int)] ++ lb) W fun e W' => e = .returned (.bool (more d (s.toList,p))) ∧ J (d ++ [(s.toList,p)]) W'
theorem piece_tr {w : World} {g off : Nat} {l : List Tok} (hx : ∀ k (hk : k < l.length),w.cell? ⟨g,off + k * 3,none⟩ = some (.int .i64 l[k].1) ∧ w.cell? ⟨g,off + k * 3 + 1,none⟩ = some (.string l[k].2.1) ∧ w.cell? ⟨g,off + k * 3 + 2,none⟩ = some (.int .i64 l[k].2.2)) (j n c : Nat) (hj : j + n ≤ l.length) (hc : n ≤ c) :
  TR w (.slice (some ⟨g,off + j * 3,none⟩) n c) ((l.drop j).take n) := by
 have hlen : ((l.drop j).take n).length = n := by rw [List.length_take,List.length_drop]; omega
 refine .inr ⟨g,off + j * 3,c,by rw [hlen],by rw [hlen]; exact hc,fun i t hi => ?_⟩
 have hin : i < n := by have := (List.getElem?_eq_some_iff.1 hi).1; omega
 rw [List.getElem?_take_of_lt hin,List.getElem?_drop] at hi
 obtain ⟨h1,h2⟩ := List.getElem?_eq_some_iff.1 hi
 have h3 := hx (j + i) h1
 rw [h2,show off + (j + i) * 3 = off + j * 3 + i * 3 by omega] at h3
 exact h3
theorem nameText_at (v : Value) (l : List Tok) (j : Nat) (w : World) (h : TR w v l) (hz : ∀ t ∈ l,t.2.1.size ≤ 1000000000) (hn : nameW l j ≠ 0) (g off cap : Nat) (hv : v = .slice (some ⟨g,off,none⟩) l.length cap) (c : Nat) (hc : nameW l j ≤ c) :
  Calls Tryz.prog 256 #[.slice (some ⟨g,off + j * 3,none⟩) (nameW l j) c] w fun e w' => (∃ s : ByteArray,e = .returned (.string s) ∧ s.toList = nameX l j ∧ s.size ≤ 2000000001) ∧ Below w.heap.size w w' := by
 obtain ⟨hle,h1,h3⟩ := nameW_lt hn
 have hx : ∀ k (hk : k < l.length),w.cell? ⟨g,off + k * 3,none⟩ = some (.int .i64 l[k].1) ∧ w.cell? ⟨g,off + k * 3 + 1,none⟩ = some (.string l[k].2.1) ∧ w.cell? ⟨g,off + k * 3 + 2,none⟩ = some (.int .i64 l[k].2.2) := by
  rcases h with ⟨A,c2,e,rfl⟩ | ⟨g2,off2,c2,e,_,hx⟩
  ·intro k hk; exact absurd hk (by simp)
  ·rw [hv] at e; cases e
   exact fun k hk => hx k l[k] (List.getElem?_eq_getElem hk)
 have hp := piece_tr hx j (nameW l j) c hle hc
 have hj : j < l.length := by omega
 have t0 : txtAt l j = l[j].2.1.toList := by unfold txtAt; rw [List.getElem?_eq_getElem hj]
 have sz : ∀ k (hk : k < l.length),l[k].2.1.size ≤ 1000000000 := fun k hk => hz _ (List.getElem_mem hk)
 have hs0 := sz j hj
 have hw : nameW l j = 3 ∨ nameW l j = 1 := by
  unfold nameW at hn ⊢
  split at hn
  ·exact absurd rfl hn
  ·rename_i hp
   rw [if_neg hp]
   split
   ·exact .inl rfl
   ·exact .inr rfl
 rcases hw with e | e
 ·have hj2 : j + 2 < l.length := by omega
  have hj1 : j + 1 < l.length := by omega
  have ep : (l.drop j).take 3 = [l[j],l[j + 1],l[j + 2]] := by
   rw [List.drop_eq_getElem_cons hj,List.drop_eq_getElem_cons hj1,List.drop_eq_getElem_cons hj2]; rfl
  have t2 : txtAt l (j + 2) = l[j + 2].2.1.toList := by unfold txtAt; rw [List.getElem?_eq_getElem hj2]
  have hs2 := sz (j + 2) hj2
  rw [e] at hp ⊢
  rw [ep] at hp
  refine (nameText_two _ _ _ _ w hp hs0 hs2).mono fun e2 w' ⟨⟨s,he,hs⟩,hb⟩ => ⟨⟨s,he,?_,?_⟩,hb⟩
  ·rw [hs,nameX,if_pos e,t0,t2]
  ·have h5 : s.size = s.toList.length := by rw [Lib.toList_data]; rfl
   have h6 : l[j].2.1.size = l[j].2.1.toList.length := by rw [Lib.toList_data]; rfl
   have h7 : l[j + 2].2.1.size = l[j + 2].2.1.toList.length := by rw [Lib.toList_data]; rfl
   rw [h5,hs,List.length_append,List.length_append,List.length_singleton]
   omega
 ·have ep : (l.drop j).take 1 = [l[j]] := by rw [List.drop_eq_getElem_cons hj]; rfl
  rw [e] at hp ⊢
  rw [ep] at hp
  refine (nameText_one _ _ w hp (by omega)).mono fun e2 w' ⟨he,hb⟩ => ⟨⟨_,he,?_,by omega⟩,hb⟩
  rw [nameX,if_neg (by omega),t0]

set_option maxHeartbeats 4000000 in
theorem namesFrom_any (f : Nat) (lb : Array Value) (v : Value) (l : List Tok) (i z : Nat) (w : World) (J : List (Tx × Nat) → World → Prop) (more : List (Tx × Nat) → Tx × Nat → Bool)
  (T : Teller f lb v l z J more) (hl : l.length ≤ 1000000) (hi : i ≤ l.length) (hz : ∀ t ∈ l,t.2.1.size ≤ 1000000000) (d0 : List (Tx × Nat)) (h0 : J d0 w) (hd : d0.length + (l.length - i) ≤ z) :
  Calls Tryz.prog 230 #[v,.int .i64 (i : Int),.func (.func f) #[] lb] w fun e w' => e = .returned (.tuple #[]) ∧ J (toldL more d0 (fromL l i)) w' := by
 obtain ⟨R,hR⟩ : ∃ R,toldL more d0 (fromL l i) = R := ⟨_,rfl⟩
 rw [hR]
 obtain ⟨a,cap,rfl,hx⟩ := tr_at (T.reads _ _ h0)
 have HX : l.length = 0 ∨ ∃ g off,a = some ⟨g,off,none⟩ ∧ l.length ≤ cap := hx.imp id fun ⟨g,off,e,hc,_⟩ => ⟨g,off,e,hc⟩
 have HR := Lib.hid hR
 have HT := Lib.hid T
 have HZ := Lib.hid hz
 have HD := Lib.hid hd
 have H0 := Lib.hid h0
 clear hx hR T hz hd h0
 have hen := fun args w => HT.out.enter args w
 go_enter Tryz.func230,Tryz.ntmps230
 go_wp2
 go_loopg [1,6] (l.length + 1) (fun g u1 u6 wx => ∃ (k : Nat) (d : List (Tx × Nat)),u1 = .int .i64 (k : Int) ∧ k ≤ l.length ∧ l.length - k + 1 ≤ g ∧ J d wx ∧ d.length + (l.length - k) ≤ z ∧ R = toldL more d (fromL l k))
 case atStart => exact ⟨i,d0,rfl,hi,by omega,H0.out,HD.out,HR.out.symm⟩
 case round =>
  obtain ⟨k,d,rfl,hk,hg,hJ,hdk,hv⟩ := hrel
  have HJ := Lib.hid hJ
  have HV := Lib.hid hv
  have HDK := Lib.hid hdk
  clear hJ hv hdk HR H0 HD
  have hJw : J d (wr.alloc (.cells #[.string ⟨#[111,110,108,121]⟩,.string ⟨#[116,97,98,108,101]⟩] 9)) := HT.out.keeps _ _ _ HJ.out (below_new _ _)
  have hW := isWord2 (.slice a l.length cap) l k ⟨#[111,110,108,121]⟩ ⟨#[116,97,98,108,101]⟩ wr (HT.out.reads _ _ HJ.out) (by omega)
  have e0 : [(⟨#[111,110,108,121]⟩ : ByteArray).toList,(⟨#[116,97,98,108,101]⟩ : ByteArray).toList] = [w_only,w_table] := by rw [Lib.toList_data,Lib.toList_data]; rfl
  rw [e0] at hW
  obtain ⟨j,hj⟩ : ∃ j,skipB l k = j := ⟨_,rfl⟩
  obtain ⟨n,hn⟩ : ∃ n,nameW l j = n := ⟨_,rfl⟩
  have hjk := skip_le l k
  rw [hj] at hjk
  have hNS : ∀ W,J d W → Calls Tryz.prog 255 #[.slice a l.length cap,.int .i64 (j : Int)] W fun e w' => e = .returned (.int .i64 (n : Int)) ∧ w' = W := fun W h => by rw [← hn]; exact nameSize_any _ l j W (HT.out.reads _ _ h) (by omega) (by omega)
  have hE := fromL_eq l k
  rw [hj,hn] at hE
  have hwj : isTok 1 [w_only,w_table] l k = true → IntKind.i64.wrap ((k : Int) + 1) = (j : Int) := fun hb => by
   have : j = k + 1 := by rw [← hj,skipB,if_pos hb]
   rw [show (k : Int) + 1 = (j : Int) by omega]; exact wrap_nat (by omega)
  have hwk : isTok 1 [w_only,w_table] l k = false → j = k := fun hb => by rw [← hj,skipB,if_neg (by rw [hb]; decide)]
  generalize isTok 1 [w_only,w_table] l k = b1 at *
  have HW := Lib.hid hW
  have HNS := Lib.hid hNS
  have HJW := Lib.hid hJw
  have HJK := Lib.hid hjk
  clear hW hNS hJw e0 hjk
  by_cases hn0 : n = 0
  ·subst hn0
   rw [if_pos rfl] at hE
   have hv2 : R = d := by rw [HV.out,hE]; rfl
   have HV2 := Lib.hid hv2
   clear hE hv2 HV hn hj
   cases b1
   ·obtain rfl := hwk rfl
    clear hwj hwk
    go_wp2_with (first
     | (go_at_call 254; (with_reducible refine HW.out.mono ?_); rintro e w2 ⟨rfl,rfl⟩)
     | (go_at_call 255; (with_reducible refine (HNS.out _ HJW.out).mono ?_); rintro e w2 ⟨rfl,rfl⟩))
    refine bodyPost_ret (v := .tuple #[]) (by simp [results,Tryz.results230,go_sem]) rfl ?_
    exact ⟨rfl,by rw [HV2.out]; exact HJW.out⟩
   ·have hw1 := hwj rfl
    clear hwj hwk
    go_wp2_with (first
     | (go_at_call 254; (with_reducible refine HW.out.mono ?_); rintro e w2 ⟨rfl,rfl⟩)
     | (go_at_call 255; (with_reducible refine (HNS.out _ HJW.out).mono ?_); rintro e w2 ⟨rfl,rfl⟩))
    refine bodyPost_ret (v := .tuple #[]) (by simp [results,Tryz.results230,go_sem]) rfl ?_
    exact ⟨rfl,by rw [HV2.out]; exact HJW.out⟩
  ·have hnw := nameW_lt (l := l) (i := j) (by rw [hn]; exact hn0)
   rw [hn] at hnw
   obtain ⟨hjl,hn1,hn3⟩ := hnw
   rcases HX with h0 | ⟨g,off,rfl,hcap⟩
   ·omega
   obtain ⟨jn,hjn⟩ : ∃ jn,j + n = jn := ⟨_,rfl⟩
   rw [if_neg hn0,hjn] at hE
   obtain ⟨x,hx⟩ : ∃ x,(nameX l j,j) = x := ⟨_,rfl⟩
   obtain ⟨m,hm⟩ : ∃ m,more d x = m := ⟨_,rfl⟩
   obtain ⟨q,hq⟩ : ∃ q,aliasC l jn = q := ⟨_,rfl⟩
   obtain ⟨c,hc⟩ : ∃ c,commaB l q = c := ⟨_,rfl⟩
   have hqk := aliasC_le l jn
   rw [hq] at hqk
   have hnt : ∀ W,J d W → Calls Tryz.prog 256 #[.slice (some ⟨g,off + j * 3,none⟩) (jn - j) (cap - j)] W fun e w' => (∃ s : ByteArray,e = .returned (.string s) ∧ s.toList = nameX l j ∧ s.size ≤ 2000000001) ∧ J d w' := fun W h => by
    have := nameText_at _ l j W (HT.out.reads _ _ h) HZ.out (by rw [hn]; exact hn0) g off cap rfl (cap - j) (by rw [hn]; omega)
    rw [hn,show n = jn - j by omega] at this
    exact this.mono fun e w' h2 => ⟨h2.1,HT.out.keeps _ _ _ h h2.2⟩
   have hdz := HDK.out
   have hjk := HJK.out
   have htl : ∀ W (s : ByteArray),J d W → s.toList = nameX l j → s.size ≤ 2000000001 → Calls Tryz.prog f (#[.string s,.int .i64 (j : Int)] ++ lb) W fun e w' => e = .returned (.bool m) ∧ J (d ++ [x]) w' := fun W s h h2 h3 => by
    have := HT.out.tells d s j W h (by omega) h3 (by omega)
    rw [h2,hx,hm] at this
    exact this
   have hba : ∀ W,J (d ++ [x]) W → Calls Tryz.prog 257 #[.slice (some ⟨g,off,none⟩) l.length cap,.int .i64 (jn : Int)] W fun e w' => e = .returned (.int .i64 (q : Int)) ∧ J (d ++ [x]) w' := fun W h => by
    have := behindAlias_any _ l jn W (HT.out.reads _ _ h) (by omega) (by omega)
    rw [hq] at this
    exact this.mono fun e w' h2 => ⟨h2.1,HT.out.keeps _ _ _ h h2.2⟩
   have his : ∀ W,J (d ++ [x]) W → Calls Tryz.prog 258 #[.slice (some ⟨g,off,none⟩) l.length cap,.int .i64 (q : Int),.string ⟨#[44]⟩] W fun e w' => e = .returned (.bool c) ∧ w' = W := fun W h => by
    have := isSign_any _ l q ⟨#[44]⟩ W (HT.out.reads _ _ h) (by omega)
    rw [show [(⟨#[44]⟩ : ByteArray).toList] = [[44]] by rw [Lib.toList_data]] at this
    rw [← hc]; exact this
   have wjn : IntKind.i64.wrap ((j : Int) + (n : Int)) = (jn : Int) := by rw [show (j : Int) + (n : Int) = (jn : Int) by omega]; exact wrap_nat (by omega)
   obtain ⟨q1,hq1⟩ : ∃ q1,q + 1 = q1 := ⟨_,rfl⟩
   have wq : IntKind.i64.wrap ((q : Int) + 1) = (q1 : Int) := by rw [show (q : Int) + 1 = (q1 : Int) by omega]; exact wrap_nat (by omega)
   have l0 : (0 : Int) ≤ (j : Int) := by omega
   have l1 : (j : Int) ≤ (jn : Int) := by omega
   have l2 : (jn : Int) ≤ (cap : Int) := by omega
   have hcj1 : ¬ cap = j := by omega
   have hcj2 : ¬ j = cap := by omega
   have en : ((n : Int) == 0) = false := by rw [beq_eq_false_iff_ne]; omega
   have HNT := Lib.hid hnt
   have HTL := Lib.hid htl
   have HBA := Lib.hid hba
   have HIS := Lib.hid his
   have HE := Lib.hid hE
   have HQK := Lib.hid hqk
   have HJN := Lib.hid hjn
   have HQ1 := Lib.hid hq1
   have HC := Lib.hid hc
   have HQ := Lib.hid hq
   have HX2 := Lib.hid hx
   have HM := Lib.hid hm
   have HJL := Lib.hid hjl
   clear hnt htl hba his hE hqk hjn hq1 hc hm hq hx hj hn hdz hn0 hjl hcap hjk
   have hv1 : m = false → R = d ++ [x] := fun e => by rw [HV.out,HE.out,toldL,HX2.out,HM.out,e]; rfl
   have hv2 : m = true → c = false → R = d ++ [x] := fun e e2 => by
    rw [HV.out,HE.out,toldL,HX2.out,HM.out,e,if_pos rfl]
    have h3 : commaB l (aliasB l jn) = false := by
     rcases alias_same l jn with h | h
     ·rw [HQ.out,HC.out,e2] at h; exact absurd h.1 (by decide)
     ·exact h.2
    rw [h3,if_neg (by decide)]; rfl
   have hv3 : m = true → c = true → R = toldL more (d ++ [x]) (fromL l q1) ∧ q < l.length := fun e e2 => by
    rw [HV.out,HE.out,toldL,HX2.out,HM.out,e,if_pos rfl]
    have h3 : commaB l (aliasB l jn) = true ∧ aliasB l jn = q := by
     rcases alias_same l jn with h | h
     ·rw [HQ.out,HC.out,e2] at h; rw [← h.2]; exact ⟨by rw [HC.out,e2],rfl⟩
     ·rw [HQ.out,HC.out,e2] at h; exact absurd h.1 (by decide)
    rw [h3.1,if_pos rfl,h3.2,HQ1.out]
    exact ⟨rfl,isTok_lt (by have := HC.out; rw [e2] at this; exact this)⟩
   have HV1 := Lib.hid hv1
   have HV2 := Lib.hid hv2
   have HV3 := Lib.hid hv3
   clear hv1 hv2 hv3 HV HE HC HM HQ HX2
   cases b1
   ·obtain rfl := hwk rfl
    clear hwj hwk
    cases m
    ·have HR1 := Lib.hid (HV1.out rfl)
     clear HV1 HV2 HV3
     go_wp2_with (first
      | (go_at_call 254; (with_reducible refine HW.out.mono ?_); rintro e w2 ⟨rfl,rfl⟩)
      | (go_at_call 255; (with_reducible refine (HNS.out _ HJW.out).mono ?_); rintro e w2 ⟨rfl,rfl⟩)
      | (go_at_call 256; (with_reducible refine (HNT.out _ HJW.out).mono ?_); rintro e w2 ⟨⟨s,rfl,hs,hsz⟩,hJ2⟩; have HTS := Lib.hid (HTL.out _ s hJ2 hs hsz); clear hs hsz hJ2)
      | (go_at_call 257; (with_reducible refine (HBA.out _ HJ3.out).mono ?_); rintro e w4 ⟨rfl,hJ4⟩; have HJ4 := Lib.hid hJ4; clear hJ4)
      | (go_at_call 258; (with_reducible refine (HIS.out _ HJ4.out).mono ?_); rintro e w5 ⟨rfl,rfl⟩)
      | ((with_reducible refine HTS.out.mono ?_); rintro e w3 ⟨rfl,hJ3⟩; have HJ3 := Lib.hid hJ3; clear hJ3 HTS))
     refine bodyPost_ret (v := .tuple #[]) (by simp [results,Tryz.results230,go_sem]) rfl ?_
     exact ⟨rfl,by rw [HR1.out]; exact HJ3.out⟩
    ·cases c
     ·have HR1 := Lib.hid (HV2.out rfl rfl)
      clear HV1 HV2 HV3
      go_wp2_with (first
       | (go_at_call 254; (with_reducible refine HW.out.mono ?_); rintro e w2 ⟨rfl,rfl⟩)
       | (go_at_call 255; (with_reducible refine (HNS.out _ HJW.out).mono ?_); rintro e w2 ⟨rfl,rfl⟩)
       | (go_at_call 256; (with_reducible refine (HNT.out _ HJW.out).mono ?_); rintro e w2 ⟨⟨s,rfl,hs,hsz⟩,hJ2⟩; have HTS := Lib.hid (HTL.out _ s hJ2 hs hsz); clear hs hsz hJ2)
       | (go_at_call 257; (with_reducible refine (HBA.out _ HJ3.out).mono ?_); rintro e w4 ⟨rfl,hJ4⟩; have HJ4 := Lib.hid hJ4; clear hJ4)
       | (go_at_call 258; (with_reducible refine (HIS.out _ HJ4.out).mono ?_); rintro e w5 ⟨rfl,rfl⟩)
       | ((with_reducible refine HTS.out.mono ?_); rintro e w3 ⟨rfl,hJ3⟩; have HJ3 := Lib.hid hJ3; clear hJ3 HTS))
      refine bodyPost_ret (v := .tuple #[]) (by simp [results,Tryz.results230,go_sem]) rfl ?_
      exact ⟨rfl,by rw [HR1.out]; exact HJ4.out⟩
     ·have HR1 := Lib.hid (HV3.out rfl rfl)
      clear HV1 HV2 HV3
      obtain ⟨g2,rfl⟩ : ∃ g2,gk = g2 + 1 := ⟨gk - 1,by omega⟩
      go_wp2_with (first
       | (go_at_call 254; (with_reducible refine HW.out.mono ?_); rintro e w2 ⟨rfl,rfl⟩)
       | (go_at_call 255; (with_reducible refine (HNS.out _ HJW.out).mono ?_); rintro e w2 ⟨rfl,rfl⟩)
       | (go_at_call 256; (with_reducible refine (HNT.out _ HJW.out).mono ?_); rintro e w2 ⟨⟨s,rfl,hs,hsz⟩,hJ2⟩; have HTS := Lib.hid (HTL.out _ s hJ2 hs hsz); clear hs hsz hJ2)
       | (go_at_call 257; (with_reducible refine (HBA.out _ HJ3.out).mono ?_); rintro e w4 ⟨rfl,hJ4⟩; have HJ4 := Lib.hid hJ4; clear hJ4)
       | (go_at_call 258; (with_reducible refine (HIS.out _ HJ4.out).mono ?_); rintro e w5 ⟨rfl,rfl⟩)
       | ((with_reducible refine HTS.out.mono ?_); rintro e w3 ⟨rfl,hJ3⟩; have HJ3 := Lib.hid hJ3; clear hJ3 HTS))
      go_roundg g2
      case measure => exact Nat.lt_succ_self _
      case rel =>
       have r1 := HR1.out
       have r2 := HQK.out
       have r3 := HJN.out
       have r4 := HQ1.out
       have r5 := HJK.out
       have r6 := HDK.out
       have r7 := HJL.out
       clear HW HNS HNT HTL HBA HIS
       exact ⟨q1,d ++ [x],rfl,by omega,by omega,HJ4.out,by rw [List.length_append,List.length_singleton]; omega,r1.1⟩
   ·have hw1 := hwj rfl
    clear hwj hwk
    cases m
    ·have HR1 := Lib.hid (HV1.out rfl)
     clear HV1 HV2 HV3
     go_wp2_with (first
      | (go_at_call 254; (with_reducible refine HW.out.mono ?_); rintro e w2 ⟨rfl,rfl⟩)
      | (go_at_call 255; (with_reducible refine (HNS.out _ HJW.out).mono ?_); rintro e w2 ⟨rfl,rfl⟩)
      | (go_at_call 256; (with_reducible refine (HNT.out _ HJW.out).mono ?_); rintro e w2 ⟨⟨s,rfl,hs,hsz⟩,hJ2⟩; have HTS := Lib.hid (HTL.out _ s hJ2 hs hsz); clear hs hsz hJ2)
      | (go_at_call 257; (with_reducible refine (HBA.out _ HJ3.out).mono ?_); rintro e w4 ⟨rfl,hJ4⟩; have HJ4 := Lib.hid hJ4; clear hJ4)
      | (go_at_call 258; (with_reducible refine (HIS.out _ HJ4.out).mono ?_); rintro e w5 ⟨rfl,rfl⟩)
      | ((with_reducible refine HTS.out.mono ?_); rintro e w3 ⟨rfl,hJ3⟩; have HJ3 := Lib.hid hJ3; clear hJ3 HTS))
     refine bodyPost_ret (v := .tuple #[]) (by simp [results,Tryz.results230,go_sem]) rfl ?_
     exact ⟨rfl,by rw [HR1.out]; exact HJ3.out⟩
    ·cases c
     ·have HR1 := Lib.hid (HV2.out rfl rfl)
      clear HV1 HV2 HV3
      go_wp2_with (first
       | (go_at_call 254; (with_reducible refine HW.out.mono ?_); rintro e w2 ⟨rfl,rfl⟩)
       | (go_at_call 255; (with_reducible refine (HNS.out _ HJW.out).mono ?_); rintro e w2 ⟨rfl,rfl⟩)
       | (go_at_call 256; (with_reducible refine (HNT.out _ HJW.out).mono ?_); rintro e w2 ⟨⟨s,rfl,hs,hsz⟩,hJ2⟩; have HTS := Lib.hid (HTL.out _ s hJ2 hs hsz); clear hs hsz hJ2)
       | (go_at_call 257; (with_reducible refine (HBA.out _ HJ3.out).mono ?_); rintro e w4 ⟨rfl,hJ4⟩; have HJ4 := Lib.hid hJ4; clear hJ4)
       | (go_at_call 258; (with_reducible refine (HIS.out _ HJ4.out).mono ?_); rintro e w5 ⟨rfl,rfl⟩)
       | ((with_reducible refine HTS.out.mono ?_); rintro e w3 ⟨rfl,hJ3⟩; have HJ3 := Lib.hid hJ3; clear hJ3 HTS))
      refine bodyPost_ret (v := .tuple #[]) (by simp [results,Tryz.results230,go_sem]) rfl ?_
      exact ⟨rfl,by rw [HR1.out]; exact HJ4.out⟩
     ·have HR1 := Lib.hid (HV3.out rfl rfl)
      clear HV1 HV2 HV3
      obtain ⟨g2,rfl⟩ : ∃ g2,gk = g2 + 1 := ⟨gk - 1,by omega⟩
      go_wp2_with (first
       | (go_at_call 254; (with_reducible refine HW.out.mono ?_); rintro e w2 ⟨rfl,rfl⟩)
       | (go_at_call 255; (with_reducible refine (HNS.out _ HJW.out).mono ?_); rintro e w2 ⟨rfl,rfl⟩)
       | (go_at_call 256; (with_reducible refine (HNT.out _ HJW.out).mono ?_); rintro e w2 ⟨⟨s,rfl,hs,hsz⟩,hJ2⟩; have HTS := Lib.hid (HTL.out _ s hJ2 hs hsz); clear hs hsz hJ2)
       | (go_at_call 257; (with_reducible refine (HBA.out _ HJ3.out).mono ?_); rintro e w4 ⟨rfl,hJ4⟩; have HJ4 := Lib.hid hJ4; clear hJ4)
       | (go_at_call 258; (with_reducible refine (HIS.out _ HJ4.out).mono ?_); rintro e w5 ⟨rfl,rfl⟩)
       | ((with_reducible refine HTS.out.mono ?_); rintro e w3 ⟨rfl,hJ3⟩; have HJ3 := Lib.hid hJ3; clear hJ3 HTS))
      go_roundg g2
      case measure => exact Nat.lt_succ_self _
      case rel =>
       have r1 := HR1.out
       have r2 := HQK.out
       have r3 := HJN.out
       have r4 := HQ1.out
       have r5 := HJK.out
       have r6 := HDK.out
       have r7 := HJL.out
       clear HW HNS HNT HTL HBA HIS
       exact ⟨q1,d ++ [x],rfl,by omega,by omega,HJ4.out,by rw [List.length_append,List.length_singleton]; omega,r1.1⟩

abbrev sV (x : Tx) : Value := .string ⟨x.toArray⟩
structure NmJ (w0 : World) (B : Nat) (d : List Tx) (W : World) : Prop where
 bel : Below w0.heap.size w0 W
 hB : w0.heap.size ≤ B
 var : ∃ vs,W.heap[B]? = some (.cells #[vs] 60 (0,0)) ∧ W.ownsRow w0.heap.size 9 1 vs d.length (d.map sV)
theorem NmJ.step {w0 W W2 : World} {B : Nat} {d : List Tx} (h : NmJ w0 B d W) (b : Below W.heap.size W W2) : NmJ w0 B d W2 := by
 obtain ⟨vs,h1,h2⟩ := h.var
 exact ⟨h.bel.trans (b.mono h.bel.size),h.hB,vs,by rw [b.block _ (lt_of_block h1)]; exact h1,ownsRow_below h2 b⟩
theorem own_not {W : World} {B b n : Nat} {vs : Value} {xs : List Value} {v : Value} (h : W.ownsRow b 9 1 vs n xs) (h1 : W.heap[B]? = some (.cells #[v] 60 (0,0))) : vs.ownBlock ≠ some B := by
 intro e
 obtain ⟨_,c,fz,h2⟩ := own_kind h B e
 rw [h1] at h2
 injection h2 with h2
 injection h2 with _ h3 _
 exact absurd h3 (by decide)
theorem grown_heap {w w' : World} {row : Option Nat} {B : Nat} (hg : w.grownBy w' row) (hB : B < w.heap.size) (hne : row ≠ some B) : w'.heap[B]? = w.heap[B]? := hg.block B hB (fun e => hne e.symm)
theorem NmJ.push {w0 W W1 : World} {B g cap : Nat} {d : List Tx} {s : ByteArray} {vs : Value} {x : Tx} (h : NmJ w0 B d W) (hv : W.heap[B]? = some (.cells #[vs] 60 (0,0))) (ho : W.ownsRow w0.heap.size 9 1 vs d.length (d.map sV)) (hs : s.toList = x)
  (hown : W1.ownsRow w0.heap.size 9 1 (.slice (some ⟨g,0,none⟩) (d.length + 1) cap) (d.length + 1) (d.map sV ++ [.string s])) (hg : W.grownBy W1 vs.ownBlock) :
  NmJ w0 B (d ++ [x]) (W1.setCell ⟨B,0,none⟩ (.slice (some ⟨g,0,none⟩) (d.length + 1) cap)) := by
 have hlt := lt_of_block hv
 have hne := own_not ho hv
 have h1 : W1.heap[B]? = some (.cells #[vs] 60 (0,0)) := by rw [grown_heap hg hlt hne]; exact hv
 refine ⟨(h.bel.grown hg h.bel.size fun k hk => (World.ownsRow.lt ho k hk).1).setCell h.hB _,h.hB,_,one_setCell h1,?_⟩
 have e1 : (d ++ [x]).map sV = d.map sV ++ [.string s] := by
  rw [List.map_append,List.map_cons,List.map_nil]
  have : (⟨x.toArray⟩ : ByteArray) = s := bytes_inj (by rw [bytes_of,hs])
  rw [← this]
 rw [List.length_append,List.length_singleton,e1]
 exact ownsRow_setCell_other hown (own_not hown h1) _
theorem info9 : (Tryz.prog.info? 9).map (fun i => (i.zero,i.size,i.bytes)) = some (some (.string ByteArray.empty),1,16) := by kernel_rfl
theorem und26 : Tryz.prog.underlying 60 = some (.slice 9) := by kernel_rfl
theorem NmJ.form {w0 W : World} {B : Nat} {d : List Tx} (h : NmJ w0 B d W) : ∃ a cap,W.heap[B]? = some (.cells #[.slice a d.length cap] 60 (0,0)) ∧ W.ownsRow w0.heap.size 9 1 (.slice a d.length cap) d.length (d.map sV) := by
 obtain ⟨vs,h1,h2⟩ := h.var
 rcases h2.2 with ⟨rfl,hz⟩ | ⟨g,cap,cur,rfl,_⟩
 ·exact ⟨none,0,by rw [hz]; exact h1,by rw [hz] at h2 ⊢; exact h2⟩
 ·exact ⟨_,_,h1,h2⟩
set_option maxHeartbeats 1000000 in
theorem readsTell (w0 : World) (B : Nat) (d : List Tx) (s : ByteArray) (x : Tx) (p : Int) (W : World) (h : NmJ w0 B d W) (hd : d.length ≤ 2000000000) (hs : s.toList = x) :
  Calls Tryz.prog 228 #[.string s,.int .i64 p,.pointer (some ⟨B,0,none⟩)] W fun e W' => e = .returned (.bool true) ∧ NmJ w0 B (d ++ [x]) W' := by
 obtain ⟨a,cap,hv,ho⟩ := h.form
 obtain ⟨i0,hi,hz0,hz1,hz2⟩ := info_parts info9
 have hb := below_new W (.cells #[.string s] 9)
 have h2 := h.step hb
 have hv2 : (W.alloc (.cells #[.string s] 9)).heap[B]? = some (.cells #[.slice a d.length cap] 60 (0,0)) := by rw [hb.block _ (lt_of_block hv)]; exact hv
 have ho2 := ownsRow_below ho hb
 have hBW : B < W.heap.size := lt_of_block hv
 have c0 := cell_of_one hv
 have f0 : ∀ W1 : World,(W.alloc (.cells #[.string s] 9)).grownBy W1 (Value.slice a d.length cap).ownBlock → W1.frozen? ⟨B,0,none⟩ = false ∧ W1.cell? ⟨B,0,none⟩ = some (.slice a d.length cap) := fun W1 hg => by
  have h1 : W1.heap[B]? = some (.cells #[.slice a d.length cap] 60 (0,0)) := by rw [grown_heap hg (lt_of_block hv2) (own_not ho2 hv2)]; exact hv2
  exact ⟨free_of_one h1,cell_of_one h1⟩
 have hbase := h2.bel.size
 have HH := Lib.hid h2
 have HV := Lib.hid hv2
 have HO := Lib.hid ho2
 have HF := Lib.hid f0
 clear h h2 hv hv2 ho ho2 hb f0
 go_enter Tryz.func228,Tryz.ntmps228
 go_wp2_with (at_builtin; refine wpList_append_lies _ rfl _ _ 60 rfl w0.heap.size 9 i0 (.string ByteArray.empty) 1 16 und26 hi hz0 hz1 hz2 rfl (by decide) _ d.length (d.map sV) rfl HO.out ⟨W.heap.size,0,none⟩ 1 1 [.string s] rfl rfl ?c1 ?c2 (by decide) ?c3 ?c4 ?c5 _ rfl ?_)
 case c1 =>
  intro j u hj
  match j,hj with
  | 0,hj => simp at hj; subst hj; simp [Addr.add]
 case c2 => intro u hu; simp at hu; subst hu; rfl
 case c3 => unfold maxLen; omega
 case c4 => omega
 case c5 => exact hbase
 intro g cap2 W1 hown hgrow hat hlt
 obtain ⟨f1,c1⟩ := HF.out W1 hgrow
 go_wp2
 go_ret
 exact ⟨rfl,NmJ.push HH.out HV.out HO.out hs hown hgrow⟩
end Go.Proofs.YtgdabkpahmlkpaaGreatDoor
