/- Sec Sed See -/
import Derived.Test.YtjmmninopagpjaaGreatDoorG18
import Derived.Test.YtjmmninopagpjaaGreatDoorShelf
import Derived.WalkMore
import Derived.BigQuiet
import Derived.OwnWalk
import Derived.Deep.QuietTactic
import Derived.Deep.RegionWith
import Derived.Deep.RegionHeld3
import Derived.Test.YtjmmninopagpjaaGreatDoorG1
set_option linter.unusedSimpArgs false
set_option linter.unusedVariables false
namespace Go.Proofs.YtjmmninopagpjaaGreatDoor
open Go.ChangeShapes Go.WideShapes Go.ChangeAt Go.RowKit
set_option maxRecDepth 100000
set_option linter.unusedVariables false
set_option linter.unusedSimpArgs false

theorem tr_at {w : World} {v : Value} {l : List Tok} (h : TR w v l) : ∃ a cap,v = .slice a l.length cap ∧ (l.length = 0 ∨ ∃ g off,a = some ⟨g,off,none⟩ ∧ l.length ≤ cap ∧ ∀ k (hk : k < l.length),w.cell? ⟨g,off + k * 3,none⟩ = some (.int .i64 l[k].1) ∧ w.cell? ⟨g,off + k * 3 + 1,none⟩ = some (.string l[k].2.1)) := by
 rcases h with ⟨A,cap,rfl,rfl⟩ | ⟨g,off,cap,rfl,hc,hx⟩
 ·exact ⟨_,_,rfl,.inl rfl⟩
 ·refine ⟨_,_,rfl,.inr ⟨g,off,rfl,hc,fun k hk => ?_⟩⟩
  obtain ⟨a,b,c⟩ := hx k l[k] (List.getElem?_eq_getElem hk)
  exact ⟨a,b⟩
theorem isTok_in (k : Int) (ss : List Tx) {l : List Tok} {i : Nat} (hi : i < l.length) : isTok k ss l i = (l[i].1 == k && ss.contains l[i].2.1.toList) := by
 unfold isTok; rw [List.getElem?_eq_getElem hi]
theorem isTok_out (k : Int) (ss : List Tx) {l : List Tok} {i : Nat} (hi : ¬ i < l.length) : isTok k ss l i = false := by
 unfold isTok; rw [List.getElem?_eq_none (by omega)]
theorem partB_in {l : List Tok} {i : Nat} (hi : i < l.length) : partB l i = (l[i].1 == 2 || l[i].1 == 1 && !keysL.contains l[i].2.1.toList) := by
 unfold partB; rw [List.getElem?_eq_getElem hi]
theorem partB_out {l : List Tok} {i : Nat} (hi : ¬ i < l.length) : partB l i = false := by
 unfold partB; rw [List.getElem?_eq_none (by omega)]
theorem one_text (s t : Tx) : [s].contains t = (t == s) := by
 rw [Bool.eq_iff_iff]; simp
theorem bytes_inj {s t : ByteArray} (h : s.toList = t.toList) : s = t := by
 rw [Lib.toList_data,Lib.toList_data] at h
 cases s; cases t; simp only [ByteArray.mk.injEq]; exact Array.toList_inj.1 h
theorem conS (zs : List ByteArray) (x : ByteArray) : Lib.containsS (zs.take zs.length) x = (zs.map (·.toList)).contains x.toList := by
 rw [List.take_length,Bool.eq_iff_iff,Lib.containsS_iff,List.contains_iff_mem,List.mem_map]
 constructor
 ·exact fun h => ⟨x,h,rfl⟩
 ·rintro ⟨y,h,e⟩; rw [← bytes_inj e]; exact h
set_option maxHeartbeats 1000000 in
theorem isSign_any (v : Value) (l : List Tok) (i : Nat) (s : ByteArray) (w : World) (h : TR w v l) (hl : l.length ≤ 1099511627776) :
  Calls Tryz.prog 266 #[v,.int .i64 (i : Int),.string s] w fun e w' => e = .returned (.bool (isTok 5 [s.toList] l i)) ∧ w' = w := by
 obtain ⟨a,cap,rfl,hx⟩ := tr_at h
 clear h
 by_cases hi : i < l.length
 ·rcases hx with h0 | ⟨g,off,rfl,hcap,hx⟩
  ·omega
  ·obtain ⟨x1,x2⟩ := hx i hi
   have l0 : (0 : Int) ≤ (i : Int) := by omega
   have l1 : (i : Int) < (l.length : Int) := by omega
   rw [isTok_in 5 [s.toList] hi,one_text]
   generalize l[i] = t at *
   obtain ⟨kd,tx,ta⟩ := t
   simp only at x1 x2 ⊢
   clear hx hi
   by_cases hk : kd = 5
   ·subst hk
    obtain ⟨c,hc⟩ : ∃ c,(tx.toList == s.toList) = c := ⟨_,rfl⟩
    rw [hc]
    go_enter Tryz.func266,Tryz.ntmps266
    go_wp2
    go_ret
    exact ⟨rfl,rfl⟩
   ·have hk2 : (kd == (5 : Int)) = false := by rw [beq_eq_false_iff_ne]; exact hk
    rw [hk2]
    clear hk
    go_enter Tryz.func266,Tryz.ntmps266
    go_wp2
    go_ret
    exact ⟨rfl,rfl⟩
 ·have l1 : ¬ ((i : Int) < (l.length : Int)) := by omega
  rw [isTok_out 5 _ hi]
  clear hx hi
  go_enter Tryz.func266,Tryz.ntmps266
  go_wp2
  go_ret
  exact ⟨rfl,rfl⟩
set_option maxHeartbeats 1000000 in
theorem isWord_any (v : Value) (l : List Tok) (i b off cap : Nat) (zs : List ByteArray) (w : World) (h : TR w v l) (hl : l.length ≤ 1099511627776) (hzl : zs.length ≤ 100)
  (hc : ∀ j,j < zs.length → w.cell? ⟨b,off + j,none⟩ = some (.string (zs.getD j ByteArray.empty))) :
  Calls Tryz.prog 262 #[v,.int .i64 (i : Int),.slice (some ⟨b,off,none⟩) zs.length cap] w fun e w' => e = .returned (.bool (isTok 1 (zs.map (·.toList)) l i)) ∧ w' = w := by
 obtain ⟨a,ca,rfl,hx⟩ := tr_at h
 have hk := fun x => Tryz.slices_Contains_string b off zs.length cap zs x w (Nat.le_refl _) (by omega) hc
 simp only [conS] at hk
 have HK := Lib.hid hk
 clear h hc hk
 have l0 : (0 : Int) ≤ (i : Int) := by omega
 by_cases hi : i < l.length
 ·rcases hx with h0 | ⟨g,off2,rfl,hcap,hx⟩
  ·omega
  ·obtain ⟨x1,x2⟩ := hx i hi
   have l1 : (i : Int) < (l.length : Int) := by omega
   rw [isTok_in 1 _ hi]
   generalize l[i] = t at *
   obtain ⟨kd,tx,ta⟩ := t
   simp only at x1 x2 ⊢
   clear hx hi
   by_cases hk : kd = 1
   ·subst hk
    obtain ⟨c,hc⟩ : ∃ c,(zs.map (·.toList)).contains tx.toList = c := ⟨_,rfl⟩
    have hk2 := HK.out tx
    rw [hc] at hk2 ⊢
    have HK2 := Lib.hid hk2
    clear HK hk2 hc
    go_enter Tryz.func262,Tryz.ntmps262
    go_wp2_with (go_at_call 186; (with_reducible refine HK2.out.mono ?_); rintro e w2 ⟨rfl,rfl⟩)
    go_ret
    exact ⟨rfl,rfl⟩
   ·have hk2 : (kd == (1 : Int)) = false := by rw [beq_eq_false_iff_ne]; exact hk
    rw [hk2]
    clear hk HK
    go_enter Tryz.func262,Tryz.ntmps262
    go_wp2
    go_ret
    exact ⟨rfl,rfl⟩
 ·have l1 : ¬ ((i : Int) < (l.length : Int)) := by omega
  rw [isTok_out 1 _ hi]
  clear hx hi HK
  go_enter Tryz.func262,Tryz.ntmps262
  go_wp2
  go_ret
  exact ⟨rfl,rfl⟩
theorem isWord_neg (v ws : Value) (w : World) :
  Calls Tryz.prog 262 #[v,.int .i64 (-1),ws] w fun e w' => e = .returned (.bool false) ∧ w' = w := by
 go_enter Tryz.func262,Tryz.ntmps262
 go_wp2
 go_ret
 exact ⟨rfl,rfl⟩

def KeyP (s : ByteArray) (w : World) (e : Ending) (w' : World) : Prop := e = .returned (.bool (keysL.contains s.toList)) ∧ w' = w
theorem key_yes {s k : Tx} (h : (s == k) = true) (hk : keysL.contains k = true) : keysL.contains s = true := by rw [beq_iff_eq.1 h]; exact hk
set_option maxHeartbeats 4000000 in
theorem isKeyWord_any (s : ByteArray) (w : World) :
  Calls Tryz.prog 282 #[.string s] w (KeyP s w) := by
 go_enter Tryz.func282,Tryz.ntmps282
 go_wp2
 all_goals (go_ret; refine ⟨?_,rfl⟩)
 all_goals first
  | (exfalso; simp_all only [Bool.true_eq_false,Bool.false_eq_true]; done)
  | (rw [show keysL.contains s.toList = true from key_yes (by assumption) (by decide)]; rfl)
  | (have h : keysL.contains s.toList = false := by
       simp only [keysL,List.contains_cons,List.contains_nil,Bool.or_false,Bool.or_eq_false_iff]
       repeat' apply And.intro
       all_goals assumption
     rw [h]; rfl)

set_option maxHeartbeats 1000000 in
theorem isName_any (v : Value) (l : List Tok) (i : Nat) (w : World) (h : TR w v l) (hl : l.length ≤ 1099511627776) :
  Calls Tryz.prog 279 #[v,.int .i64 (i : Int)] w fun e w' => e = .returned (.bool (partB l i)) ∧ w' = w := by
 obtain ⟨a,cap,rfl,hx⟩ := tr_at h
 clear h
 by_cases hi : i < l.length
 ·rcases hx with h0 | ⟨g,off,rfl,hcap,hx⟩
  ·omega
  ·obtain ⟨x1,x2⟩ := hx i hi
   have l0 : (0 : Int) ≤ (i : Int) := by omega
   have l1 : (i : Int) < (l.length : Int) := by omega
   rw [partB_in hi]
   generalize l[i] = t at *
   obtain ⟨kd,tx,ta⟩ := t
   simp only at x1 x2 ⊢
   clear hx hi
   have hk := isKeyWord_any tx w
   obtain ⟨c,hc⟩ : ∃ c,keysL.contains tx.toList = c := ⟨_,rfl⟩
   unfold KeyP at hk
   rw [hc] at hk ⊢
   have HK := Lib.hid hk
   clear hk hc
   by_cases h2 : kd = 2
   ·subst h2
    go_enter Tryz.func279,Tryz.ntmps279
    go_wp2
    go_ret
    exact ⟨rfl,rfl⟩
   ·have k2 : (kd == (2 : Int)) = false := by rw [beq_eq_false_iff_ne]; exact h2
    rw [k2]
    clear h2
    by_cases h1 : kd = 1
    ·subst h1
     cases c <;>
     ·go_enter Tryz.func279,Tryz.ntmps279
      go_wp2_with (go_at_call 282; (with_reducible refine HK.out.mono ?_); rintro e w2 ⟨rfl,rfl⟩)
      go_ret
      exact ⟨rfl,rfl⟩
    ·have k1 : (kd == (1 : Int)) = false := by rw [beq_eq_false_iff_ne]; exact h1
     rw [k1]
     clear h1
     go_enter Tryz.func279,Tryz.ntmps279
     go_wp2
     go_ret
     exact ⟨rfl,rfl⟩
 ·have l1 : ((l.length : Int) ≤ (i : Int)) := by omega
  rw [partB_out hi]
  clear hx hi
  go_enter Tryz.func279,Tryz.ntmps279
  go_wp2
  go_ret
  exact ⟨rfl,rfl⟩
theorem wrap_nat {n : Nat} (h : n < 9223372036854775808) : IntKind.i64.wrap (n : Int) = (n : Int) := IntWalk.i64_in _ (by omega)
set_option maxHeartbeats 1000000 in
theorem nameSize_any (v : Value) (l : List Tok) (i : Nat) (w : World) (h : TR w v l) (hl : l.length ≤ 1099511627776) (hi : i ≤ 1099511627776) :
  Calls Tryz.prog 263 #[v,.int .i64 (i : Int)] w fun e w' => e = .returned (.int .i64 (nameW l i : Nat)) ∧ w' = w := by
 have h1 := fun n => isName_any v l n w h hl
 have h2 := fun n => isSign_any v l n ⟨#[46]⟩ w h hl
 have hn : nameW l i = if partB l i = false then 0 else if (isTok 5 [[46]] l (i + 1) && partB l (i + 2)) = true then 3 else 1 := rfl
 obtain ⟨i1,hi1⟩ : ∃ i1,i + 1 = i1 := ⟨_,rfl⟩
 obtain ⟨i2,hi2⟩ : ∃ i2,i + 2 = i2 := ⟨_,rfl⟩
 have wa : IntKind.i64.wrap ((i : Int) + 1) = (i1 : Int) := by rw [show (i : Int) + 1 = (i1 : Int) by omega]; exact wrap_nat (by omega)
 have wb : IntKind.i64.wrap ((i : Int) + 2) = (i2 : Int) := by rw [show (i : Int) + 2 = (i2 : Int) by omega]; exact wrap_nat (by omega)
 rw [hi1,hi2] at hn
 clear hi1 hi2 hi
 have h1a := h1 i
 have h1b := h1 i2
 have h2a := h2 i1
 have e0 : [(⟨#[46]⟩ : ByteArray).toList] = [[46]] := by rw [Lib.toList_data]
 rw [e0] at h2a
 generalize partB l i = p at *
 generalize isTok 5 [[46]] l i1 = q at *
 generalize partB l i2 = r at *
 generalize nameW l i = n at *
 subst hn
 have HA := Lib.hid h1a
 have HB := Lib.hid h1b
 have HC := Lib.hid h2a
 clear h1a h1b h2a h1 h2 h e0
 have step : ∀ x y : Bool,(if (x && y) = true then 3 else 1) = (if x = true then (if y = true then 3 else 1) else 1 : Nat) := by decide
 cases p
 ·go_enter Tryz.func263,Tryz.ntmps263
  go_wp2_with (go_at_call 279; (with_reducible refine HA.out.mono ?_); rintro e w2 ⟨rfl,rfl⟩)
  go_ret
  exact ⟨rfl,rfl⟩
 ·cases q
  ·go_enter Tryz.func263,Tryz.ntmps263
   go_wp2_with (first
    | (go_at_call 279; (with_reducible refine HA.out.mono ?_); rintro e w2 ⟨rfl,rfl⟩)
    | (go_at_call 266; (with_reducible refine HC.out.mono ?_); rintro e w2 ⟨rfl,rfl⟩))
   go_ret
   exact ⟨rfl,rfl⟩
  ·cases r <;>
   ·go_enter Tryz.func263,Tryz.ntmps263
    go_wp2_with (first
     | (go_at_call 279; (with_reducible refine HA.out.mono ?_); rintro e w2 ⟨rfl,rfl⟩)
     | (go_at_call 279; (with_reducible refine HB.out.mono ?_); rintro e w2 ⟨rfl,rfl⟩)
     | (go_at_call 266; (with_reducible refine HC.out.mono ?_); rintro e w2 ⟨rfl,rfl⟩))
    go_ret
    exact ⟨rfl,rfl⟩
end Go.Proofs.YtjmmninopagpjaaGreatDoor
