/- Tea Teb Trj Trk Trl Trm Trn Nmj Nmk Nml Nmn Nmo Sec Sed -/
import Derived.Test.YtgdabkpahmlkpaaGreatDoorG9
import Derived.Lib.ItoaMem
import Derived.KernelRfl
import Derived.Test.YtgdabkpahmlkpaaGreatDoorG4
import Derived.Test.YtgdabkpahmlkpaaGreatDoorG6
import Derived.Laws.MakeOwn
import Derived.Laws.IdiomStrings
import Derived.Lib.BufferRead
import Derived.Defers
import Derived.Laws.Pointers
import Derived.Laws.LoneSync
import Derived.RegionTactic
import Derived.RegionCalls
import Derived.ChangeAlike
import Derived.Test.YtgdabkpahmlkpaaGreatDoorG5
import Derived.Deep.WholeRow
import Derived.Lib.UnsafeStr
import Derived.Test.YtgdabkpahmlkpaaGreatDoorShelf
import Derived.WalkMore
import Derived.BigQuiet
import Derived.OwnWalk
import Derived.Deep.QuietTactic
set_option linter.unusedSimpArgs false
set_option linter.unusedVariables false
namespace Go.Proofs.YtgdabkpahmlkpaaGreatDoor
open Go.ChangeShapes Go.WideShapes Go.ChangeAt Go.RowKit
set_option maxRecDepth 100000
set_option linter.unusedVariables false
set_option linter.unusedSimpArgs false

abbrev Cm : Type := Int × ByteArray × Int × Int × Bool
def cmdZ : Cm := (0,⟨#[]⟩,0,0,false)
def kwB (s : ByteArray) : Bool := keysL.contains s.data.toList
def fourL : List Tx := [[105,110,115,101,114,116],[117,112,100,97,116,101],[100,101,108,101,116,101],[109,101,114,103,101]]
def selfB (s : ByteArray) : Bool := match (scanA s).1 with | [t] => t.1 == 1 && t.2.1.data.toList == s.data.toList | _ => false
def nameB (s : ByteArray) : Bool := decide (s.size ≤ 30) && selfB s && !kwB s && !fourL.contains s.data.toList
def tabB (t : Tok) : Bool := t.1 == 1 && nameB t.2.1
def numO (t : Tok) : Option Nat := if t.1 = 4 ∧ t.2.1.size ≤ 6 ∧ t.2.1.size ≠ 0 ∧ t.2.1.data.toList.all digB = true then some (valL t.2.1.data.toList) else none
def inN (n : Int) : Bool := decide (0 ≤ n ∧ n ≤ 999999)
def takeC (c : Cm) (p t : Tok) : Cm × Bool :=
 if p.2.1.data.toList = [36,49] then ((c.1,t.2.1,c.2.2.1,c.2.2.2.1,c.2.2.2.2),tabB t)
 else if p.2.1.data.toList = [36,50] then ((c.1,c.2.1,((numO t).getD 0 : Nat),c.2.2.2.1,c.2.2.2.2),(numO t).isSome)
 else if p.2.1.data.toList = [36,51] then ((c.1,c.2.1,c.2.2.1,((numO t).getD 0 : Nat),c.2.2.2.2),(numO t).isSome)
 else (c,t.1 == p.1 && t.2.1.data.toList == p.2.1.data.toList)
def readFrom : Cm → List Tok → List Tok → Cm × Bool
 | c,p :: ps,t :: ts => if (takeC c p t).2 = true then readFrom (takeC c p t).1 ps ts else (cmdZ,false)
 | c,_,_ => (c,true)
abbrev Fm : Type := Int × Bool × ByteArray
def formsC : List Fm := [(1,false,⟨#[115,101,108,101,99,116,32,42,32,102,114,111,109,32,36,49]⟩),(1,true,⟨#[115,101,108,101,99,116,32,42,32,102,114,111,109,32,36,49,32,119,104,101,114,101,32,107,32,61,32,36,50]⟩),(2,true,⟨#[105,110,115,101,114,116,32,105,110,116,111,32,36,49,32,118,97,108,117,101,115,32,40,32,36,50,32,44,32,36,51,32,41]⟩),(3,true,⟨#[117,112,100,97,116,101,32,36,49,32,115,101,116,32,118,32,61,32,118,32,43,32,49,32,119,104,101,114,101,32,107,32,61,32,36,50]⟩),(4,false,⟨#[100,101,108,101,116,101,32,102,114,111,109,32,36,49]⟩),(4,true,⟨#[100,101,108,101,116,101,32,102,114,111,109,32,36,49,32,119,104,101,114,101,32,107,32,61,32,36,50]⟩),(5,false,⟨#[99,114,101,97,116,101,32,116,97,98,108,101,32,36,49]⟩)]
def partsC (f : Fm) : List Tok := (scanA f.2.2).1
def readC (f : Fm) (l : List Tok) : Cm × Bool := if l.length = (partsC f).length then readFrom (f.1,⟨#[]⟩,0,0,f.2.1) (partsC f) l else (cmdZ,false)
def cmdF : List Fm → List Tok → Cm × Bool
 | [],_ => (cmdZ,false)
 | f :: r,l => if (readC f l).2 = true then ((readC f l).1,true) else cmdF r l
def cmdA (l : List Tok) : Cm × Bool := cmdF formsC l
def fillC (f : Fm) (c : Cm) : Tx := replC c.2.1.data.toList (Lib.itoa c.2.2.1) (Lib.itoa c.2.2.2.1) f.2.2.data.toList
def textF : List Fm → Cm → Tx
 | [],_ => []
 | f :: r,c => if f.1 = c.1 ∧ f.2.1 = c.2.2.2.2 ∧ readC f (scanA (bb (fillC f c))).1 = (c,true) then fillC f c else textF r c
def textC (c : Cm) : Tx := textF formsC c
def okC (c : Cm) : Bool := nameB c.2.1 && inN c.2.2.1 && inN c.2.2.2.1 && (c.2.2.2.2 || c.2.2.1 == 0) && (c.1 == 2 || c.2.2.2.1 == 0)
def digT (n : Int) : Tx := Lib.itoa n
def textR (c : Cm) : Tx :=
 if okC c = false then [] else
 if c.1 = 1 then [115,101,108,101,99,116,32,42,32,102,114,111,109,32] ++ c.2.1.data.toList ++ (if c.2.2.2.2 = true then [32,119,104,101,114,101,32,107,32,61,32] ++ digT c.2.2.1 else [])
 else if c.1 = 2 then (if c.2.2.2.2 = true then [105,110,115,101,114,116,32,105,110,116,111,32] ++ c.2.1.data.toList ++ [32,118,97,108,117,101,115,32,40,32] ++ digT c.2.2.1 ++ [32,44,32] ++ digT c.2.2.2.1 ++ [32,41] else [])
 else if c.1 = 3 then (if c.2.2.2.2 = true then [117,112,100,97,116,101,32] ++ c.2.1.data.toList ++ [32,115,101,116,32,118,32,61,32,118,32,43,32,49] ++ [32,119,104,101,114,101,32,107,32,61,32] ++ digT c.2.2.1 else [])
 else if c.1 = 4 then [100,101,108,101,116,101,32,102,114,111,109,32] ++ c.2.1.data.toList ++ (if c.2.2.2.2 = true then [32,119,104,101,114,101,32,107,32,61,32] ++ digT c.2.2.1 else [])
 else if c.1 = 5 then (if c.2.2.2.2 = true then [] else [99,114,101,97,116,101,32,116,97,98,108,101,32] ++ c.2.1.data.toList)
 else []
def part1 : List Tok := [(1,⟨#[115,101,108,101,99,116]⟩,0),(5,⟨#[42]⟩,7),(1,⟨#[102,114,111,109]⟩,9),(5,⟨#[36,49]⟩,14)]
def part2 : List Tok := part1 ++ [(1,⟨#[119,104,101,114,101]⟩,17),(1,⟨#[107]⟩,23),(5,⟨#[61]⟩,25),(5,⟨#[36,50]⟩,27)]
def part3 : List Tok := [(1,⟨#[105,110,115,101,114,116]⟩,0),(1,⟨#[105,110,116,111]⟩,7),(5,⟨#[36,49]⟩,12),(1,⟨#[118,97,108,117,101,115]⟩,15),(5,⟨#[40]⟩,22),(5,⟨#[36,50]⟩,24),(5,⟨#[44]⟩,27),(5,⟨#[36,51]⟩,29),(5,⟨#[41]⟩,32)]
def part4 : List Tok := [(1,⟨#[117,112,100,97,116,101]⟩,0),(5,⟨#[36,49]⟩,7),(1,⟨#[115,101,116]⟩,10),(1,⟨#[118]⟩,14),(5,⟨#[61]⟩,16),(1,⟨#[118]⟩,18),(5,⟨#[43]⟩,20),(4,⟨#[49]⟩,22),(1,⟨#[119,104,101,114,101]⟩,24),(1,⟨#[107]⟩,30),(5,⟨#[61]⟩,32),(5,⟨#[36,50]⟩,34)]
def part5 : List Tok := [(1,⟨#[100,101,108,101,116,101]⟩,0),(1,⟨#[102,114,111,109]⟩,7),(5,⟨#[36,49]⟩,12)]
def part6 : List Tok := part5 ++ [(1,⟨#[119,104,101,114,101]⟩,15),(1,⟨#[107]⟩,21),(5,⟨#[61]⟩,23),(5,⟨#[36,50]⟩,25)]
def part7 : List Tok := [(1,⟨#[99,114,101,97,116,101]⟩,0),(1,⟨#[116,97,98,108,101]⟩,7),(5,⟨#[36,49]⟩,13)]
theorem scan1 : scanA ⟨#[115,101,108,101,99,116,32,42,32,102,114,111,109,32,36,49]⟩ = (part1,0,0) := by kernel_rfl
theorem scan2 : scanA ⟨#[115,101,108,101,99,116,32,42,32,102,114,111,109,32,36,49,32,119,104,101,114,101,32,107,32,61,32,36,50]⟩ = (part2,0,0) := by kernel_rfl
theorem scan3 : scanA ⟨#[105,110,115,101,114,116,32,105,110,116,111,32,36,49,32,118,97,108,117,101,115,32,40,32,36,50,32,44,32,36,51,32,41]⟩ = (part3,0,0) := by kernel_rfl
theorem scan4 : scanA ⟨#[117,112,100,97,116,101,32,36,49,32,115,101,116,32,118,32,61,32,118,32,43,32,49,32,119,104,101,114,101,32,107,32,61,32,36,50]⟩ = (part4,0,0) := by kernel_rfl
theorem scan5 : scanA ⟨#[100,101,108,101,116,101,32,102,114,111,109,32,36,49]⟩ = (part5,0,0) := by kernel_rfl
theorem scan6 : scanA ⟨#[100,101,108,101,116,101,32,102,114,111,109,32,36,49,32,119,104,101,114,101,32,107,32,61,32,36,50]⟩ = (part6,0,0) := by kernel_rfl
theorem scan7 : scanA ⟨#[99,114,101,97,116,101,32,116,97,98,108,101,32,36,49]⟩ = (part7,0,0) := by kernel_rfl
def formsP : List (Int × Bool × ByteArray × List Tok) := [(1,false,⟨#[115,101,108,101,99,116,32,42,32,102,114,111,109,32,36,49]⟩,part1),(1,true,⟨#[115,101,108,101,99,116,32,42,32,102,114,111,109,32,36,49,32,119,104,101,114,101,32,107,32,61,32,36,50]⟩,part2),(2,true,⟨#[105,110,115,101,114,116,32,105,110,116,111,32,36,49,32,118,97,108,117,101,115,32,40,32,36,50,32,44,32,36,51,32,41]⟩,part3),(3,true,⟨#[117,112,100,97,116,101,32,36,49,32,115,101,116,32,118,32,61,32,118,32,43,32,49,32,119,104,101,114,101,32,107,32,61,32,36,50]⟩,part4),(4,false,⟨#[100,101,108,101,116,101,32,102,114,111,109,32,36,49]⟩,part5),(4,true,⟨#[100,101,108,101,116,101,32,102,114,111,109,32,36,49,32,119,104,101,114,101,32,107,32,61,32,36,50]⟩,part6),(5,false,⟨#[99,114,101,97,116,101,32,116,97,98,108,101,32,36,49]⟩,part7)]
theorem forms_parts : ∀ f ∈ formsC,∃ q ∈ formsP,f = (q.1,q.2.1,q.2.2.1) ∧ partsC f = q.2.2.2 := by
 intro f hf
 simp only [formsC,List.mem_cons,List.not_mem_nil,or_false] at hf
 rcases hf with rfl | rfl | rfl | rfl | rfl | rfl | rfl
 ·exact ⟨_,List.mem_cons_self,rfl,by unfold partsC; rw [scan1]⟩
 ·exact ⟨_,List.mem_cons_of_mem _ List.mem_cons_self,rfl,by unfold partsC; rw [scan2]⟩
 ·exact ⟨_,List.mem_cons_of_mem _ (List.mem_cons_of_mem _ List.mem_cons_self),rfl,by unfold partsC; rw [scan3]⟩
 ·exact ⟨_,List.mem_cons_of_mem _ (List.mem_cons_of_mem _ (List.mem_cons_of_mem _ List.mem_cons_self)),rfl,by unfold partsC; rw [scan4]⟩
 ·exact ⟨_,List.mem_cons_of_mem _ (List.mem_cons_of_mem _ (List.mem_cons_of_mem _ (List.mem_cons_of_mem _ List.mem_cons_self))),rfl,by unfold partsC; rw [scan5]⟩
 ·exact ⟨_,List.mem_cons_of_mem _ (List.mem_cons_of_mem _ (List.mem_cons_of_mem _ (List.mem_cons_of_mem _ (List.mem_cons_of_mem _ List.mem_cons_self)))),rfl,by unfold partsC; rw [scan6]⟩
 ·exact ⟨_,List.mem_cons_of_mem _ (List.mem_cons_of_mem _ (List.mem_cons_of_mem _ (List.mem_cons_of_mem _ (List.mem_cons_of_mem _ (List.mem_cons_of_mem _ List.mem_cons_self))))),rfl,by unfold partsC; rw [scan7]⟩
theorem dig_of (i : Nat) (h : i < 10) : digB (UInt8.ofNat (48 + i)) = true ∧ numB (UInt8.ofNat (48 + i)) = true ∧ (UInt8.ofNat (48 + i)).toNat = 48 + i := by
 have : ((List.range 10).all fun i => digB (UInt8.ofNat (48 + i)) && numB (UInt8.ofNat (48 + i)) && decide ((UInt8.ofNat (48 + i)).toNat = 48 + i)) = true := by kernel_rfl
 have := List.all_eq_true.1 this i (List.mem_range.2 h)
 simp only [Bool.and_eq_true,decide_eq_true_eq] at this
 exact ⟨this.1.1,this.1.2,this.2⟩
theorem dec_all (u : Nat) : (Lib.decDigits u).all digB = true ∧ (Lib.decDigits u).all numB = true ∧ valL (Lib.decDigits u) = u ∧ Lib.decDigits u ≠ [] := by
 induction u using Nat.strongRecOn with
 | ind u ih =>
  rw [Lib.decDigits]
  split
  ·rename_i h
   obtain ⟨h1,h2,h3⟩ := dig_of u h
   refine ⟨by rw [List.all_cons,h1]; rfl,by rw [List.all_cons,h2]; rfl,?_,by simp⟩
   show 10 * 0 + ((UInt8.ofNat (48 + u)).toNat - 48) = u
   rw [h3]; omega
  ·rename_i h
   obtain ⟨i1,i2,i3,i4⟩ := ih (u / 10) (by omega)
   obtain ⟨h1,h2,h3⟩ := dig_of (u % 10) (by omega)
   refine ⟨by rw [List.all_append,i1,List.all_cons,h1]; rfl,by rw [List.all_append,i2,List.all_cons,h2]; rfl,?_,by simp⟩
   rw [val_snoc,i3,h3]; omega
theorem dec_len (u k : Nat) (hk : 1 ≤ k) (h : u < 10 ^ k) : (Lib.decDigits u).length ≤ k := by
 induction k using Nat.strongRecOn generalizing u with
 | ind k ih =>
  rw [Lib.decDigits]
  split
  ·simpa using hk
  ·rename_i h10
   have h2 : 2 ≤ k := by
    rcases Nat.lt_or_ge k 2 with hl | hl
    ·have : k = 1 := by omega
     subst this; simp at h; omega
    ·exact hl
   have e : 10 ^ k = 10 ^ (k - 1) * 10 := by rw [← Nat.pow_succ]; congr 1; omega
   have := ih (k - 1) (by omega) (u / 10) (by omega) (by rw [e] at h; omega)
   rw [List.length_append,List.length_singleton]; omega
theorem itoa_in (n : Int) (h : inN n = true) : ∃ (c : UInt8) (r : Tx),Lib.itoa n = c :: r ∧ digB c = true ∧ (∀ d ∈ Lib.itoa n,numB d = true) ∧ (∀ p : Int,numO (4,bb (Lib.itoa n),p) = some n.toNat) ∧ (Lib.itoa n).length ≤ 6 := by
 obtain ⟨h0,h1⟩ := of_decide_eq_true h
 obtain ⟨u,rfl⟩ : ∃ u : Nat,n = u := ⟨n.toNat,by omega⟩
 rw [Lib.itoa_nonneg]
 obtain ⟨i1,i2,i3,i4⟩ := dec_all u
 have hl := dec_len u 6 (by omega) (by omega)
 cases hd : Lib.decDigits u with
 | nil => exact absurd hd i4
 | cons c r =>
  rw [hd] at i1 i2 i3 hl
  refine ⟨c,r,rfl,by rw [List.all_cons,Bool.and_eq_true] at i1; exact i1.1,fun d hd2 => List.all_eq_true.1 i2 d hd2,fun p => ?_,hl⟩
  have hs : (bb (c :: r)).size = (c :: r).length := bb_size _
  have hc : (4 : Int) = 4 ∧ (bb (c :: r)).size ≤ 6 ∧ (bb (c :: r)).size ≠ 0 ∧ (bb (c :: r)).data.toList.all digB = true := ⟨rfl,by rw [hs]; exact hl,by rw [hs]; simp,by rw [bb_list]; exact i1⟩
  show (if (4 : Int) = 4 ∧ (bb (c :: r)).size ≤ 6 ∧ (bb (c :: r)).size ≠ 0 ∧ (bb (c :: r)).data.toList.all digB = true then some (valL (bb (c :: r)).data.toList) else none) = _
  rw [if_pos hc,bb_list,i3]; rfl
theorem numO_in (t : Tok) (n : Nat) (h : numO t = some n) : inN (n : Int) = true := by
 unfold numO at h
 split at h
 ·rename_i hc
  injection h with h
  have hl : t.2.1.data.toList.length ≤ 6 := hc.2.1
  have := val_fold t.2.1.data.toList 0 hc.2.2.2
  have h2 : 10 ^ t.2.1.data.toList.length ≤ 10 ^ 6 := Nat.pow_le_pow_right (by decide) hl
  have h3 : valL t.2.1.data.toList < 1000000 := by unfold valL; omega
  exact decide_eq_true ⟨by omega,by omega⟩
 ·cases h

theorem take_same (c : Cm) (p t u : Tok) (h1 : t.1 = u.1) (h2 : t.2.1 = u.2.1) : takeC c p t = takeC c p u := by
 obtain ⟨a,b,x⟩ := t; obtain ⟨a',b',y⟩ := u
 cases h1; cases h2; rfl
theorem alike_inv {x y : Tok} {l m : List Tok} (h : Alike false (x :: l) (y :: m)) : x.1 = y.1 ∧ x.2.1 = y.2.1 ∧ Alike false l m := by
 obtain ⟨h1,h2⟩ := h
 obtain ⟨a,b,_⟩ := h2 0 x y rfl rfl
 refine ⟨a,b,by simpa using h1,fun i u v hu hv => ?_⟩
 obtain ⟨c,d,_⟩ := h2 (i + 1) u v (by simpa using hu) (by simpa using hv)
 exact ⟨c,d,fun h => by cases h⟩
theorem from_same : ∀ (ps l m : List Tok) (c : Cm),Alike false l m → readFrom c ps l = readFrom c ps m := by
 intro ps
 induction ps with
 | nil => intro l m c _; rfl
 | cons p ps ih =>
  intro l m c h
  match l,m,h with
  | [],[],_ => rfl
  | [],y :: m,h => exact absurd h.1 (by simp)
  | x :: l,[],h => exact absurd h.1 (by simp)
  | x :: l,y :: m,h =>
   obtain ⟨h1,h2,h3⟩ := alike_inv h
   rw [readFrom,readFrom,take_same c p x y h1 h2,ih l m _ h3]
theorem read_same (f : Fm) (l m : List Tok) (h : Alike false l m) : readC f l = readC f m := by
 unfold readC
 rw [h.1,from_same _ l m _ h]
def fillTok (c : Cm) (p : Tok) : Tok :=
 if p.2.1.data.toList = [36,49] then (1,c.2.1,0)
 else if p.2.1.data.toList = [36,50] then (4,bb (Lib.itoa c.2.2.1),0)
 else if p.2.1.data.toList = [36,51] then (4,bb (Lib.itoa c.2.2.2.1),0)
 else (p.1,p.2.1,0)
def hT (ps : List Tok) : Bool := ps.any fun p => p.2.1.data.toList == [36,49]
def hK (ps : List Tok) : Bool := ps.any fun p => p.2.1.data.toList == [36,50]
def hV (ps : List Tok) : Bool := ps.any fun p => p.2.1.data.toList == [36,51]
theorem hT_cons (p : Tok) (ps : List Tok) : hT (p :: ps) = ((p.2.1.data.toList == [36,49]) || hT ps) := rfl
theorem hK_cons (p : Tok) (ps : List Tok) : hK (p :: ps) = ((p.2.1.data.toList == [36,50]) || hK ps) := rfl
theorem hV_cons (p : Tok) (ps : List Tok) : hV (p :: ps) = ((p.2.1.data.toList == [36,51]) || hV ps) := rfl
theorem flags : ∀ q ∈ formsP,hT q.2.2.2 = true ∧ hK q.2.2.2 = q.2.1 ∧ hV q.2.2.2 = (q.1 == 2) ∧ q.2.2.2.length ≤ 12 := by
 have h : (formsP.all fun q => hT q.2.2.2 && (hK q.2.2.2 == q.2.1) && (hV q.2.2.2 == (q.1 == 2)) && decide (q.2.2.2.length ≤ 12)) = true := by kernel_rfl
 intro q hq
 have := List.all_eq_true.1 h q hq
 simp only [Bool.and_eq_true,beq_iff_eq,decide_eq_true_eq] at this
 exact ⟨this.1.1.1,this.1.1.2,this.1.2,this.2⟩
theorem fill_show : ∀ q ∈ formsP,∀ c : Cm,fillC (q.1,q.2.1,q.2.2.1) c = showL (q.2.2.2.map (fillTok c)) := by
 rintro q hq ⟨k,T,K,V,b⟩
 simp only [formsP,List.mem_cons,List.not_mem_nil,or_false] at hq
 rcases hq with rfl | rfl | rfl | rfl | rfl | rfl | rfl <;>
  simp [fillC,replC,part1,part2,part3,part4,part5,part6,part7,fillTok,showL,tailL,shownL]
def goodLit (t : Tok) : Bool := match t.2.1.data.toList with
 | [] => false
 | c :: r => (t.1 == 1 && letB c && (c :: r).all wordB && (c :: r).all fun d => lowB d == d) || (t.1 == 4 && digB c && (c :: r).all numB) || (t.1 == 5 && r.isEmpty && decide (0 ≤ signI c))
theorem good_lit (t : Tok) (h : goodLit t = true) : Good t.1 t.2.1 := by
 obtain ⟨k,s,p⟩ := t
 have e : s = bb s.data.toList := by apply ByteArray.ext; simp
 show Good k s
 rw [e]
 unfold goodLit at h
 simp only at h
 split at h
 ·cases h
 ·rename_i c r hs
  rw [hs]
  simp only [Bool.or_eq_true,Bool.and_eq_true,beq_iff_eq,decide_eq_true_eq,List.isEmpty_iff] at h
  rcases h with (⟨⟨⟨rfl,h1⟩,h2⟩,h3⟩ | ⟨⟨rfl,h1⟩,h2⟩) | ⟨⟨rfl,rfl⟩,h1⟩
  ·exact good_word (c :: r) c r rfl h1 (List.all_eq_true.1 h2) (fun d hd => by have := List.all_eq_true.1 h3 d hd; simpa using this)
  ·exact good_num (c :: r) c r rfl h1 (List.all_eq_true.1 h2)
  ·exact good_sign c h1
theorem parts_good : ∀ q ∈ formsP,∀ p ∈ q.2.2.2,goodLit (p.1,p.2.1,0) = true ∨ p.2.1.data.toList = [36,49] ∨ p.2.1.data.toList = [36,50] ∨ p.2.1.data.toList = [36,51] := by
 have h : (formsP.all fun q => q.2.2.2.all fun p => goodLit (p.1,p.2.1,0) || p.2.1.data.toList == [36,49] || p.2.1.data.toList == [36,50] || p.2.1.data.toList == [36,51]) = true := by kernel_rfl
 intro q hq p hp
 have := List.all_eq_true.1 (List.all_eq_true.1 h q hq) p hp
 simp only [Bool.or_eq_true,beq_iff_eq,or_assoc] at this
 exact this
theorem self_scan (s : ByteArray) (h : selfB s = true) : ∃ p,(scanA s).1 = [(1,s,p)] := by
 unfold selfB at h
 split at h
 ·rename_i t ht
  obtain ⟨k,u,p⟩ := t
  simp only [Bool.and_eq_true,beq_iff_eq] at h
  obtain ⟨rfl,h2⟩ := h
  have : u = s := by apply ByteArray.ext; exact Array.ext' h2
  exact ⟨p,by rw [ht,this]⟩
 ·cases h
theorem name_facts (s : ByteArray) (h : nameB s = true) : s.size ≤ 30 ∧ (∃ p,(scanA s).1 = [(1,s,p)]) ∧ kwB s = false ∧ fourL.contains s.data.toList = false := by
 unfold nameB at h
 simp only [Bool.and_eq_true,decide_eq_true_eq,Bool.not_eq_true'] at h
 exact ⟨h.1.1.1,self_scan s h.1.1.2,h.1.2,h.2⟩
theorem scan_ok (s : ByteArray) (h : (scanA s).1 ≠ []) : (scanA s).2.1 = 0 := by
 by_cases hb : 2000 < s.size
 ·have e : scanA s = ([],2,2000) := if_pos hb
  rw [e] at h; exact absurd rfl h
 ·rw [scanA_F s (by omega)] at h ⊢
  by_cases hz : (scanF s 0 []).2.1 = 0
  ·exact hz
  ·exact absurd (scan_wrong s 0 [] (Nat.zero_le _) hz).1 h
theorem name_good (s : ByteArray) (h : nameB s = true) : Good 1 s := by
 obtain ⟨h1,⟨p,h2⟩,_⟩ := name_facts s h
 have hb : ¬ 2000 < s.size := by omega
 rw [scanA_F s (by omega)] at h2
 exact scan_all_good s 0 [] (Nat.zero_le _) (fun t ht => by cases ht) (1,s,p) (by rw [h2]; simp)
theorem num_good (n : Int) (h : inN n = true) : Good 4 (bb (Lib.itoa n)) := by
 obtain ⟨c,r,h1,h2,h3,_⟩ := itoa_in n h
 exact good_num (Lib.itoa n) c r h1 h2 h3
def okP (c : Cm) : Prop := nameB c.2.1 = true ∧ inN c.2.2.1 = true ∧ inN c.2.2.2.1 = true
theorem fill_good : ∀ q ∈ formsP,∀ c : Cm,okP c → ∀ t ∈ q.2.2.2.map (fillTok c),Good t.1 t.2.1 ∧ t.2.1.size ≤ 30 := by
 intro q hq c hc t ht
 obtain ⟨p,hp,rfl⟩ := List.mem_map.1 ht
 unfold fillTok
 split
 ·exact ⟨name_good _ hc.1,(name_facts _ hc.1).1⟩
 ·split
  ·refine ⟨num_good _ hc.2.1,?_⟩
   obtain ⟨_,_,_,_,_,_,h6⟩ := itoa_in _ hc.2.1
   show (bb (Lib.itoa c.2.2.1)).size ≤ 30
   rw [bb_size]; omega
  ·split
   ·refine ⟨num_good _ hc.2.2,?_⟩
    obtain ⟨_,_,_,_,_,_,h6⟩ := itoa_in _ hc.2.2
    show (bb (Lib.itoa c.2.2.2.1)).size ≤ 30
    rw [bb_size]; omega
   ·rename_i n1 n2 n3
    refine ⟨good_lit (p.1,p.2.1,0) ((parts_good q hq p hp).resolve_right (by rintro (h | h | h) <;> contradiction)),?_⟩
    have h : (formsP.all fun q => q.2.2.2.all fun p => decide (p.2.1.size ≤ 30)) = true := by kernel_rfl
    exact of_decide_eq_true (List.all_eq_true.1 (List.all_eq_true.1 h q hq) p hp)
theorem fill_scan : ∀ q ∈ formsP,∀ c : Cm,okP c → ∃ m,scanA (bb (fillC (q.1,q.2.1,q.2.2.1) c)) = (m,0,0) ∧ Alike false (q.2.2.2.map (fillTok c)) m := by
 intro q hq c hc
 have hg := fill_good q hq c hc
 have hsz := show_size _ 30 fun t ht => (hg t ht).2
 rw [List.length_map] at hsz
 have h12 := (flags q hq).2.2.2
 rw [fill_show q hq c,scanA_F _ (by rw [bb_size]; omega)]
 exact back _ fun t ht => (hg t ht).1
theorem from_fill (c : Cm) (hc : okP c) : ∀ (ps : List Tok) (c0 : Cm),readFrom c0 ps (ps.map (fillTok c)) = ((c0.1,(if hT ps = true then c.2.1 else c0.2.1),(if hK ps = true then c.2.2.1 else c0.2.2.1),(if hV ps = true then c.2.2.2.1 else c0.2.2.2.1),c0.2.2.2.2),true) := by
 obtain ⟨hn,hk,hv⟩ := hc
 obtain ⟨_,_,_,_,_,k5,_⟩ := itoa_in _ hk
 obtain ⟨_,_,_,_,_,v5,_⟩ := itoa_in _ hv
 have k0 := (of_decide_eq_true hk).1
 have v0 := (of_decide_eq_true hv).1
 intro ps
 induction ps with
 | nil => rintro ⟨a,b,d,e,f⟩; simp [readFrom,hT,hK,hV]
 | cons p ps ih =>
  rintro ⟨a,b,d,e,f⟩
  rw [List.map_cons,readFrom]
  by_cases h1 : p.2.1.data.toList = [36,49]
  ·have e2 : takeC (a,b,d,e,f) p (fillTok c p) = ((a,c.2.1,d,e,f),true) := by
    unfold takeC fillTok; rw [if_pos h1,if_pos h1]; simp [tabB,hn]
   rw [e2,if_pos rfl,ih]
   have b1 : (p.2.1.data.toList == [36,49]) = true := by rw [h1]; rfl
   have b2 : (p.2.1.data.toList == [36,50]) = false := by rw [h1]; rfl
   have b3 : (p.2.1.data.toList == [36,51]) = false := by rw [h1]; rfl
   rw [hT_cons,hK_cons,hV_cons,b1,b2,b3]; cases hT ps <;> cases hK ps <;> cases hV ps <;> rfl
  ·by_cases h2 : p.2.1.data.toList = [36,50]
   ·have e2 : takeC (a,b,d,e,f) p (fillTok c p) = ((a,b,c.2.2.1,e,f),true) := by
     unfold takeC fillTok; rw [if_neg h1,if_neg h1,if_pos h2,if_pos h2,k5]; simp; omega
    rw [e2,if_pos rfl,ih]
    have b1 : (p.2.1.data.toList == [36,49]) = false := by rw [h2]; rfl
    have b2 : (p.2.1.data.toList == [36,50]) = true := by rw [h2]; rfl
    have b3 : (p.2.1.data.toList == [36,51]) = false := by rw [h2]; rfl
    rw [hT_cons,hK_cons,hV_cons,b1,b2,b3]; cases hT ps <;> cases hK ps <;> cases hV ps <;> rfl
   ·by_cases h3 : p.2.1.data.toList = [36,51]
    ·have e2 : takeC (a,b,d,e,f) p (fillTok c p) = ((a,b,d,c.2.2.2.1,f),true) := by
      unfold takeC fillTok; rw [if_neg h1,if_neg h1,if_neg h2,if_neg h2,if_pos h3,if_pos h3,v5]; simp; omega
     rw [e2,if_pos rfl,ih]
     have b1 : (p.2.1.data.toList == [36,49]) = false := by rw [h3]; rfl
     have b2 : (p.2.1.data.toList == [36,50]) = false := by rw [h3]; rfl
     have b3 : (p.2.1.data.toList == [36,51]) = true := by rw [h3]; rfl
     rw [hT_cons,hK_cons,hV_cons,b1,b2,b3]; cases hT ps <;> cases hK ps <;> cases hV ps <;> rfl
    ·have e2 : takeC (a,b,d,e,f) p (fillTok c p) = ((a,b,d,e,f),true) := by
      unfold takeC fillTok; rw [if_neg h1,if_neg h1,if_neg h2,if_neg h2,if_neg h3,if_neg h3]; simp
     rw [e2,if_pos rfl,ih]
     have b1 : (p.2.1.data.toList == [36,49]) = false := by rw [beq_eq_false_iff_ne]; exact h1
     have b2 : (p.2.1.data.toList == [36,50]) = false := by rw [beq_eq_false_iff_ne]; exact h2
     have b3 : (p.2.1.data.toList == [36,51]) = false := by rw [beq_eq_false_iff_ne]; exact h3
     rw [hT_cons,hK_cons,hV_cons,b1,b2,b3]; rfl
theorem from_inv : ∀ (ps l : List Tok) (c0 d : Cm),l.length = ps.length → readFrom c0 ps l = (d,true) → d.1 = c0.1 ∧ d.2.2.2.2 = c0.2.2.2.2 ∧ (if hT ps = true then nameB d.2.1 = true else d.2.1 = c0.2.1) ∧ (if hK ps = true then inN d.2.2.1 = true else d.2.2.1 = c0.2.2.1) ∧ (if hV ps = true then inN d.2.2.2.1 = true else d.2.2.2.1 = c0.2.2.2.1) := by
 intro ps
 induction ps with
 | nil =>
  intro l c0 d hl h
  cases l with
  | cons _ _ => simp at hl
  | nil =>
   rw [readFrom] at h
   ·cases h; simp [hT,hK,hV]
   ·intro _ _ _ _ h; cases h
 | cons p ps ih =>
  intro l c0 d hl h
  match l,hl with
  | t :: l,hl =>
   rw [readFrom] at h
   split at h
   ·rename_i ht
    obtain ⟨i1,i2,i3,i4,i5⟩ := ih l _ d (by simpa using hl) h
    obtain ⟨a,b,dd,e,f⟩ := c0
    unfold takeC at i1 i2 i3 i4 i5 ht
    by_cases h1 : p.2.1.data.toList = [36,49]
    ·rw [if_pos h1] at i1 i2 i3 i4 i5 ht
     have b2 : (p.2.1.data.toList == [36,50]) = false := by rw [h1]; rfl
     have b3 : (p.2.1.data.toList == [36,51]) = false := by rw [h1]; rfl
     refine ⟨i1,i2,?_,?_,?_⟩
     ·have : hT (p :: ps) = true := by simp [hT,h1]
      rw [if_pos this]
      split at i3
      ·exact i3
      ·rw [i3]; unfold tabB at ht; exact (Bool.and_eq_true_iff.1 ht).2
     ·rw [hK_cons,b2]; exact i4
     ·rw [hV_cons,b3]; exact i5
    ·by_cases h2 : p.2.1.data.toList = [36,50]
     ·rw [if_neg h1,if_pos h2] at i1 i2 i3 i4 i5 ht
      have b1 : (p.2.1.data.toList == [36,49]) = false := by rw [h2]; rfl
      have b3 : (p.2.1.data.toList == [36,51]) = false := by rw [h2]; rfl
      refine ⟨i1,i2,by rw [hT_cons,b1]; exact i3,?_,by rw [hV_cons,b3]; exact i5⟩
      have : hK (p :: ps) = true := by simp [hK,h2]
      rw [if_pos this]
      split at i4
      ·exact i4
      ·obtain ⟨n,hn⟩ := Option.isSome_iff_exists.1 ht
       rw [i4,hn]; exact numO_in t n hn
     ·by_cases h3 : p.2.1.data.toList = [36,51]
      ·rw [if_neg h1,if_neg h2,if_pos h3] at i1 i2 i3 i4 i5 ht
       have b1 : (p.2.1.data.toList == [36,49]) = false := by rw [h3]; rfl
       have b2 : (p.2.1.data.toList == [36,50]) = false := by rw [h3]; rfl
       refine ⟨i1,i2,by rw [hT_cons,b1]; exact i3,by rw [hK_cons,b2]; exact i4,?_⟩
       have : hV (p :: ps) = true := by simp [hV,h3]
       rw [if_pos this]
       split at i5
       ·exact i5
       ·obtain ⟨n,hn⟩ := Option.isSome_iff_exists.1 ht
        rw [i5,hn]; exact numO_in t n hn
      ·rw [if_neg h1,if_neg h2,if_neg h3] at i1 i2 i3 i4 i5 ht
       have b1 : (p.2.1.data.toList == [36,49]) = false := by rw [beq_eq_false_iff_ne]; exact h1
       have b2 : (p.2.1.data.toList == [36,50]) = false := by rw [beq_eq_false_iff_ne]; exact h2
       have b3 : (p.2.1.data.toList == [36,51]) = false := by rw [beq_eq_false_iff_ne]; exact h3
       exact ⟨i1,i2,by rw [hT_cons,b1]; exact i3,by rw [hK_cons,b2]; exact i4,by rw [hV_cons,b3]; exact i5⟩
   ·cases h
def fmOf (q : Int × Bool × ByteArray × List Tok) : Fm := (q.1,q.2.1,q.2.2.1)
theorem fm_in : ∀ q ∈ formsP,fmOf q ∈ formsC ∧ partsC (fmOf q) = q.2.2.2 := by
 intro q hq
 simp only [formsP,List.mem_cons,List.not_mem_nil,or_false] at hq
 rcases hq with rfl | rfl | rfl | rfl | rfl | rfl | rfl
 ·exact ⟨by simp [fmOf,formsC],by unfold partsC fmOf; rw [scan1]⟩
 ·exact ⟨by simp [fmOf,formsC],by unfold partsC fmOf; rw [scan2]⟩
 ·exact ⟨by simp [fmOf,formsC],by unfold partsC fmOf; rw [scan3]⟩
 ·exact ⟨by simp [fmOf,formsC],by unfold partsC fmOf; rw [scan4]⟩
 ·exact ⟨by simp [fmOf,formsC],by unfold partsC fmOf; rw [scan5]⟩
 ·exact ⟨by simp [fmOf,formsC],by unfold partsC fmOf; rw [scan6]⟩
 ·exact ⟨by simp [fmOf,formsC],by unfold partsC fmOf; rw [scan7]⟩
theorem ok_parts (c : Cm) (h : okC c = true) : okP c ∧ (c.2.2.2.2 = false → c.2.2.1 = 0) ∧ (c.1 ≠ 2 → c.2.2.2.1 = 0) := by
 unfold okC at h
 simp only [Bool.and_eq_true,Bool.or_eq_true,beq_iff_eq] at h
 refine ⟨⟨h.1.1.1.1,h.1.1.1.2,h.1.1.2⟩,fun hf => ?_,fun hf => ?_⟩
 ·rcases h.1.2 with h2 | h2
  ·rw [h2] at hf; cases hf
  ·exact h2
 ·rcases h.2 with h2 | h2
  ·exact absurd h2 hf
  ·exact h2
theorem read_fill : ∀ q ∈ formsP,∀ c : Cm,c.1 = q.1 → c.2.2.2.2 = q.2.1 → okC c = true → readC (fmOf q) (q.2.2.2.map (fillTok c)) = (c,true) := by
 intro q hq c h1 h2 hc
 obtain ⟨hp,hk,hv⟩ := ok_parts c hc
 obtain ⟨f1,f2,f3,_⟩ := flags q hq
 unfold readC
 rw [(fm_in q hq).2,if_pos (by rw [List.length_map]),from_fill c hp,f1,f2,f3]
 obtain ⟨a,b,d,e,f⟩ := c
 obtain ⟨qa,qb,qc,qd⟩ := q
 simp only at h1 h2 hk hv ⊢
 subst h1 h2
 simp only [fmOf,if_true,Prod.mk.injEq,true_and,and_true]
 constructor
 ·cases f with
  | true => rfl
  | false => rw [hk rfl]; rfl
 ·by_cases h2 : a = 2
  ·subst h2; rfl
  ·rw [if_neg (by simpa using h2),hv h2]
theorem read_ok : ∀ q ∈ formsP,∀ (l : List Tok) (c : Cm),readC (fmOf q) l = (c,true) → c.1 = q.1 ∧ c.2.2.2.2 = q.2.1 ∧ okC c = true := by
 intro q hq l c h
 obtain ⟨f1,f2,f3,_⟩ := flags q hq
 unfold readC at h
 rw [(fm_in q hq).2] at h
 split at h
 ·rename_i hl
  obtain ⟨i1,i2,i3,i4,i5⟩ := from_inv _ l _ c hl h
  rw [f1,if_pos rfl] at i3
  rw [f2] at i4
  rw [f3] at i5
  refine ⟨i1,i2,?_⟩
  obtain ⟨a,b,d,e,f⟩ := c
  obtain ⟨qa,qb,qc,qd⟩ := q
  simp only [fmOf] at i1 i2 i3 i4 i5
  subst i1 i2
  have z : inN 0 = true := by decide
  have hK' : inN d = true ∧ (f = true ∨ d = 0) := by
   cases f with
   | true => exact ⟨i4,.inl rfl⟩
   | false => have : d = 0 := i4
              rw [this]; exact ⟨z,.inr rfl⟩
  have hV' : inN e = true ∧ (a = 2 ∨ e = 0) := by
   by_cases h2 : a = 2
   ·rw [if_pos (by simpa using h2)] at i5; exact ⟨i5,.inl h2⟩
   ·rw [if_neg (by simpa using h2)] at i5; rw [i5]; exact ⟨z,.inr rfl⟩
  unfold okC
  simp only [Bool.and_eq_true,Bool.or_eq_true,beq_iff_eq]
  exact ⟨⟨⟨⟨i3,hK'.1⟩,hV'.1⟩,hK'.2⟩,hV'.2⟩
 ·cases h
theorem text_form : ∀ q ∈ formsP,∀ c : Cm,c.1 = q.1 → c.2.2.2.2 = q.2.1 → (readC (fmOf q) (scanA (bb (fillC (fmOf q) c))).1 = (c,true) ↔ okC c = true) := by
 intro q hq c h1 h2
 constructor
 ·intro h; exact (read_ok q hq _ c h).2.2
 ·intro h
  obtain ⟨m,hm,ha⟩ := fill_scan q hq c (ok_parts c h).1
  have e : scanA (bb (fillC (fmOf q) c)) = (m,0,0) := hm
  rw [e,← read_same (fmOf q) _ m ha]
  exact read_fill q hq c h1 h2 h
theorem textF_q : ∀ q ∈ formsP,∀ c : Cm,c.1 = q.1 → c.2.2.2.2 = q.2.1 → textC c = if okC c = true then fillC (fmOf q) c else [] := by
 intro q hq c h1 h2
 have key := text_form q hq c h1 h2
 obtain ⟨a,b,d,e,f⟩ := c
 have hno : ∀ g : Fm,¬ (g.1 = a ∧ g.2.1 = f) → ∀ r,textF (g :: r) (a,b,d,e,f) = textF r (a,b,d,e,f) := fun g hg r => by
  rw [textF,if_neg (fun h => hg ⟨h.1,h.2.1⟩)]
 have hyes : ∀ r,fmOf q ∈ formsC → (textF r (a,b,d,e,f) = [] ) → textF (fmOf q :: r) (a,b,d,e,f) = if okC (a,b,d,e,f) = true then fillC (fmOf q) (a,b,d,e,f) else [] := fun r _ hr => by
  rw [textF,hr]
  by_cases hk : okC (a,b,d,e,f) = true
  ·rw [if_pos hk,if_pos ⟨h1.symm,h2.symm,key.2 hk⟩]
  ·rw [if_neg hk,if_neg (fun h => hk (key.1 h.2.2))]
 have hm := (fm_in q hq).1
 simp only [formsP,List.mem_cons,List.not_mem_nil,or_false] at hq
 unfold textC formsC
 rcases hq with rfl | rfl | rfl | rfl | rfl | rfl | rfl <;> (simp only at h1 h2; subst h1 h2; simp only [fmOf] at hyes hm ⊢)
 ·rw [hyes _ hm]
  rw [hno _ (by decide),hno _ (by decide),hno _ (by decide),hno _ (by decide),hno _ (by decide),hno _ (by decide)]; rfl
 ·rw [hno _ (by decide),hyes _ hm]
  rw [hno _ (by decide),hno _ (by decide),hno _ (by decide),hno _ (by decide),hno _ (by decide)]; rfl
 ·rw [hno _ (by decide),hno _ (by decide),hyes _ hm]
  rw [hno _ (by decide),hno _ (by decide),hno _ (by decide),hno _ (by decide)]; rfl
 ·rw [hno _ (by decide),hno _ (by decide),hno _ (by decide),hyes _ hm]
  rw [hno _ (by decide),hno _ (by decide),hno _ (by decide)]; rfl
 ·rw [hno _ (by decide),hno _ (by decide),hno _ (by decide),hno _ (by decide),hyes _ hm]
  rw [hno _ (by decide),hno _ (by decide)]; rfl
 ·rw [hno _ (by decide),hno _ (by decide),hno _ (by decide),hno _ (by decide),hno _ (by decide),hyes _ hm]
  rw [hno _ (by decide)]; rfl
 ·rw [hno _ (by decide),hno _ (by decide),hno _ (by decide),hno _ (by decide),hno _ (by decide),hno _ (by decide),hyes _ hm]
  rfl
theorem textR_q : ∀ q ∈ formsP,∀ c : Cm,c.1 = q.1 → c.2.2.2.2 = q.2.1 → textR c = if okC c = true then fillC (fmOf q) c else [] := by
 intro q hq c h1 h2
 obtain ⟨a,b,d,e,f⟩ := c
 simp only [formsP,List.mem_cons,List.not_mem_nil,or_false] at hq
 rcases hq with rfl | rfl | rfl | rfl | rfl | rfl | rfl <;> (simp only at h1 h2; subst h1 h2; unfold textR; cases hk : okC _ <;> simp [fmOf,fillC,replC,digT])
theorem kinds (a : Int) (f : Bool) : (∃ q ∈ formsP,a = q.1 ∧ f = q.2.1) ∨ ((∀ q ∈ formsP,¬ (q.1 = a ∧ q.2.1 = f)) ∧ ((a = 2 ∨ a = 3) ∧ f = false ∨ a = 5 ∧ f = true ∨ (a ≠ 1 ∧ a ≠ 2 ∧ a ≠ 3 ∧ a ≠ 4 ∧ a ≠ 5))) := by
 by_cases h : ∃ q ∈ formsP,a = q.1 ∧ f = q.2.1
 ·exact .inl h
 ·refine .inr ⟨fun q hq hh => h ⟨q,hq,hh.1.symm,hh.2.symm⟩,?_⟩
  have hh : ∀ q ∈ formsP,¬ (a = q.1 ∧ f = q.2.1) := fun q hq h2 => h ⟨q,hq,h2⟩
  simp only [formsP,List.mem_cons,List.not_mem_nil,or_false,forall_eq_or_imp,forall_eq] at hh
  obtain ⟨g1,g2,g3,g4,g5,g6,g7⟩ := hh
  cases f <;> simp at g1 g2 g3 g4 g5 g6 g7 ⊢ <;> omega
theorem text_same (c : Cm) : textC c = textR c := by
 rcases kinds c.1 c.2.2.2.2 with ⟨q,hq,h1,h2⟩ | ⟨hn,hk⟩
 ·rw [textF_q q hq c h1 h2,textR_q q hq c h1 h2]
 ·have e1 : textC c = [] := by
   unfold textC
   have : ∀ fs : List Fm,(∀ g ∈ fs,¬ (g.1 = c.1 ∧ g.2.1 = c.2.2.2.2)) → textF fs c = [] := by
    intro fs
    induction fs with
    | nil => intro _; rfl
    | cons g r ih => intro h; rw [textF,if_neg (fun hh => h g (by simp) ⟨hh.1,hh.2.1⟩)]; exact ih fun g hg => h g (by simp [hg])
   refine this _ fun g hg => ?_
   obtain ⟨q,hq,rfl,_⟩ := forms_parts g hg
   exact hn q hq
  rw [e1]
  unfold textR
  rcases hk with ⟨h | h,h2⟩ | ⟨h,h2⟩ | ⟨h1,h2,h3,h4,h5⟩
  ·rw [h,h2]; simp
  ·rw [h,h2]; simp
  ·rw [h,h2]; simp
  ·rw [if_neg h1,if_neg h2,if_neg h3,if_neg h4,if_neg h5]; simp
theorem text_some (c : Cm) (h : textC c ≠ []) : ∃ q ∈ formsP,c.1 = q.1 ∧ c.2.2.2.2 = q.2.1 ∧ okC c = true ∧ textC c = fillC (fmOf q) c := by
 rcases kinds c.1 c.2.2.2.2 with ⟨q,hq,h1,h2⟩ | ⟨hn,hk⟩
 ·have e := textF_q q hq c h1 h2
  by_cases hok : okC c = true
  ·rw [if_pos hok] at e; exact ⟨q,hq,h1,h2,hok,e⟩
  ·rw [if_neg hok] at e; exact absurd e h
 ·exfalso
  rw [text_same] at h
  apply h
  unfold textR
  rcases hk with ⟨h | h,h2⟩ | ⟨h,h2⟩ | ⟨h1,h2,h3,h4,h5⟩
  ·rw [h,h2]; simp
  ·rw [h,h2]; simp
  ·rw [h,h2]; simp
  ·rw [if_neg h1,if_neg h2,if_neg h3,if_neg h4,if_neg h5]; simp

theorem conv_aw {w : World} {B n : Nat} {v : Value} {l : Tx} (h : w.ownsRow B 5 1 v n (Lib.byteCells l)) (hn : n = l.length) : (convert 342 9 v).run Tryz.prog w = .ok (.string ⟨l.toArray⟩) w := by
 subst hn
 rcases h.2 with ⟨rfl,h0⟩ | ⟨g,cap,cur,rfl,hB,hg,hn,_,_,htk⟩
 ·have : l = [] := List.length_eq_zero_iff.1 h0
  subst this
  exact Lib.run_convert_nil_bytes w _ _ 5 0 (by kernel_rfl) (by kernel_rfl) (by kernel_rfl)
 ·rw [Nat.mul_one] at htk
  exact run_convert_bytes_back (P := Tryz.prog) w _ _ 5 ⟨g,0,none⟩ cap l (by kernel_rfl) (by kernel_rfl) (by kernel_rfl) (Lib.bytes_of_row hg htk)
set_option maxHeartbeats 2000000 in
theorem grep_any (a b c s : ByteArray) (r : Nat) (w : World) (hG : GP w r a b c) (hwf : wfT s.data.toList = true) (hsz : s.size ≤ 1000) (R : Tx) (hR : replC a.data.toList b.data.toList c.data.toList s.data.toList = R) (hRl : R.length ≤ 1000000) :
  Calls Tryz.prog 315 #[nP r,.string s] w fun e w' => e = .returned (.string ⟨R.toArray⟩) ∧ Below w.heap.size w w' := by
 obtain ⟨i0,hi,hz0,hz1,hz2⟩ := info_parts aw_info
 obtain ⟨w1,hm,how,hgr⟩ := run_make_own (P := Tryz.prog) w w.heap.size 342 5 i0 (.int .u8 0) 1 (by kernel_rfl) hi hz0 hz1 .i64 .i64 s.size (by rw [hz2]; omega) (by unfold maxLen; omega) (Nat.le_refl _)
 have hb1 : Below w.heap.size w w1 := (Below.refl _ _).grown hgr (Nat.le_refl _) (fun k hk => by cases hk)
 have hlt1 : w.heap.size < w1.heap.size := by
  rcases how.2 with ⟨h,_⟩ | ⟨g,cap,cur,h,_,hg,_⟩
  ·cases h
  ·injection h with h1 h2 h3
   injection h1 with h1
   injection h1 with h1 _
   rw [h1]; exact (Array.getElem?_eq_some_iff.1 hg).1
 have hA : AW w.heap.size w1.heap.size [] (w1.alloc (.cells #[.slice (some ⟨w.heap.size,0,none⟩) 0 s.size] 342)) :=
  ⟨hb1.size,_,Blk.new _ _ _,how.alloc _,by simp [Value.ownBlock]; omega⟩
 have HB2 := Lib.hid (hb1.alloc hb1.size (.cells #[.slice (some ⟨w.heap.size,0,none⟩) 0 s.size] 342))
 have HW := Lib.hid (wstring_any a b c s r w1.heap.size w (w1.alloc (.cells #[.slice (some ⟨w.heap.size,0,none⟩) 0 s.size] 342)) hG HB2.out hA hwf hsz R hR hRl)
 clear how hgr hA hwf hsz hR hRl hG hi
 go_enter Tryz.func315,Tryz.ntmps315
 go_wp2_with (go_at_call 316; (refine HW.out.mono ?_); rintro e w2 ⟨⟨v,rfl⟩,h2,hb2⟩; obtain ⟨hB,v2,hbk,hown,hne⟩ := h2; have c0 : w2.cell? ⟨w1.heap.size,0,none⟩ = some v2 := hbk.cell 0; have hcv := conv_aw hown rfl; have HB3 := Lib.hid hb2; clear hb2)
 go_ret
 exact ⟨rfl,HB3.out⟩

theorem r_disable (w : World) : (callFunc 265 #[]).run Tryz.prog w = .ok (.value (.tuple #[])) w := run_call_mark0 Tryz.func265 (by kernel_rfl) (by kernel_rfl) (by kernel_rfl) .disable (by kernel_rfl) w
theorem r_enable (w : World) : (callFunc 267 #[]).run Tryz.prog w = .ok (.value (.tuple #[])) w := run_call_mark0 Tryz.func267 (by kernel_rfl) (by kernel_rfl) (by kernel_rfl) .enable (by kernel_rfl) w
theorem r_acquire (a : Addr) (w : World) : (callFunc 268 #[.pointer (some a)]).run Tryz.prog w = .ok (.value (.tuple #[])) w := run_call_marked Tryz.func268 (by kernel_rfl) (by kernel_rfl) (by kernel_rfl) .acquire (by kernel_rfl) a w
theorem r_release (a : Addr) (w : World) : (callFunc 270 #[.pointer (some a)]).run Tryz.prog w = .ok (.value (.tuple #[])) w := run_call_marked Tryz.func270 (by kernel_rfl) (by kernel_rfl) (by kernel_rfl) .releaseMerge (by kernel_rfl) a w
theorem lock_any (a : Addr) (w : World) (hc : w.cell? a = some (.int .i32 0)) (hz : w.frozen? a = false) :
  Calls Tryz.prog 216 #[.pointer (some a)] w fun e w' => e = .returned (.tuple #[]) ∧ w' = w.setCell a (.int .i32 1) := by
 have hd := r_disable
 have he := r_enable
 have ha := r_acquire
 have hcas := run_call_cas_hit (P := Tryz.prog) Tryz.func266 (by kernel_rfl) (by kernel_rfl) (by kernel_rfl) .i32 (by kernel_rfl) (y := 1) hc hz
 have hc' : (w.setCell a (.int .i32 1)).cell? a = some (.int .i32 1) := World.cell?_setCell_same w a _ hc
 have hcv := run_convert_to_unsafe (P := Tryz.prog) (src := 296) (dst := 300) Tryz.underlying296 Tryz.underlying300 (by kernel_rfl) hc'
 go_enter Tryz.func216,Tryz.ntmps216
 go_wp2
 first | go_end0 | (simp only [Exit.inBlock,Exit.then]; refine bodyPost_ret (results_none rfl _ _ _) rfl ?_) | refine bodyPost_ret (results_none rfl _ _ _) rfl ?_
 go_wp2
 go_end0
 exact ⟨rfl,rfl⟩
theorem store_d (a : Addr) (x : Value) (u : FrameMode) (w : World) (hc : w.cell? a = some x) (hz : w.frozen? a = false) :
  CallsD Tryz.prog 218 #[.pointer (some a),.bool true] u w fun e u' w' => u' = u ∧ (e = .returned (.tuple #[]) ∧ w' = w.drew.setCell a (.int .u32 1)) := by
 have hc' : w.drew.cell? a = some x := by go_simp
 have hz' : w.drew.frozen? a = false := by go_simp
 have hst := run_call_store (P := Tryz.prog) Tryz.func246 (by kernel_rfl) (by kernel_rfl) (by kernel_rfl) (by kernel_rfl) (k := .u32) (y := 1) hc' hz'
 go_enter_d Tryz.func218,Tryz.ntmps218
 go_wp2
 go_region_calls
 all_goals (go_end0; exact ⟨rfl,rfl⟩)
theorem unlock_d (a : Addr) (u : FrameMode) (w : World) (hc : w.cell? a = some (.int .i32 1)) (hz : w.frozen? a = false) :
  CallsD Tryz.prog 217 #[.pointer (some a)] u w fun e u' w' => u' = u ∧ (e = .returned (.tuple #[]) ∧ w' = w.setCell a (.int .i32 0)) := by
 have hd := r_disable
 have he := r_enable
 have hr := r_release
 have hadd := run_call_add (P := Tryz.prog) Tryz.func271 (by kernel_rfl) (by kernel_rfl) (by kernel_rfl) .i32 (by kernel_rfl) (y := -1) (s := 0) hc hz (by simp [go_sem]; rfl)
 have hcv := run_convert_to_unsafe (P := Tryz.prog) (src := 296) (dst := 300) Tryz.underlying296 Tryz.underlying300 (by kernel_rfl) hc
 go_enter_d Tryz.func217,Tryz.ntmps217
 go_wp2
 go_end0
 go_wp2
 go_end0
 exact ⟨rfl,rfl⟩

abbrev oS (o cap : Nat) : Value := .slice (some ⟨o,0,none⟩) 6 cap
abbrev gI (r : Nat) : Value := .iface 244 (nP r)
def RP (w : World) (p : Nat) (s0 s1 : Int) (rr on : Value) : Prop := Blk w p 184 #[.int .u32 s0,.int .i32 s1,.int .u32 0,rr,on]
theorem GP.far {w : World} {r p i : Nat} {a b c : ByteArray} {cs : Array Value} (h : GP w r a b c) (hp : Blk w p 184 cs) (u : Value) : GP (w.setCell ⟨p,i,none⟩ u) r a b c := by
 obtain ⟨tr,g1,N,T,x,k,l,g2,g3,g4,g5,g6,g7⟩ := h
 have hq : ∀ {g : Nat} {t : TypeId} {cs : Array Value},Blk w g t cs → t ≠ 184 → Blk (w.setCell ⟨p,i,none⟩ u) g t cs := fun hb ht => hb.far (Blk.ne_ hb hp ht) _
 exact ⟨tr,hq g1 (by decide),N,T,x,k,l,hq g2 (by decide),hq g3 (by decide),hq g4 (by decide),hq g5 (by decide),hq g6 (by decide),hq g7 (by decide)⟩
theorem build_any (p o cap : Nat) (a b c : ByteArray) (s0 s1 : Int) (rr : Value) (w : World) (h : RP w p s0 s1 rr (oS o cap)) (ho : ON w o a b c) :
  Calls Tryz.prog 177 #[nP p] w fun e w' => e = .returned (gI w.heap.size) ∧ GP w' w.heap.size a b c ∧ But [] w w' := by
 have c4 : w.cell? ⟨p,4,none⟩ = some (oS o cap) := h.cell 4
 have o0 : w.cell? ⟨o,0,none⟩ = some (.string ⟨#[36,49]⟩) := ho.2 0 (by decide)
 have HM := Lib.hid (made_any o cap a b c w ho)
 clear h ho
 go_enter Tryz.func177,Tryz.ntmps177
 go_wp2
 go_loopg [5] 1 (fun gk u5 wx => u5 = .int .i64 0 ∧ wx = w)
 case atStart => exact ⟨rfl,rfl⟩
 case round =>
  obtain ⟨rfl,rfl⟩ := hrel
  go_wp2_with (go_at_call 220; (refine HM.out.mono ?_); rintro e w' ⟨rfl,h1,h2⟩; have H1 := Lib.hid h1; have H2 := Lib.hid h2; clear h1 h2)
  go_ret
  exact ⟨rfl,H1.out,H2.out⟩
theorem once_any (p o cap : Nat) (a b c : ByteArray) (s0 s1 : Int) (w : World) (h : RP w p s0 s1 .nilIface (oS o cap)) (ho : ON w o a b c) :
  Calls Tryz.prog 139 #[nP p] w fun e w' => e = .returned (.tuple #[]) ∧ RP w' p s0 s1 (gI w.heap.size) (.slice none 0 0) ∧ GP w' w.heap.size a b c ∧ But [p] w w' := by
 have HB := Lib.hid (build_any p o cap a b c s0 s1 .nilIface w h ho)
 have hlt := h.lt
 have H := Lib.hid h
 clear h ho
 go_enter Tryz.func139,Tryz.ntmps139
 go_wp2_with (go_at_call 177; (refine HB.out.mono ?_); rintro e w1 ⟨rfl,h1,h2⟩; have h3 : RP w1 p s0 s1 .nilIface (oS o cap) := Blk.but H.out h2 (by simp); have c3 : w1.cell? ⟨p,3,none⟩ = some .nilIface := h3.cell 3; have c4 : w1.cell? ⟨p,4,none⟩ = some (oS o cap) := h3.cell 4; have f3 := h3.frozen 3; have f4 := h3.frozen 4; have H1 := Lib.hid h1; have H2 := Lib.hid h2; have H3 := Lib.hid h3; clear h1 h2 h3)
 go_end0
 exact ⟨rfl,(Blk.set_ H3.out 3 _).set_ 4 _,(H1.out.far H3.out _).far (Blk.set_ H3.out 3 _) _,((H2.out.trans (But.refl [p] w1) (by simp) (fun x hx _ => hx)).set _ _ (.inl (by simp))).set _ _ (.inl (by simp))⟩
set_option maxHeartbeats 1600000 in
theorem slow_any (p o cap : Nat) (a b c : ByteArray) (w : World) (h : RP w p 0 0 .nilIface (oS o cap)) (ho : ON w o a b c) (hne : o ≠ p) :
  Calls Tryz.prog 176 #[nP p,.func (.func 139) #[nP p] #[]] w fun e w' => e = .returned (.tuple #[]) ∧ (∃ r,RP w' p 1 0 (gI r) (.slice none 0 0) ∧ GP w' r a b c) ∧ But [p] w w' := by
 have c0 : w.cell? ⟨p,0,none⟩ = some (.int .u32 0) := h.cell 0
 have c1 : w.cell? ⟨p,1,none⟩ = some (.int .i32 0) := h.cell 1
 have f0 := h.frozen 0
 have f1 := h.frozen 1
 have hl := run_call_load (P := Tryz.prog) Tryz.func215 (by kernel_rfl) (by kernel_rfl) (by kernel_rfl) .u32 (by kernel_rfl) (w := w.setCell ⟨p,1,none⟩ (.int .i32 1)) (a := ⟨p,0,none⟩) (x := 0) ((World.cell?_setCell_other _ ⟨p,1,none⟩ ⟨p,0,none⟩ _ (by simp)).trans c0)
 have hnot : ∀ (x : Bool) (w : World),(Op.unary .not (.bool x)).run Tryz.prog w = .ok (.bool (!x)) w := fun _ _ => rfl
 have h1 : RP (w.setCell ⟨p,1,none⟩ (.int .i32 1)) p 0 1 .nilIface (oS o cap) := Blk.set_ h 1 _
 have ho1 : ON (w.setCell ⟨p,1,none⟩ (.int .i32 1)) o a b c := ho.but ((But.refl [p] w).set _ _ (.inl (by simp))) (by simpa using hne)
 have HO := Lib.hid (once_any p o cap a b c 0 1 _ h1 ho1)
 clear ho ho1
 go_enter_defers Tryz.func176,Tryz.ntmps176
 go_wp2_with (first
  | (go_at_call 216; refine (lock_any ⟨p,1,none⟩ _ (by go_simp) (by go_simp)).mono ?_; rintro e w' ⟨rfl,rfl⟩)
  | (go_at_call 175; go_in)
  | (go_at_call 139; refine HO.out.mono ?_; rintro e w1 ⟨rfl,g1,g2,g3⟩; have G1 := Lib.hid g1; have G2 := Lib.hid g2; have G3 := Lib.hid g3; clear g1 g2 g3))
 -- two deferred calls, the last laid first
 refine leaves_cons (f := 218) (args := #[.pointer (some ⟨p,0,none⟩),.bool true]) (by simp) (by simp [go_sem]) ?_
 refine (store_d ⟨p,0,none⟩ (.int .u32 0) .returning _ (Blk.cell G1.out 0) (Blk.frozen G1.out 0)).mono ?_
 rintro e u' w'' ⟨rfl,rfl,rfl⟩
 have h5 : RP (w1.drew.setCell ⟨p,0,none⟩ (.int .u32 1)) p 1 1 (gI (w.setCell ⟨p,1,none⟩ (.int .i32 1)).heap.size) (.slice none 0 0) := Blk.set_ (w := w1.drew) G1.out 0 _
 refine leaves_cons (f := 217) (args := #[.pointer (some ⟨p,1,none⟩)]) (by simp [settle]) (by simp [go_sem]) ?_
 refine (unlock_d ⟨p,1,none⟩ _ _ (h5.cell 1) (h5.frozen 1)).mono ?_
 rintro e u' w'' ⟨rfl,rfl,rfl⟩
 have h6 : RP ((w1.drew.setCell ⟨p,0,none⟩ (.int .u32 1)).setCell ⟨p,1,none⟩ (.int .i32 0)) p 1 0 (gI (w.setCell ⟨p,1,none⟩ (.int .i32 1)).heap.size) (.slice none 0 0) := h5.set_ 1 _
 have g5 : GP w1.drew (w.setCell ⟨p,1,none⟩ (.int .i32 1)).heap.size a b c := G2.out
 have g6 := (g5.far (i := 0) (w := w1.drew) G1.out (.int .u32 1)).far (i := 1) h5 (.int .i32 0)
 have g7 : But [p] w ((w1.drew.setCell ⟨p,0,none⟩ (.int .u32 1)).setCell ⟨p,1,none⟩ (.int .i32 0)) :=
  (((((But.refl [p] w).set ⟨p,1,none⟩ (.int .i32 1) (.inl (by simp))).trans G3.out (fun x hx => hx) (fun x hx _ => hx)).drewN 1).set _ _ (.inl (by simp))).set _ _ (.inl (by simp))
 have hfin : (∃ r,RP ((w1.drew.setCell ⟨p,0,none⟩ (.int .u32 1)).setCell ⟨p,1,none⟩ (.int .i32 0)) p 1 0 (gI r) (.slice none 0 0) ∧ GP ((w1.drew.setCell ⟨p,0,none⟩ (.int .u32 1)).setCell ⟨p,1,none⟩ (.int .i32 0)) r a b c) ∧ But [p] w ((w1.drew.setCell ⟨p,0,none⟩ (.int .u32 1)).setCell ⟨p,1,none⟩ (.int .i32 0)) := ⟨⟨_,h6,g6⟩,g7⟩
 generalize (w1.drew.setCell ⟨p,0,none⟩ (.int .u32 1)).setCell ⟨p,1,none⟩ (.int .i32 0) = W at hfin
 clear h5 h6 g5 g6 g7 G1 G2 G3
 simp [Leaves,settle,results,Tryz.results176]
 first | exact hfin | exact ⟨hfin.1,hfin.2⟩
theorem do_any (p o cap : Nat) (a b c : ByteArray) (w : World) (h : RP w p 0 0 .nilIface (oS o cap)) (ho : ON w o a b c) (hne : o ≠ p) :
  Calls Tryz.prog 138 #[nP p,.func (.func 139) #[nP p] #[]] w fun e w' => e = .returned (.tuple #[]) ∧ (∃ r,RP w' p 1 0 (gI r) (.slice none 0 0) ∧ GP w' r a b c) ∧ But [p] w w' := by
 have c0 : w.cell? ⟨p,0,none⟩ = some (.int .u32 0) := h.cell 0
 have hl := run_call_load (P := Tryz.prog) Tryz.func215 (by kernel_rfl) (by kernel_rfl) (by kernel_rfl) .u32 (by kernel_rfl) c0
 have hnot : ∀ (x : Bool) (w : World),(Op.unary .not (.bool x)).run Tryz.prog w = .ok (.bool (!x)) w := fun _ _ => rfl
 have HS := Lib.hid (slow_any p o cap a b c w h ho hne)
 clear h ho
 go_enter Tryz.func138,Tryz.ntmps138
 go_wp2_with (first | (go_at_call 176; refine HS.out.mono ?_; rintro e w' ⟨rfl,h1,h2⟩; have H1 := Lib.hid h1; have H2 := Lib.hid h2; clear h1 h2) | (go_at_call 175; go_in))
 go_end0
 exact ⟨rfl,H1.out,H2.out⟩

theorem mr_one (r m : Nat) (w : World) : (method (m + 1) 244 (nP r) "Replace").run Tryz.prog w = .ok (315, nP r) w := by kernel_rfl
theorem mr_any (r : Nat) (n : Nat) (h : 0 < n) (w : World) : (method n 244 (nP r) "Replace").run Tryz.prog w = .ok (315, nP r) w := by
 obtain ⟨m,rfl⟩ : ∃ m,n = m + 1 := ⟨n - 1,by omega⟩
 exact mr_one r m w
set_option maxHeartbeats 1600000 in
theorem rreplace_any (p o cap : Nat) (a b c s : ByteArray) (w : World) (h : RP w p 0 0 .nilIface (oS o cap)) (ho : ON w o a b c) (hne : o ≠ p) (B : Nat) (hB : B ≤ p) (hwf : wfT s.data.toList = true) (hsz : s.size ≤ 1000) (R : Tx) (hR : replC a.data.toList b.data.toList c.data.toList s.data.toList = R) (hRl : R.length ≤ 1000000) :
  Calls Tryz.prog 118 #[nP p,.string s] w fun e w' => e = .returned (.string ⟨R.toArray⟩) ∧ Below B w w' := by
 have HD := Lib.hid (do_any p o cap a b c w h ho hne)
 have HR := Lib.hid (fun W r hG => grep_any a b c s r W hG hwf hsz R hR hRl)
 have HM := mr_any
 have hlt := h.lt
 have hBw : B ≤ w.heap.size := by omega
 clear h ho hwf hsz hR hRl
 go_enter Tryz.func118,Tryz.ntmps118
 go_wp2_with (first
  | (go_at_call 138; refine HD.out.mono ?_; rintro e w1 ⟨rfl,⟨r,h1,h2⟩,h3⟩; have c3 : w1.cell? ⟨p,3,none⟩ = some (gI r) := h1.cell 3; have H2 := Lib.hid h2; have H3 := Lib.hid h3; clear h1 h2 h3)
  | (go_at_call 315; refine (HR.out _ _ H2.out).mono ?_; rintro e w2 ⟨rfl,hb⟩; have H4 := Lib.hid hb; clear hb))
 go_ret
 have hb1 : Below B w w1 := H3.out.below hBw (by simpa using hB)
 exact ⟨rfl,hb1.trans (H4.out.mono (Nat.le_trans hBw hb1.size))⟩

theorem st_info : (Tryz.prog.info? 9).map (fun i => (i.zero,i.size,i.bytes)) = some (some (.string ⟨#[]⟩),1,16) := by kernel_rfl
def NewP (a b c : ByteArray) (w : World) (e : Ending) (w' : World) : Prop := ∃ p o cap,e = .returned (nP p) ∧ RP w' p 0 0 .nilIface (oS o cap) ∧ ON w' o a b c ∧ o ≠ p ∧ w.heap.size ≤ p ∧ Below w.heap.size w w'
set_option maxHeartbeats 1600000 in
theorem new_any (x : Nat) (a b c : ByteArray) (w : World) (h : Blk w x 9 (onV a b c)) :
  Calls Tryz.prog 116 #[.slice (some ⟨x,0,none⟩) 6 6] w (NewP a b c w) := by
 obtain ⟨i0,hi,hz0,hz1,hz2⟩ := info_parts st_info
 have HX := Lib.hid h
 clear h
 go_enter Tryz.func116,Tryz.ntmps116
 go_wp2_with (at_builtin; refine wpList_append_own _ rfl _ _ 60 rfl w.heap.size 9 i0 (.string ⟨#[]⟩) 1 16 Tryz.underlying60 hi hz0 hz1 hz2 rfl (by decide) (.slice none 0 0) 0 [] rfl (World.ownsRow_nil _ _ _ _) ⟨x,0,none⟩ 6 6 (onV a b c).toList rfl rfl ?c1 ?c2 ?c3 ?c4 ?c5 ?_)
 case c1 =>
  intro j u hj
  have e : (⟨x,0,none⟩ : Addr).add j = ⟨x,j,none⟩ := by simp [Addr.add]; exact fun h => h.symm
  rw [e,HX.out.cell j]
  simpa using hj
 case c2 => intro u hu; simp only [onV,List.mem_cons,List.not_mem_nil,or_false] at hu; rcases hu with rfl | rfl | rfl | rfl | rfl | rfl <;> rfl
 case c3 => simp [maxLen]
 case c4 => simp
 case c5 => exact Nat.le_refl _
 intro v' w2 hown' hgrow _
 have hb2 : Below w.heap.size w w2 := (Below.refl _ _).grown hgrow (Nat.le_refl _) (fun k hk => by cases hk)
 rcases hown'.2 with ⟨_,h0⟩ | ⟨g,cap,cur,hv,hg0,hg,hn,hcap,hcs,htk⟩
 ·simp at h0
 ·subst hv
  have hon : ON w2 g a b c := ⟨(Array.getElem?_eq_some_iff.1 hg).1,fun i hi => by
   rw [Lib.cell_of_heap hg]
   have e : cur.toList.take 6 = (onV a b c).toList := by simpa using htk
   have : (cur.toList.take 6)[i]? = cur[i]? := by rw [List.getElem?_take_of_lt hi]; simp
   rw [← this,e]; simp⟩
  have HON := Lib.hid hon
  have HB2 := Lib.hid hb2
  clear hown' hgrow hg hcs htk hon hb2
  go_wp2
  go_ret
  refine ⟨w2.heap.size,g,cap,rfl,Blk.new _ _ _,HON.out.but ((But.refl [] w2).alloc _) (by simp),by have := HON.out.1; omega,HB2.out.size,HB2.out.alloc HB2.out.size _⟩




def tenT : Tx := [48,49,50,51,52,53,54,55,56,57]
def ten_bytesT (c : UInt8) : Bool := tenT.contains c == digB c
theorem ten_bytes : ((List.range 256).all fun n => ten_bytesT (UInt8.ofNat n)) = true := by kernel_rfl
theorem ten_dig (c : UInt8) : tenT.contains c = digB c := by
 have := byte_all (f := ten_bytesT) ten_bytes c
 unfold ten_bytesT at this
 exact beq_iff_eq.1 this
theorem all_head (t : ByteArray) (h : 0 < t.size) : t.data.toList.all digB = (digB (t[0]'h) && (t.extract 1 t.size).data.toList.all digB) := by
 have e := byte_at t 0 h
 rw [List.drop_zero] at e
 rw [ext_list,e,List.all_cons]; rfl
theorem all_last (t : ByteArray) (n : Nat) (h : n < t.size) (hn : t.size = n + 1) : t.data.toList.all digB = ((t.extract 0 n).data.toList.all digB && digB (t[n]'h)) := by
 have e : t.data.toList = t.data.toList.take n ++ [t[n]'h] := by
  have h1 := byte_at t n h
  have h2 : t.data.toList.drop (n + 1) = [] := List.drop_eq_nil_of_le (by have : t.size = t.data.toList.length := rfl; omega)
  rw [h2] at h1
  conv => lhs; rw [← List.take_append_drop n t.data.toList]
  rw [h1]
 have h3 : (t.extract 0 n).data.toList = t.data.toList.take n := by
  rw [ByteArray.data_extract,Array.toList_extract,List.extract_eq_take_drop]; simp
 rw [h3]
 conv => lhs; rw [e]
 rw [List.all_append]; simp
def LeftP (s : ByteArray) (w : World) (e : Ending) (w' : World) : Prop := ∃ t : ByteArray,e = .returned (.string t) ∧ (t.size = 0 ↔ s.data.toList.all digB = true) ∧ w = w'
def RightP (s : ByteArray) (w : World) (e : Ending) (w' : World) : Prop := ∃ t : ByteArray,e = .returned (.string t) ∧ t.data.toList.all digB = s.data.toList.all digB ∧ t.size ≤ s.size ∧ w = w'
set_option maxHeartbeats 2000000 in
theorem tleft_any (s : ByteArray) (b : Nat) (w : World) (hs : s.size ≤ 1048576) (hset : ∀ x : UInt8,w.cell? ⟨b,x.toNat,none⟩ = some (.bool (digB x))) :
  Calls Tryz.prog 205 #[.string s,.pointer (some ⟨b,0,none⟩)] w (LeftP s w) := by
 have HS := Lib.hid hset
 clear hset
 go_enter Tryz.func205,Tryz.ntmps205
 go_wp2
 go_loop [0] (fun v => ∃ t : ByteArray,v = .string t ∧ t.size ≤ s.size ∧ Hid (t.data.toList.all digB = s.data.toList.all digB)) (fun v => match v with | .string t => t.size | _ => 0)
 case atStart => exact ⟨s,rfl,Nat.le_refl _,Lib.hid rfl⟩
 case round =>
  obtain ⟨t,rfl,hts,HA⟩ := hrel
  by_cases h0 : 0 < t.size
  ·have hh := all_head t h0
   have hset := HS.out (t[0]'h0)
   cases hd : digB (t[0]'h0) with
   | true =>
    rw [hd] at hset hh
    rw [Bool.true_and] at hh
    have HH := Lib.hid (hh.symm.trans HA.out)
    clear hh hd
    go_wp2_with (go_at_call 232; (with_reducible refine (Tryz.asciiSet_contains b (t[0]'h0) true w hset).mono ?_); rintro e w' ⟨rfl,hw⟩; obtain rfl := hw.symm)
    go_round
    case rel => exact ⟨_,rfl,by rw [ByteArray.size_extract]; omega,HH⟩
    case measure => show (t.extract 1 t.size).size < t.size; rw [ByteArray.size_extract]; omega
   | false =>
    rw [hd] at hset hh
    rw [Bool.false_and] at hh
    have HH := Lib.hid (hh.symm.trans HA.out)
    clear hh hd
    go_wp2_with (go_at_call 232; (with_reducible refine (Tryz.asciiSet_contains b (t[0]'h0) false w hset).mono ?_); rintro e w' ⟨rfl,hw⟩; obtain rfl := hw.symm)
    go_ret
    exact ⟨t,rfl,⟨fun h => by omega,fun h => by rw [← HH.out] at h; cases h⟩,rfl⟩
  ·have hz : t.size = 0 := by omega
   have hnil : t.data.toList = [] := List.eq_nil_of_length_eq_zero hz
   have HN := Lib.hid hnil
   have HZ := Lib.hid hz
   clear hnil hz
   go_wp2
   go_ret
   exact ⟨t,rfl,⟨fun _ => by rw [← HA.out,HN.out]; rfl,fun _ => HZ.out⟩,rfl⟩
set_option maxHeartbeats 2000000 in
theorem tright_any (s : ByteArray) (b : Nat) (w : World) (hs : s.size ≤ 1048576) (hset : ∀ x : UInt8,w.cell? ⟨b,x.toNat,none⟩ = some (.bool (digB x))) :
  Calls Tryz.prog 206 #[.string s,.pointer (some ⟨b,0,none⟩)] w (RightP s w) := by
 have HS := Lib.hid hset
 clear hset
 go_enter Tryz.func206,Tryz.ntmps206
 go_wp2
 go_loop [0] (fun v => ∃ t : ByteArray,v = .string t ∧ t.size ≤ s.size ∧ Hid (t.data.toList.all digB = s.data.toList.all digB)) (fun v => match v with | .string t => t.size | _ => 0)
 case atStart => exact ⟨s,rfl,Nat.le_refl _,Lib.hid rfl⟩
 case round =>
  obtain ⟨t,rfl,hts,HA⟩ := hrel
  by_cases h0 : 0 < t.size
  ·obtain ⟨n,hn⟩ : ∃ n,t.size = n + 1 := ⟨t.size - 1,by omega⟩
   have hnt : n < t.size := by omega
   have hh := all_last t n hnt hn
   have hset := HS.out (t[n]'hnt)
   have cw : IntKind.i64.wrap ((t.size : Int) - 1) = (n : Int) := by rw [show (t.size : Int) - 1 = (n : Int) by omega]; exact IntWalk.i64_in _ (by omega)
   have l1 : (0 : Int) < (t.size : Int) := by omega
   have l2 : (n : Int) < (t.size : Int) := by omega
   have l3 : (0 : Int) ≤ (n : Int) := by omega
   have l4 : (n : Int) ≤ (t.size : Int) := by omega
   have HN := Lib.hid hn
   clear hn
   cases hd : digB (t[n]'hnt) with
   | true =>
    rw [hd] at hset hh
    rw [Bool.and_true] at hh
    have HH := Lib.hid (hh.symm.trans HA.out)
    clear hh hd
    go_wp2_with (go_at_call 232; (with_reducible refine (Tryz.asciiSet_contains b (t[n]'hnt) true w hset).mono ?_); rintro e w' ⟨rfl,hw⟩; obtain rfl := hw.symm)
    go_round
    case rel => exact ⟨_,rfl,by rw [ByteArray.size_extract]; have := HN.out; omega,HH⟩
    case measure => show (t.extract 0 n).size < t.size; rw [ByteArray.size_extract]; have := HN.out; omega
   | false =>
    rw [hd] at hset hh
    rw [Bool.and_false] at hh
    clear hd
    go_wp2_with (go_at_call 232; (with_reducible refine (Tryz.asciiSet_contains b (t[n]'hnt) false w hset).mono ?_); rintro e w' ⟨rfl,hw⟩; obtain rfl := hw.symm)
    go_ret
    exact ⟨t,rfl,HA.out,hts,rfl⟩
  ·go_wp2
   go_ret
   exact ⟨t,rfl,HA.out,hts,rfl⟩

def TrimP (s : ByteArray) (w : World) (e : Ending) (w' : World) : Prop := ∃ t : ByteArray,e = .returned (.string t) ∧ (t.size = 0 ↔ s.data.toList.all digB = true) ∧ Below w.heap.size w w'
theorem ten_set : ∃ C : Array Value,Lib.setCells (⟨#[48,49,50,51,52,53,54,55,56,57]⟩ : ByteArray).data.toList = C ∧ C.size = 256 ∧ (∀ x : UInt8,C[x.toNat]? = some (.bool (digB x))) ∧ C.all (·.oneCell') = true :=
 ⟨_,rfl,Lib.setCells_size _,fun x => by rw [Lib.setCells_at,← ten_dig]; rfl,Lib.setCells_one _⟩
theorem not_empty (s : ByteArray) (h : 0 < s.size) : s.toList.isEmpty = false := by
 rw [Lib.toList_data]
 cases h2 : s.data.toList with
 | nil => have : s.size = s.data.toList.length := rfl
          rw [h2,List.length_nil] at this; omega
 | cons _ _ => rfl
theorem is_empty (s : ByteArray) (h : s.size = 0) : s = ⟨#[]⟩ := by
 apply ByteArray.ext
 apply Array.eq_empty_of_size_eq_zero
 exact h
theorem set_zero : ∀ w : World,(zeroValue 228).run Tryz.prog w = .ok (.agg (Array.replicate 256 (.bool false))) w := by
 have h : (Tryz.prog.info? 228).map (·.zero) = some (some (.agg (Array.replicate 256 (.bool false)))) := by kernel_rfl
 intro w
 cases hi : Tryz.prog.info? 228 with
 | none => rw [hi] at h; cases h
 | some i =>
  rw [hi] at h
  simp only [Option.map_some,Option.some.injEq] at h
  simp [zeroValue,typeInfo,hi,h,Result.andThen]
set_option maxHeartbeats 4000000 in
theorem trim_any (s : ByteArray) (w : World) (hs : s.size ≤ 1048576) (h0 : 0 < s.size) :
  Calls Tryz.prog 172 #[.string s,.string ⟨#[48,49,50,51,52,53,54,55,56,57]⟩] w (TrimP s w) := by
 have hM := Tryz.strings_makeASCIISet set_zero (⟨#[48,49,50,51,52,53,54,55,56,57]⟩ : ByteArray) w (by decide) (by
  intro j b hb
  have hm : b ∈ tenT := List.mem_of_getElem? hb
  have := (ten_dig b).symm.trans (List.contains_iff_mem.2 hm)
  exact Nat.lt_of_le_of_lt (dig_le b this).2 (by decide))
 obtain ⟨C,hC,hCs,hCx,hC1⟩ := ten_set
 rw [hC] at hM
 have hne := not_empty s h0
 have hcellAt : ∀ x : UInt8,((w.alloc (.cells C 228)).alloc (.cells C 228)).cell? ⟨w.heap.size + 1,x.toNat,none⟩ = some (.bool (digB x)) := fun x => by
  rw [World.cell?_alloc_at _ _ _ _ (by simp),hCx]
 have hsc : (storeCells ⟨w.heap.size + 1,0,none⟩ C.toList 0).run Tryz.prog ((w.alloc (.cells C 228)).alloc (.cells Tryz.zeroCells228 228)) = .ok () ((w.alloc (.cells C 228)).alloc (.cells C 228)) := by
  have := run_storeCells_new (P := Tryz.prog) (w.alloc (.cells C 228)) 228 Tryz.zeroCells228 C (by rw [hCs]; kernel_rfl) (by rw [hCs]; kernel_rfl) hC1
  simpa using this
 have HM := Lib.hid hM
 have HC := Lib.hid hcellAt
 have HR := Lib.hid (fun w1 hset => tright_any s (w.heap.size + 1) w1 hs hset)
 clear hM hcellAt hCx hC1 hC
 go_enter Tryz.func172,Tryz.ntmps172
 go_wp2_with (go_at_call 204; (with_reducible refine HM.out.mono ?_); rintro e w1 ⟨rfl,hw1⟩; rw [hw1])
 clear hsc HM
 have hR := HR.out _ HC.out
 have hl := fun t hts => tleft_any t (w.heap.size + 1) ((w.alloc (.cells C 228)).alloc (.cells C 228)) hts HC.out
 have HB := Lib.hid (((Below.refl _ w).alloc (Nat.le_refl _) (.cells C 228)).alloc (by simp) (.cells C 228))
 have HRR := Lib.hid hR
 have HL := Lib.hid hl
 clear hR hl HR HC
 refine HRR.out.mono ?_
 rintro e w2 ⟨t,rfl,ht,hts,hw2⟩
 obtain rfl := hw2
 have hl2 := HL.out t (by omega)
 have HT := Lib.hid ht
 clear ht
 go_wp2_with fail
 refine hl2.mono ?_
 rintro e w3 ⟨u,rfl,hu,hw3⟩
 obtain rfl := hw3
 go_wp2
 go_ret
 exact ⟨u,rfl,by rw [hu,HT.out],HB.out⟩
theorem dec_from (l : Tx) : ∀ acc : Nat,l.all digB = true → Lib.decFrom acc l = some (l.foldl (fun n c => 10 * n + (c.toNat - 48)) acc) := by
 induction l with
 | nil => intro acc _; rfl
 | cons c r ih =>
  intro acc h
  rw [List.all_cons,Bool.and_eq_true] at h
  have hd := dig_le c h.1
  have e : Lib.digitVal c = some (c.toNat - 48) := if_pos hd
  rw [List.foldl_cons,← ih _ h.2]
  show (match Lib.digitVal c with | some d => Lib.decFrom (acc * 10 + d) r | none => none) = _
  rw [e,Nat.mul_comm 10 acc]
theorem atoi_val (l : Tx) (hne : l ≠ []) (h : l.all digB = true) : Lib.atoi l = some (valL l : Int) := by
 have hd := dec_from l 0 h
 cases l with
 | nil => exact absurd rfl hne
 | cons c r =>
  have hc : digB c = true := by rw [List.all_cons,Bool.and_eq_true] at h; exact h.1
  have h45 : (c == 45) = false := by rw [beq_eq_false_iff_ne]; rintro rfl; exact absurd hc (by decide)
  have h43 : (c == 43) = false := by rw [beq_eq_false_iff_ne]; rintro rfl; exact absurd hc (by decide)
  show (if (c == 45) = true then _ else if (c == 43) = true then _ else (Lib.decNat (c :: r)).map fun (m : Nat) => (m : Int)) = _
  rw [h45,h43,if_neg (by decide),if_neg (by decide)]
  have e : Lib.decNat (c :: r) = Lib.decFrom 0 (c :: r) := rfl
  rw [e,hd]; rfl
def StrNo (w : World) (e : Ending) (w' : World) : Prop := ∃ t : ByteArray,e = .returned (.string t) ∧ t.toList.isEmpty = false ∧ Below w.heap.size w w'
theorem trim_yes (s : ByteArray) (w : World) (hs : s.size ≤ 1048576) (h0 : 0 < s.size) (h : s.data.toList.all digB = true) :
  Calls Tryz.prog 172 #[.string s,.string ⟨#[48,49,50,51,52,53,54,55,56,57]⟩] w fun e w' => e = .returned (.string ⟨#[]⟩) ∧ Below w.heap.size w w' :=
 (trim_any s w hs h0).mono fun e w' ⟨t,he,ht,hb⟩ => ⟨by rw [he,is_empty t (ht.2 h)],hb⟩
theorem trim_no (s : ByteArray) (w : World) (hs : s.size ≤ 1048576) (h0 : 0 < s.size) (h : s.data.toList.all digB = false) :
  Calls Tryz.prog 172 #[.string s,.string ⟨#[48,49,50,51,52,53,54,55,56,57]⟩] w (StrNo w) :=
 (trim_any s w hs h0).mono fun e w' ⟨t,he,ht,hb⟩ => ⟨t,he,not_empty t (Nat.pos_of_ne_zero fun h2 => by rw [ht.1 h2] at h; cases h),hb⟩
theorem atoi_any (s : ByteArray) (w : World) (h0 : 0 < s.size) (hs : s.size ≤ 9) (h : s.data.toList.all digB = true) :
  Calls Tryz.prog 173 #[.string s] w fun e w' => e = .returned (.tuple #[.int .i64 (valL s.data.toList : Int),.nilIface]) ∧ Below w.heap.size w w' := by
 refine (Tryz.strconv_Atoi s _ (by omega) (atoi_val _ (fun hnil => (by
  have e : s.size = s.data.toList.length := rfl
  rw [hnil,List.length_nil] at e; omega)) h) w).mono fun e w' ⟨he,t,hw⟩ => ⟨he,?_⟩
 rw [hw]
 exact Lib.below_freeze ((Below.drew (Below.refl _ w)).alloc (Nat.le_refl _) _) (p := ⟨w.heap.size,_,none⟩) (Nat.le_refl _) 1

theorem tr_at {w : World} {v : Value} {l : List Tok} (h : TR w v l) : ∃ a cap,v = .slice a l.length cap ∧ (l.length = 0 ∨ ∃ g off,a = some ⟨g,off,none⟩ ∧ l.length ≤ cap ∧ ∀ k (hk : k < l.length),w.cell? ⟨g,off + k * 3,none⟩ = some (.int .i64 l[k].1) ∧ w.cell? ⟨g,off + k * 3 + 1,none⟩ = some (.string l[k].2.1)) := by
 rcases h with ⟨A,cap,rfl,rfl⟩ | ⟨g,off,cap,rfl,hc,hx⟩
 ·exact ⟨_,_,rfl,.inl rfl⟩
 ·refine ⟨_,_,rfl,.inr ⟨g,off,rfl,hc,fun k hk => ?_⟩⟩
  obtain ⟨a,b,c⟩ := hx k l[k] (List.getElem?_eq_getElem hk)
  exact ⟨a,b⟩
theorem isTok_in (k : Int) (ss : List Tx) {l : List Tok} {i : Nat} (hi : i < l.length) : isTok k ss l i = (l[i].1 == k && ss.contains l[i].2.1.toList) := by
 unfold isTok; rw [List.getElem?_eq_getElem hi]
theorem isTok_out (k : Int) (ss : List Tx) {l : List Tok} {i : Nat} (hi : ¬ i < l.length) : isTok k ss l i = false := by
 unfold isTok; rw [List.getElem?_eq_none (by omega)]
theorem partB_in {l : List Tok} {i : Nat} (hi : i < l.length) : partB l i = (l[i].1 == 2 || l[i].1 == 1 && !keysL.contains l[i].2.1.toList) := by
 unfold partB; rw [List.getElem?_eq_getElem hi]
theorem partB_out {l : List Tok} {i : Nat} (hi : ¬ i < l.length) : partB l i = false := by
 unfold partB; rw [List.getElem?_eq_none (by omega)]
theorem one_text (s t : Tx) : [s].contains t = (t == s) := by
 rw [Bool.eq_iff_iff]; simp
theorem bytes_inj {s t : ByteArray} (h : s.toList = t.toList) : s = t := by
 rw [Lib.toList_data,Lib.toList_data] at h
 cases s; cases t; simp only [ByteArray.mk.injEq]; exact Array.toList_inj.1 h
theorem conS (zs : List ByteArray) (x : ByteArray) : Lib.containsS (zs.take zs.length) x = (zs.map (·.toList)).contains x.toList := by
 rw [List.take_length,Bool.eq_iff_iff,Lib.containsS_iff,List.contains_iff_mem,List.mem_map]
 constructor
 ·exact fun h => ⟨x,h,rfl⟩
 ·rintro ⟨y,h,e⟩; rw [← bytes_inj e]; exact h
set_option maxHeartbeats 1000000 in
theorem isSign_any (v : Value) (l : List Tok) (i : Nat) (s : ByteArray) (w : World) (h : TR w v l) (hl : l.length ≤ 1099511627776) :
  Calls Tryz.prog 258 #[v,.int .i64 (i : Int),.string s] w fun e w' => e = .returned (.bool (isTok 5 [s.toList] l i)) ∧ w' = w := by
 obtain ⟨a,cap,rfl,hx⟩ := tr_at h
 clear h
 by_cases hi : i < l.length
 ·rcases hx with h0 | ⟨g,off,rfl,hcap,hx⟩
  ·omega
  ·obtain ⟨x1,x2⟩ := hx i hi
   have l0 : (0 : Int) ≤ (i : Int) := by omega
   have l1 : (i : Int) < (l.length : Int) := by omega
   rw [isTok_in 5 [s.toList] hi,one_text]
   generalize l[i] = t at *
   obtain ⟨kd,tx,ta⟩ := t
   simp only at x1 x2 ⊢
   clear hx hi
   by_cases hk : kd = 5
   ·subst hk
    obtain ⟨c,hc⟩ : ∃ c,(tx.toList == s.toList) = c := ⟨_,rfl⟩
    rw [hc]
    go_enter Tryz.func258,Tryz.ntmps258
    go_wp2
    go_ret
    exact ⟨rfl,rfl⟩
   ·have hk2 : (kd == (5 : Int)) = false := by rw [beq_eq_false_iff_ne]; exact hk
    rw [hk2]
    clear hk
    go_enter Tryz.func258,Tryz.ntmps258
    go_wp2
    go_ret
    exact ⟨rfl,rfl⟩
 ·have l1 : ¬ ((i : Int) < (l.length : Int)) := by omega
  rw [isTok_out 5 _ hi]
  clear hx hi
  go_enter Tryz.func258,Tryz.ntmps258
  go_wp2
  go_ret
  exact ⟨rfl,rfl⟩
set_option maxHeartbeats 1000000 in
theorem isWord_any (v : Value) (l : List Tok) (i b off cap : Nat) (zs : List ByteArray) (w : World) (h : TR w v l) (hl : l.length ≤ 1099511627776) (hzl : zs.length ≤ 100)
  (hc : ∀ j,j < zs.length → w.cell? ⟨b,off + j,none⟩ = some (.string (zs.getD j ByteArray.empty))) :
  Calls Tryz.prog 254 #[v,.int .i64 (i : Int),.slice (some ⟨b,off,none⟩) zs.length cap] w fun e w' => e = .returned (.bool (isTok 1 (zs.map (·.toList)) l i)) ∧ w' = w := by
 obtain ⟨a,ca,rfl,hx⟩ := tr_at h
 have hk := fun x => Tryz.slices_Contains_string b off zs.length cap zs x w (Nat.le_refl _) (by omega) hc
 simp only [conS] at hk
 have HK := Lib.hid hk
 clear h hc hk
 have l0 : (0 : Int) ≤ (i : Int) := by omega
 by_cases hi : i < l.length
 ·rcases hx with h0 | ⟨g,off2,rfl,hcap,hx⟩
  ·omega
  ·obtain ⟨x1,x2⟩ := hx i hi
   have l1 : (i : Int) < (l.length : Int) := by omega
   rw [isTok_in 1 _ hi]
   generalize l[i] = t at *
   obtain ⟨kd,tx,ta⟩ := t
   simp only at x1 x2 ⊢
   clear hx hi
   by_cases hk : kd = 1
   ·subst hk
    obtain ⟨c,hc⟩ : ∃ c,(zs.map (·.toList)).contains tx.toList = c := ⟨_,rfl⟩
    have hk2 := HK.out tx
    rw [hc] at hk2 ⊢
    have HK2 := Lib.hid hk2
    clear HK hk2 hc
    go_enter Tryz.func254,Tryz.ntmps254
    go_wp2_with (go_at_call 171; (with_reducible refine HK2.out.mono ?_); rintro e w2 ⟨rfl,rfl⟩)
    go_ret
    exact ⟨rfl,rfl⟩
   ·have hk2 : (kd == (1 : Int)) = false := by rw [beq_eq_false_iff_ne]; exact hk
    rw [hk2]
    clear hk HK
    go_enter Tryz.func254,Tryz.ntmps254
    go_wp2
    go_ret
    exact ⟨rfl,rfl⟩
 ·have l1 : ¬ ((i : Int) < (l.length : Int)) := by omega
  rw [isTok_out 1 _ hi]
  clear hx hi HK
  go_enter Tryz.func254,Tryz.ntmps254
  go_wp2
  go_ret
  exact ⟨rfl,rfl⟩
theorem isWord_neg (v ws : Value) (w : World) :
  Calls Tryz.prog 254 #[v,.int .i64 (-1),ws] w fun e w' => e = .returned (.bool false) ∧ w' = w := by
 go_enter Tryz.func254,Tryz.ntmps254
 go_wp2
 go_ret
 exact ⟨rfl,rfl⟩

def KeyP (s : ByteArray) (w : World) (e : Ending) (w' : World) : Prop := e = .returned (.bool (keysL.contains s.toList)) ∧ w' = w
theorem key_yes {s k : Tx} (h : (s == k) = true) (hk : keysL.contains k = true) : keysL.contains s = true := by rw [beq_iff_eq.1 h]; exact hk
set_option maxHeartbeats 4000000 in
theorem isKeyWord_any (s : ByteArray) (w : World) :
  Calls Tryz.prog 289 #[.string s] w (KeyP s w) := by
 go_enter Tryz.func289,Tryz.ntmps289
 go_wp2
 all_goals (go_ret; refine ⟨?_,rfl⟩)
 all_goals first
  | (exfalso; simp_all only [Bool.true_eq_false,Bool.false_eq_true]; done)
  | (rw [show keysL.contains s.toList = true from key_yes (by assumption) (by decide)]; rfl)
  | (have h : keysL.contains s.toList = false := by
       simp only [keysL,List.contains_cons,List.contains_nil,Bool.or_false,Bool.or_eq_false_iff]
       repeat' apply And.intro
       all_goals assumption
     rw [h]; rfl)
end Go.Proofs.YtgdabkpahmlkpaaGreatDoor
