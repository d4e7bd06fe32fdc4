/- Tea Teb -/
import Derived.Test.YtjmmninopagpjaaGreatDoorG16
import Derived.Test.YtjmmninopagpjaaGreatDoorG15
import Derived.Test.YtjmmninopagpjaaGreatDoorG17
import Derived.Test.YtjmmninopagpjaaGreatDoorG18
import Derived.Lib.ItoaMem
import Derived.KernelRfl
import Derived.Test.YtjmmninopagpjaaGreatDoorG21
import Derived.Test.YtjmmninopagpjaaGreatDoorG1
set_option linter.unusedSimpArgs false
set_option linter.unusedVariables false
namespace Go.Proofs.YtjmmninopagpjaaGreatDoor
open Go.ChangeShapes Go.WideShapes Go.ChangeAt Go.RowKit
set_option maxRecDepth 100000
set_option linter.unusedVariables false
set_option linter.unusedSimpArgs false

abbrev Cm : Type := Int × ByteArray × Int × Int × Bool
def cmdZ : Cm := (0,⟨#[]⟩,0,0,false)
def kwB (s : ByteArray) : Bool := keysL.contains s.data.toList
def fourL : List Tx := [[105,110,115,101,114,116],[117,112,100,97,116,101],[100,101,108,101,116,101],[109,101,114,103,101]]
def selfB (s : ByteArray) : Bool := match (scanA s).1 with | [t] => t.1 == 1 && t.2.1.data.toList == s.data.toList | _ => false
def nameB (s : ByteArray) : Bool := decide (s.size ≤ 30) && selfB s && !kwB s && !fourL.contains s.data.toList
def tabB (t : Tok) : Bool := t.1 == 1 && nameB t.2.1
def numO (t : Tok) : Option Nat := if t.1 = 4 ∧ t.2.1.size ≤ 6 ∧ t.2.1.size ≠ 0 ∧ t.2.1.data.toList.all digB = true then some (valL t.2.1.data.toList) else none
def inN (n : Int) : Bool := decide (0 ≤ n ∧ n ≤ 999999)
def takeC (c : Cm) (p t : Tok) : Cm × Bool :=
 if p.2.1.data.toList = [36,49] then ((c.1,t.2.1,c.2.2.1,c.2.2.2.1,c.2.2.2.2),tabB t)
 else if p.2.1.data.toList = [36,50] then ((c.1,c.2.1,((numO t).getD 0 : Nat),c.2.2.2.1,c.2.2.2.2),(numO t).isSome)
 else if p.2.1.data.toList = [36,51] then ((c.1,c.2.1,c.2.2.1,((numO t).getD 0 : Nat),c.2.2.2.2),(numO t).isSome)
 else (c,t.1 == p.1 && t.2.1.data.toList == p.2.1.data.toList)
def readFrom : Cm → List Tok → List Tok → Cm × Bool
 | c,p :: ps,t :: ts => if (takeC c p t).2 = true then readFrom (takeC c p t).1 ps ts else (cmdZ,false)
 | c,_,_ => (c,true)
abbrev Fm : Type := Int × Bool × ByteArray
def formsC : List Fm := [(1,false,⟨#[115,101,108,101,99,116,32,42,32,102,114,111,109,32,36,49]⟩),(1,true,⟨#[115,101,108,101,99,116,32,42,32,102,114,111,109,32,36,49,32,119,104,101,114,101,32,107,32,61,32,36,50]⟩),(2,true,⟨#[105,110,115,101,114,116,32,105,110,116,111,32,36,49,32,118,97,108,117,101,115,32,40,32,36,50,32,44,32,36,51,32,41]⟩),(3,true,⟨#[117,112,100,97,116,101,32,36,49,32,115,101,116,32,118,32,61,32,118,32,43,32,49,32,119,104,101,114,101,32,107,32,61,32,36,50]⟩),(4,false,⟨#[100,101,108,101,116,101,32,102,114,111,109,32,36,49]⟩),(4,true,⟨#[100,101,108,101,116,101,32,102,114,111,109,32,36,49,32,119,104,101,114,101,32,107,32,61,32,36,50]⟩),(5,false,⟨#[99,114,101,97,116,101,32,116,97,98,108,101,32,36,49]⟩)]
def partsC (f : Fm) : List Tok := (scanA f.2.2).1
def readC (f : Fm) (l : List Tok) : Cm × Bool := if l.length = (partsC f).length then readFrom (f.1,⟨#[]⟩,0,0,f.2.1) (partsC f) l else (cmdZ,false)
def fillC (f : Fm) (c : Cm) : Tx := replC c.2.1.data.toList (Lib.itoa c.2.2.1) (Lib.itoa c.2.2.2.1) f.2.2.data.toList
def textF : List Fm → Cm → Tx
 | [],_ => []
 | f :: r,c => if f.1 = c.1 ∧ f.2.1 = c.2.2.2.2 ∧ readC f (scanA (bb (fillC f c))).1 = (c,true) then fillC f c else textF r c
def textC (c : Cm) : Tx := textF formsC c
def okC (c : Cm) : Bool := nameB c.2.1 && inN c.2.2.1 && inN c.2.2.2.1 && (c.2.2.2.2 || c.2.2.1 == 0) && (c.1 == 2 || c.2.2.2.1 == 0)
def digT (n : Int) : Tx := Lib.itoa n
def textR (c : Cm) : Tx :=
 if okC c = false then [] else
 if c.1 = 1 then [115,101,108,101,99,116,32,42,32,102,114,111,109,32] ++ c.2.1.data.toList ++ (if c.2.2.2.2 = true then [32,119,104,101,114,101,32,107,32,61,32] ++ digT c.2.2.1 else [])
 else if c.1 = 2 then (if c.2.2.2.2 = true then [105,110,115,101,114,116,32,105,110,116,111,32] ++ c.2.1.data.toList ++ [32,118,97,108,117,101,115,32,40,32] ++ digT c.2.2.1 ++ [32,44,32] ++ digT c.2.2.2.1 ++ [32,41] else [])
 else if c.1 = 3 then (if c.2.2.2.2 = true then [117,112,100,97,116,101,32] ++ c.2.1.data.toList ++ [32,115,101,116,32,118,32,61,32,118,32,43,32,49] ++ [32,119,104,101,114,101,32,107,32,61,32] ++ digT c.2.2.1 else [])
 else if c.1 = 4 then [100,101,108,101,116,101,32,102,114,111,109,32] ++ c.2.1.data.toList ++ (if c.2.2.2.2 = true then [32,119,104,101,114,101,32,107,32,61,32] ++ digT c.2.2.1 else [])
 else if c.1 = 5 then (if c.2.2.2.2 = true then [] else [99,114,101,97,116,101,32,116,97,98,108,101,32] ++ c.2.1.data.toList)
 else []
def part1 : List Tok := [(1,⟨#[115,101,108,101,99,116]⟩,0),(5,⟨#[42]⟩,7),(1,⟨#[102,114,111,109]⟩,9),(5,⟨#[36,49]⟩,14)]
def part2 : List Tok := part1 ++ [(1,⟨#[119,104,101,114,101]⟩,17),(1,⟨#[107]⟩,23),(5,⟨#[61]⟩,25),(5,⟨#[36,50]⟩,27)]
def part3 : List Tok := [(1,⟨#[105,110,115,101,114,116]⟩,0),(1,⟨#[105,110,116,111]⟩,7),(5,⟨#[36,49]⟩,12),(1,⟨#[118,97,108,117,101,115]⟩,15),(5,⟨#[40]⟩,22),(5,⟨#[36,50]⟩,24),(5,⟨#[44]⟩,27),(5,⟨#[36,51]⟩,29),(5,⟨#[41]⟩,32)]
def part4 : List Tok := [(1,⟨#[117,112,100,97,116,101]⟩,0),(5,⟨#[36,49]⟩,7),(1,⟨#[115,101,116]⟩,10),(1,⟨#[118]⟩,14),(5,⟨#[61]⟩,16),(1,⟨#[118]⟩,18),(5,⟨#[43]⟩,20),(4,⟨#[49]⟩,22),(1,⟨#[119,104,101,114,101]⟩,24),(1,⟨#[107]⟩,30),(5,⟨#[61]⟩,32),(5,⟨#[36,50]⟩,34)]
def part5 : List Tok := [(1,⟨#[100,101,108,101,116,101]⟩,0),(1,⟨#[102,114,111,109]⟩,7),(5,⟨#[36,49]⟩,12)]
def part6 : List Tok := part5 ++ [(1,⟨#[119,104,101,114,101]⟩,15),(1,⟨#[107]⟩,21),(5,⟨#[61]⟩,23),(5,⟨#[36,50]⟩,25)]
def part7 : List Tok := [(1,⟨#[99,114,101,97,116,101]⟩,0),(1,⟨#[116,97,98,108,101]⟩,7),(5,⟨#[36,49]⟩,13)]
theorem scan1 : scanA ⟨#[115,101,108,101,99,116,32,42,32,102,114,111,109,32,36,49]⟩ = (part1,0,0) := by kernel_rfl
theorem scan2 : scanA ⟨#[115,101,108,101,99,116,32,42,32,102,114,111,109,32,36,49,32,119,104,101,114,101,32,107,32,61,32,36,50]⟩ = (part2,0,0) := by kernel_rfl
theorem scan3 : scanA ⟨#[105,110,115,101,114,116,32,105,110,116,111,32,36,49,32,118,97,108,117,101,115,32,40,32,36,50,32,44,32,36,51,32,41]⟩ = (part3,0,0) := by kernel_rfl
theorem scan4 : scanA ⟨#[117,112,100,97,116,101,32,36,49,32,115,101,116,32,118,32,61,32,118,32,43,32,49,32,119,104,101,114,101,32,107,32,61,32,36,50]⟩ = (part4,0,0) := by kernel_rfl
theorem scan5 : scanA ⟨#[100,101,108,101,116,101,32,102,114,111,109,32,36,49]⟩ = (part5,0,0) := by kernel_rfl
theorem scan6 : scanA ⟨#[100,101,108,101,116,101,32,102,114,111,109,32,36,49,32,119,104,101,114,101,32,107,32,61,32,36,50]⟩ = (part6,0,0) := by kernel_rfl
theorem scan7 : scanA ⟨#[99,114,101,97,116,101,32,116,97,98,108,101,32,36,49]⟩ = (part7,0,0) := by kernel_rfl
def formsP : List (Int × Bool × ByteArray × List Tok) := [(1,false,⟨#[115,101,108,101,99,116,32,42,32,102,114,111,109,32,36,49]⟩,part1),(1,true,⟨#[115,101,108,101,99,116,32,42,32,102,114,111,109,32,36,49,32,119,104,101,114,101,32,107,32,61,32,36,50]⟩,part2),(2,true,⟨#[105,110,115,101,114,116,32,105,110,116,111,32,36,49,32,118,97,108,117,101,115,32,40,32,36,50,32,44,32,36,51,32,41]⟩,part3),(3,true,⟨#[117,112,100,97,116,101,32,36,49,32,115,101,116,32,118,32,61,32,118,32,43,32,49,32,119,104,101,114,101,32,107,32,61,32,36,50]⟩,part4),(4,false,⟨#[100,101,108,101,116,101,32,102,114,111,109,32,36,49]⟩,part5),(4,true,⟨#[100,101,108,101,116,101,32,102,114,111,109,32,36,49,32,119,104,101,114,101,32,107,32,61,32,36,50]⟩,part6),(5,false,⟨#[99,114,101,97,116,101,32,116,97,98,108,101,32,36,49]⟩,part7)]
theorem forms_parts : ∀ f ∈ formsC,∃ q ∈ formsP,f = (q.1,q.2.1,q.2.2.1) ∧ partsC f = q.2.2.2 := by
 intro f hf
 simp only [formsC,List.mem_cons,List.not_mem_nil,or_false] at hf
 rcases hf with rfl | rfl | rfl | rfl | rfl | rfl | rfl
 ·exact ⟨_,List.mem_cons_self,rfl,by unfold partsC; rw [scan1]⟩
 ·exact ⟨_,List.mem_cons_of_mem _ List.mem_cons_self,rfl,by unfold partsC; rw [scan2]⟩
 ·exact ⟨_,List.mem_cons_of_mem _ (List.mem_cons_of_mem _ List.mem_cons_self),rfl,by unfold partsC; rw [scan3]⟩
 ·exact ⟨_,List.mem_cons_of_mem _ (List.mem_cons_of_mem _ (List.mem_cons_of_mem _ List.mem_cons_self)),rfl,by unfold partsC; rw [scan4]⟩
 ·exact ⟨_,List.mem_cons_of_mem _ (List.mem_cons_of_mem _ (List.mem_cons_of_mem _ (List.mem_cons_of_mem _ List.mem_cons_self))),rfl,by unfold partsC; rw [scan5]⟩
 ·exact ⟨_,List.mem_cons_of_mem _ (List.mem_cons_of_mem _ (List.mem_cons_of_mem _ (List.mem_cons_of_mem _ (List.mem_cons_of_mem _ List.mem_cons_self)))),rfl,by unfold partsC; rw [scan6]⟩
 ·exact ⟨_,List.mem_cons_of_mem _ (List.mem_cons_of_mem _ (List.mem_cons_of_mem _ (List.mem_cons_of_mem _ (List.mem_cons_of_mem _ (List.mem_cons_of_mem _ List.mem_cons_self))))),rfl,by unfold partsC; rw [scan7]⟩
theorem dig_of (i : Nat) (h : i < 10) : digB (UInt8.ofNat (48 + i)) = true ∧ numB (UInt8.ofNat (48 + i)) = true ∧ (UInt8.ofNat (48 + i)).toNat = 48 + i := by
 have : ((List.range 10).all fun i => digB (UInt8.ofNat (48 + i)) && numB (UInt8.ofNat (48 + i)) && decide ((UInt8.ofNat (48 + i)).toNat = 48 + i)) = true := by kernel_rfl
 have := List.all_eq_true.1 this i (List.mem_range.2 h)
 simp only [Bool.and_eq_true,decide_eq_true_eq] at this
 exact ⟨this.1.1,this.1.2,this.2⟩
theorem dec_all (u : Nat) : (Lib.decDigits u).all digB = true ∧ (Lib.decDigits u).all numB = true ∧ valL (Lib.decDigits u) = u ∧ Lib.decDigits u ≠ [] := by
 induction u using Nat.strongRecOn with
 | ind u ih =>
  rw [Lib.decDigits]
  split
  ·rename_i h
   obtain ⟨h1,h2,h3⟩ := dig_of u h
   refine ⟨by rw [List.all_cons,h1]; rfl,by rw [List.all_cons,h2]; rfl,?_,by simp⟩
   show 10 * 0 + ((UInt8.ofNat (48 + u)).toNat - 48) = u
   rw [h3]; omega
  ·rename_i h
   obtain ⟨i1,i2,i3,i4⟩ := ih (u / 10) (by omega)
   obtain ⟨h1,h2,h3⟩ := dig_of (u % 10) (by omega)
   refine ⟨by rw [List.all_append,i1,List.all_cons,h1]; rfl,by rw [List.all_append,i2,List.all_cons,h2]; rfl,?_,by simp⟩
   rw [val_snoc,i3,h3]; omega
theorem dec_len (u k : Nat) (hk : 1 ≤ k) (h : u < 10 ^ k) : (Lib.decDigits u).length ≤ k := by
 induction k using Nat.strongRecOn generalizing u with
 | ind k ih =>
  rw [Lib.decDigits]
  split
  ·simpa using hk
  ·rename_i h10
   have h2 : 2 ≤ k := by
    rcases Nat.lt_or_ge k 2 with hl | hl
    ·have : k = 1 := by omega
     subst this; simp at h; omega
    ·exact hl
   have e : 10 ^ k = 10 ^ (k - 1) * 10 := by rw [← Nat.pow_succ]; congr 1; omega
   have := ih (k - 1) (by omega) (u / 10) (by omega) (by rw [e] at h; omega)
   rw [List.length_append,List.length_singleton]; omega
theorem itoa_in (n : Int) (h : inN n = true) : ∃ (c : UInt8) (r : Tx),Lib.itoa n = c :: r ∧ digB c = true ∧ (∀ d ∈ Lib.itoa n,numB d = true) ∧ (∀ p : Int,numO (4,bb (Lib.itoa n),p) = some n.toNat) ∧ (Lib.itoa n).length ≤ 6 := by
 obtain ⟨h0,h1⟩ := of_decide_eq_true h
 obtain ⟨u,rfl⟩ : ∃ u : Nat,n = u := ⟨n.toNat,by omega⟩
 rw [Lib.itoa_nonneg]
 obtain ⟨i1,i2,i3,i4⟩ := dec_all u
 have hl := dec_len u 6 (by omega) (by omega)
 cases hd : Lib.decDigits u with
 | nil => exact absurd hd i4
 | cons c r =>
  rw [hd] at i1 i2 i3 hl
  refine ⟨c,r,rfl,by rw [List.all_cons,Bool.and_eq_true] at i1; exact i1.1,fun d hd2 => List.all_eq_true.1 i2 d hd2,fun p => ?_,hl⟩
  have hs : (bb (c :: r)).size = (c :: r).length := bb_size _
  have hc : (4 : Int) = 4 ∧ (bb (c :: r)).size ≤ 6 ∧ (bb (c :: r)).size ≠ 0 ∧ (bb (c :: r)).data.toList.all digB = true := ⟨rfl,by rw [hs]; exact hl,by rw [hs]; simp,by rw [bb_list]; exact i1⟩
  show (if (4 : Int) = 4 ∧ (bb (c :: r)).size ≤ 6 ∧ (bb (c :: r)).size ≠ 0 ∧ (bb (c :: r)).data.toList.all digB = true then some (valL (bb (c :: r)).data.toList) else none) = _
  rw [if_pos hc,bb_list,i3]; rfl
theorem numO_in (t : Tok) (n : Nat) (h : numO t = some n) : inN (n : Int) = true := by
 unfold numO at h
 split at h
 ·rename_i hc
  injection h with h
  have hl : t.2.1.data.toList.length ≤ 6 := hc.2.1
  have := val_fold t.2.1.data.toList 0 hc.2.2.2
  have h2 : 10 ^ t.2.1.data.toList.length ≤ 10 ^ 6 := Nat.pow_le_pow_right (by decide) hl
  have h3 : valL t.2.1.data.toList < 1000000 := by unfold valL; omega
  exact decide_eq_true ⟨by omega,by omega⟩
 ·cases h

theorem take_same (c : Cm) (p t u : Tok) (h1 : t.1 = u.1) (h2 : t.2.1 = u.2.1) : takeC c p t = takeC c p u := by
 obtain ⟨a,b,x⟩ := t; obtain ⟨a',b',y⟩ := u
 cases h1; cases h2; rfl
theorem alike_inv {x y : Tok} {l m : List Tok} (h : Alike false (x :: l) (y :: m)) : x.1 = y.1 ∧ x.2.1 = y.2.1 ∧ Alike false l m := by
 obtain ⟨h1,h2⟩ := h
 obtain ⟨a,b,_⟩ := h2 0 x y rfl rfl
 refine ⟨a,b,by simpa using h1,fun i u v hu hv => ?_⟩
 obtain ⟨c,d,_⟩ := h2 (i + 1) u v (by simpa using hu) (by simpa using hv)
 exact ⟨c,d,fun h => by cases h⟩
theorem from_same : ∀ (ps l m : List Tok) (c : Cm),Alike false l m → readFrom c ps l = readFrom c ps m := by
 intro ps
 induction ps with
 | nil => intro l m c _; rfl
 | cons p ps ih =>
  intro l m c h
  match l,m,h with
  | [],[],_ => rfl
  | [],y :: m,h => exact absurd h.1 (by simp)
  | x :: l,[],h => exact absurd h.1 (by simp)
  | x :: l,y :: m,h =>
   obtain ⟨h1,h2,h3⟩ := alike_inv h
   rw [readFrom,readFrom,take_same c p x y h1 h2,ih l m _ h3]
theorem read_same (f : Fm) (l m : List Tok) (h : Alike false l m) : readC f l = readC f m := by
 unfold readC
 rw [h.1,from_same _ l m _ h]
def fillTok (c : Cm) (p : Tok) : Tok :=
 if p.2.1.data.toList = [36,49] then (1,c.2.1,0)
 else if p.2.1.data.toList = [36,50] then (4,bb (Lib.itoa c.2.2.1),0)
 else if p.2.1.data.toList = [36,51] then (4,bb (Lib.itoa c.2.2.2.1),0)
 else (p.1,p.2.1,0)
def hT (ps : List Tok) : Bool := ps.any fun p => p.2.1.data.toList == [36,49]
def hK (ps : List Tok) : Bool := ps.any fun p => p.2.1.data.toList == [36,50]
def hV (ps : List Tok) : Bool := ps.any fun p => p.2.1.data.toList == [36,51]
theorem hT_cons (p : Tok) (ps : List Tok) : hT (p :: ps) = ((p.2.1.data.toList == [36,49]) || hT ps) := rfl
theorem hK_cons (p : Tok) (ps : List Tok) : hK (p :: ps) = ((p.2.1.data.toList == [36,50]) || hK ps) := rfl
theorem hV_cons (p : Tok) (ps : List Tok) : hV (p :: ps) = ((p.2.1.data.toList == [36,51]) || hV ps) := rfl
theorem flags : ∀ q ∈ formsP,hT q.2.2.2 = true ∧ hK q.2.2.2 = q.2.1 ∧ hV q.2.2.2 = (q.1 == 2) ∧ q.2.2.2.length ≤ 12 := by
 have h : (formsP.all fun q => hT q.2.2.2 && (hK q.2.2.2 == q.2.1) && (hV q.2.2.2 == (q.1 == 2)) && decide (q.2.2.2.length ≤ 12)) = true := by kernel_rfl
 intro q hq
 have := List.all_eq_true.1 h q hq
 simp only [Bool.and_eq_true,beq_iff_eq,decide_eq_true_eq] at this
 exact ⟨this.1.1.1,this.1.1.2,this.1.2,this.2⟩
theorem fill_show : ∀ q ∈ formsP,∀ c : Cm,fillC (q.1,q.2.1,q.2.2.1) c = showL (q.2.2.2.map (fillTok c)) := by
 rintro q hq ⟨k,T,K,V,b⟩
 simp only [formsP,List.mem_cons,List.not_mem_nil,or_false] at hq
 rcases hq with rfl | rfl | rfl | rfl | rfl | rfl | rfl <;>
  simp [fillC,replC,part1,part2,part3,part4,part5,part6,part7,fillTok,showL,tailL,shownL]
def goodLit (t : Tok) : Bool := match t.2.1.data.toList with
 | [] => false
 | c :: r => (t.1 == 1 && letB c && (c :: r).all wordB && (c :: r).all fun d => lowB d == d) || (t.1 == 4 && digB c && (c :: r).all numB) || (t.1 == 5 && r.isEmpty && decide (0 ≤ signI c))
theorem good_lit (t : Tok) (h : goodLit t = true) : Good t.1 t.2.1 := by
 obtain ⟨k,s,p⟩ := t
 have e : s = bb s.data.toList := by apply ByteArray.ext; simp
 show Good k s
 rw [e]
 unfold goodLit at h
 simp only at h
 split at h
 ·cases h
 ·rename_i c r hs
  rw [hs]
  simp only [Bool.or_eq_true,Bool.and_eq_true,beq_iff_eq,decide_eq_true_eq,List.isEmpty_iff] at h
  rcases h with (⟨⟨⟨rfl,h1⟩,h2⟩,h3⟩ | ⟨⟨rfl,h1⟩,h2⟩) | ⟨⟨rfl,rfl⟩,h1⟩
  ·exact good_word (c :: r) c r rfl h1 (List.all_eq_true.1 h2) (fun d hd => by have := List.all_eq_true.1 h3 d hd; simpa using this)
  ·exact good_num (c :: r) c r rfl h1 (List.all_eq_true.1 h2)
  ·exact good_sign c h1
theorem parts_good : ∀ q ∈ formsP,∀ p ∈ q.2.2.2,goodLit (p.1,p.2.1,0) = true ∨ p.2.1.data.toList = [36,49] ∨ p.2.1.data.toList = [36,50] ∨ p.2.1.data.toList = [36,51] := by
 have h : (formsP.all fun q => q.2.2.2.all fun p => goodLit (p.1,p.2.1,0) || p.2.1.data.toList == [36,49] || p.2.1.data.toList == [36,50] || p.2.1.data.toList == [36,51]) = true := by kernel_rfl
 intro q hq p hp
 have := List.all_eq_true.1 (List.all_eq_true.1 h q hq) p hp
 simp only [Bool.or_eq_true,beq_iff_eq,or_assoc] at this
 exact this
theorem self_scan (s : ByteArray) (h : selfB s = true) : ∃ p,(scanA s).1 = [(1,s,p)] := by
 unfold selfB at h
 split at h
 ·rename_i t ht
  obtain ⟨k,u,p⟩ := t
  simp only [Bool.and_eq_true,beq_iff_eq] at h
  obtain ⟨rfl,h2⟩ := h
  have : u = s := by apply ByteArray.ext; exact Array.ext' h2
  exact ⟨p,by rw [ht,this]⟩
 ·cases h
theorem name_facts (s : ByteArray) (h : nameB s = true) : s.size ≤ 30 ∧ (∃ p,(scanA s).1 = [(1,s,p)]) ∧ kwB s = false ∧ fourL.contains s.data.toList = false := by
 unfold nameB at h
 simp only [Bool.and_eq_true,decide_eq_true_eq,Bool.not_eq_true'] at h
 exact ⟨h.1.1.1,self_scan s h.1.1.2,h.1.2,h.2⟩
theorem name_good (s : ByteArray) (h : nameB s = true) : Good 1 s := by
 obtain ⟨h1,⟨p,h2⟩,_⟩ := name_facts s h
 have hb : ¬ 2000 < s.size := by omega
 rw [scanA_F s (by omega)] at h2
 exact scan_all_good s 0 [] (Nat.zero_le _) (fun t ht => by cases ht) (1,s,p) (by rw [h2]; simp)
theorem num_good (n : Int) (h : inN n = true) : Good 4 (bb (Lib.itoa n)) := by
 obtain ⟨c,r,h1,h2,h3,_⟩ := itoa_in n h
 exact good_num (Lib.itoa n) c r h1 h2 h3
def okP (c : Cm) : Prop := nameB c.2.1 = true ∧ inN c.2.2.1 = true ∧ inN c.2.2.2.1 = true
theorem fill_good : ∀ q ∈ formsP,∀ c : Cm,okP c → ∀ t ∈ q.2.2.2.map (fillTok c),Good t.1 t.2.1 ∧ t.2.1.size ≤ 30 := by
 intro q hq c hc t ht
 obtain ⟨p,hp,rfl⟩ := List.mem_map.1 ht
 unfold fillTok
 split
 ·exact ⟨name_good _ hc.1,(name_facts _ hc.1).1⟩
 ·split
  ·refine ⟨num_good _ hc.2.1,?_⟩
   obtain ⟨_,_,_,_,_,_,h6⟩ := itoa_in _ hc.2.1
   show (bb (Lib.itoa c.2.2.1)).size ≤ 30
   rw [bb_size]; omega
  ·split
   ·refine ⟨num_good _ hc.2.2,?_⟩
    obtain ⟨_,_,_,_,_,_,h6⟩ := itoa_in _ hc.2.2
    show (bb (Lib.itoa c.2.2.2.1)).size ≤ 30
    rw [bb_size]; omega
   ·rename_i n1 n2 n3
    refine ⟨good_lit (p.1,p.2.1,0) ((parts_good q hq p hp).resolve_right (by rintro (h | h | h) <;> contradiction)),?_⟩
    have h : (formsP.all fun q => q.2.2.2.all fun p => decide (p.2.1.size ≤ 30)) = true := by kernel_rfl
    exact of_decide_eq_true (List.all_eq_true.1 (List.all_eq_true.1 h q hq) p hp)
theorem fill_scan : ∀ q ∈ formsP,∀ c : Cm,okP c → ∃ m,scanA (bb (fillC (q.1,q.2.1,q.2.2.1) c)) = (m,0,0) ∧ Alike false (q.2.2.2.map (fillTok c)) m := by
 intro q hq c hc
 have hg := fill_good q hq c hc
 have hsz := show_size _ 30 fun t ht => (hg t ht).2
 rw [List.length_map] at hsz
 have h12 := (flags q hq).2.2.2
 rw [fill_show q hq c,scanA_F _ (by rw [bb_size]; omega)]
 exact back _ fun t ht => (hg t ht).1
theorem from_fill (c : Cm) (hc : okP c) : ∀ (ps : List Tok) (c0 : Cm),readFrom c0 ps (ps.map (fillTok c)) = ((c0.1,(if hT ps = true then c.2.1 else c0.2.1),(if hK ps = true then c.2.2.1 else c0.2.2.1),(if hV ps = true then c.2.2.2.1 else c0.2.2.2.1),c0.2.2.2.2),true) := by
 obtain ⟨hn,hk,hv⟩ := hc
 obtain ⟨_,_,_,_,_,k5,_⟩ := itoa_in _ hk
 obtain ⟨_,_,_,_,_,v5,_⟩ := itoa_in _ hv
 have k0 := (of_decide_eq_true hk).1
 have v0 := (of_decide_eq_true hv).1
 intro ps
 induction ps with
 | nil => rintro ⟨a,b,d,e,f⟩; simp [readFrom,hT,hK,hV]
 | cons p ps ih =>
  rintro ⟨a,b,d,e,f⟩
  rw [List.map_cons,readFrom]
  by_cases h1 : p.2.1.data.toList = [36,49]
  ·have e2 : takeC (a,b,d,e,f) p (fillTok c p) = ((a,c.2.1,d,e,f),true) := by
    unfold takeC fillTok; rw [if_pos h1,if_pos h1]; simp [tabB,hn]
   rw [e2,if_pos rfl,ih]
   have b1 : (p.2.1.data.toList == [36,49]) = true := by rw [h1]; rfl
   have b2 : (p.2.1.data.toList == [36,50]) = false := by rw [h1]; rfl
   have b3 : (p.2.1.data.toList == [36,51]) = false := by rw [h1]; rfl
   rw [hT_cons,hK_cons,hV_cons,b1,b2,b3]; cases hT ps <;> cases hK ps <;> cases hV ps <;> rfl
  ·by_cases h2 : p.2.1.data.toList = [36,50]
   ·have e2 : takeC (a,b,d,e,f) p (fillTok c p) = ((a,b,c.2.2.1,e,f),true) := by
     unfold takeC fillTok; rw [if_neg h1,if_neg h1,if_pos h2,if_pos h2,k5]; simp; omega
    rw [e2,if_pos rfl,ih]
    have b1 : (p.2.1.data.toList == [36,49]) = false := by rw [h2]; rfl
    have b2 : (p.2.1.data.toList == [36,50]) = true := by rw [h2]; rfl
    have b3 : (p.2.1.data.toList == [36,51]) = false := by rw [h2]; rfl
    rw [hT_cons,hK_cons,hV_cons,b1,b2,b3]; cases hT ps <;> cases hK ps <;> cases hV ps <;> rfl
   ·by_cases h3 : p.2.1.data.toList = [36,51]
    ·have e2 : takeC (a,b,d,e,f) p (fillTok c p) = ((a,b,d,c.2.2.2.1,f),true) := by
      unfold takeC fillTok; rw [if_neg h1,if_neg h1,if_neg h2,if_neg h2,if_pos h3,if_pos h3,v5]; simp; omega
     rw [e2,if_pos rfl,ih]
     have b1 : (p.2.1.data.toList == [36,49]) = false := by rw [h3]; rfl
     have b2 : (p.2.1.data.toList == [36,50]) = false := by rw [h3]; rfl
     have b3 : (p.2.1.data.toList == [36,51]) = true := by rw [h3]; rfl
     rw [hT_cons,hK_cons,hV_cons,b1,b2,b3]; cases hT ps <;> cases hK ps <;> cases hV ps <;> rfl
    ·have e2 : takeC (a,b,d,e,f) p (fillTok c p) = ((a,b,d,e,f),true) := by
      unfold takeC fillTok; rw [if_neg h1,if_neg h1,if_neg h2,if_neg h2,if_neg h3,if_neg h3]; simp
     rw [e2,if_pos rfl,ih]
     have b1 : (p.2.1.data.toList == [36,49]) = false := by rw [beq_eq_false_iff_ne]; exact h1
     have b2 : (p.2.1.data.toList == [36,50]) = false := by rw [beq_eq_false_iff_ne]; exact h2
     have b3 : (p.2.1.data.toList == [36,51]) = false := by rw [beq_eq_false_iff_ne]; exact h3
     rw [hT_cons,hK_cons,hV_cons,b1,b2,b3]; rfl
theorem from_inv : ∀ (ps l : List Tok) (c0 d : Cm),l.length = ps.length → readFrom c0 ps l = (d,true) → d.1 = c0.1 ∧ d.2.2.2.2 = c0.2.2.2.2 ∧ (if hT ps = true then nameB d.2.1 = true else d.2.1 = c0.2.1) ∧ (if hK ps = true then inN d.2.2.1 = true else d.2.2.1 = c0.2.2.1) ∧ (if hV ps = true then inN d.2.2.2.1 = true else d.2.2.2.1 = c0.2.2.2.1) := by
 intro ps
 induction ps with
 | nil =>
  intro l c0 d hl h
  cases l with
  | cons _ _ => simp at hl
  | nil =>
   rw [readFrom] at h
   ·cases h; simp [hT,hK,hV]
   ·intro _ _ _ _ h; cases h
 | cons p ps ih =>
  intro l c0 d hl h
  match l,hl with
  | t :: l,hl =>
   rw [readFrom] at h
   split at h
   ·rename_i ht
    obtain ⟨i1,i2,i3,i4,i5⟩ := ih l _ d (by simpa using hl) h
    obtain ⟨a,b,dd,e,f⟩ := c0
    unfold takeC at i1 i2 i3 i4 i5 ht
    by_cases h1 : p.2.1.data.toList = [36,49]
    ·rw [if_pos h1] at i1 i2 i3 i4 i5 ht
     have b2 : (p.2.1.data.toList == [36,50]) = false := by rw [h1]; rfl
     have b3 : (p.2.1.data.toList == [36,51]) = false := by rw [h1]; rfl
     refine ⟨i1,i2,?_,?_,?_⟩
     ·have : hT (p :: ps) = true := by simp [hT,h1]
      rw [if_pos this]
      split at i3
      ·exact i3
      ·rw [i3]; unfold tabB at ht; exact (Bool.and_eq_true_iff.1 ht).2
     ·rw [hK_cons,b2]; exact i4
     ·rw [hV_cons,b3]; exact i5
    ·by_cases h2 : p.2.1.data.toList = [36,50]
     ·rw [if_neg h1,if_pos h2] at i1 i2 i3 i4 i5 ht
      have b1 : (p.2.1.data.toList == [36,49]) = false := by rw [h2]; rfl
      have b3 : (p.2.1.data.toList == [36,51]) = false := by rw [h2]; rfl
      refine ⟨i1,i2,by rw [hT_cons,b1]; exact i3,?_,by rw [hV_cons,b3]; exact i5⟩
      have : hK (p :: ps) = true := by simp [hK,h2]
      rw [if_pos this]
      split at i4
      ·exact i4
      ·obtain ⟨n,hn⟩ := Option.isSome_iff_exists.1 ht
       rw [i4,hn]; exact numO_in t n hn
     ·by_cases h3 : p.2.1.data.toList = [36,51]
      ·rw [if_neg h1,if_neg h2,if_pos h3] at i1 i2 i3 i4 i5 ht
       have b1 : (p.2.1.data.toList == [36,49]) = false := by rw [h3]; rfl
       have b2 : (p.2.1.data.toList == [36,50]) = false := by rw [h3]; rfl
       refine ⟨i1,i2,by rw [hT_cons,b1]; exact i3,by rw [hK_cons,b2]; exact i4,?_⟩
       have : hV (p :: ps) = true := by simp [hV,h3]
       rw [if_pos this]
       split at i5
       ·exact i5
       ·obtain ⟨n,hn⟩ := Option.isSome_iff_exists.1 ht
        rw [i5,hn]; exact numO_in t n hn
      ·rw [if_neg h1,if_neg h2,if_neg h3] at i1 i2 i3 i4 i5 ht
       have b1 : (p.2.1.data.toList == [36,49]) = false := by rw [beq_eq_false_iff_ne]; exact h1
       have b2 : (p.2.1.data.toList == [36,50]) = false := by rw [beq_eq_false_iff_ne]; exact h2
       have b3 : (p.2.1.data.toList == [36,51]) = false := by rw [beq_eq_false_iff_ne]; exact h3
       exact ⟨i1,i2,by rw [hT_cons,b1]; exact i3,by rw [hK_cons,b2]; exact i4,by rw [hV_cons,b3]; exact i5⟩
   ·cases h
def fmOf (q : Int × Bool × ByteArray × List Tok) : Fm := (q.1,q.2.1,q.2.2.1)
theorem fm_in : ∀ q ∈ formsP,fmOf q ∈ formsC ∧ partsC (fmOf q) = q.2.2.2 := by
 intro q hq
 simp only [formsP,List.mem_cons,List.not_mem_nil,or_false] at hq
 rcases hq with rfl | rfl | rfl | rfl | rfl | rfl | rfl
 ·exact ⟨by simp [fmOf,formsC],by unfold partsC fmOf; rw [scan1]⟩
 ·exact ⟨by simp [fmOf,formsC],by unfold partsC fmOf; rw [scan2]⟩
 ·exact ⟨by simp [fmOf,formsC],by unfold partsC fmOf; rw [scan3]⟩
 ·exact ⟨by simp [fmOf,formsC],by unfold partsC fmOf; rw [scan4]⟩
 ·exact ⟨by simp [fmOf,formsC],by unfold partsC fmOf; rw [scan5]⟩
 ·exact ⟨by simp [fmOf,formsC],by unfold partsC fmOf; rw [scan6]⟩
 ·exact ⟨by simp [fmOf,formsC],by unfold partsC fmOf; rw [scan7]⟩
theorem ok_parts (c : Cm) (h : okC c = true) : okP c ∧ (c.2.2.2.2 = false → c.2.2.1 = 0) ∧ (c.1 ≠ 2 → c.2.2.2.1 = 0) := by
 unfold okC at h
 simp only [Bool.and_eq_true,Bool.or_eq_true,beq_iff_eq] at h
 refine ⟨⟨h.1.1.1.1,h.1.1.1.2,h.1.1.2⟩,fun hf => ?_,fun hf => ?_⟩
 ·rcases h.1.2 with h2 | h2
  ·rw [h2] at hf; cases hf
  ·exact h2
 ·rcases h.2 with h2 | h2
  ·exact absurd h2 hf
  ·exact h2
theorem read_fill : ∀ q ∈ formsP,∀ c : Cm,c.1 = q.1 → c.2.2.2.2 = q.2.1 → okC c = true → readC (fmOf q) (q.2.2.2.map (fillTok c)) = (c,true) := by
 intro q hq c h1 h2 hc
 obtain ⟨hp,hk,hv⟩ := ok_parts c hc
 obtain ⟨f1,f2,f3,_⟩ := flags q hq
 unfold readC
 rw [(fm_in q hq).2,if_pos (by rw [List.length_map]),from_fill c hp,f1,f2,f3]
 obtain ⟨a,b,d,e,f⟩ := c
 obtain ⟨qa,qb,qc,qd⟩ := q
 simp only at h1 h2 hk hv ⊢
 subst h1 h2
 simp only [fmOf,if_true,Prod.mk.injEq,true_and,and_true]
 constructor
 ·cases f with
  | true => rfl
  | false => rw [hk rfl]; rfl
 ·by_cases h2 : a = 2
  ·subst h2; rfl
  ·rw [if_neg (by simpa using h2),hv h2]
theorem read_ok : ∀ q ∈ formsP,∀ (l : List Tok) (c : Cm),readC (fmOf q) l = (c,true) → c.1 = q.1 ∧ c.2.2.2.2 = q.2.1 ∧ okC c = true := by
 intro q hq l c h
 obtain ⟨f1,f2,f3,_⟩ := flags q hq
 unfold readC at h
 rw [(fm_in q hq).2] at h
 split at h
 ·rename_i hl
  obtain ⟨i1,i2,i3,i4,i5⟩ := from_inv _ l _ c hl h
  rw [f1,if_pos rfl] at i3
  rw [f2] at i4
  rw [f3] at i5
  refine ⟨i1,i2,?_⟩
  obtain ⟨a,b,d,e,f⟩ := c
  obtain ⟨qa,qb,qc,qd⟩ := q
  simp only [fmOf] at i1 i2 i3 i4 i5
  subst i1 i2
  have z : inN 0 = true := by decide
  have hK' : inN d = true ∧ (f = true ∨ d = 0) := by
   cases f with
   | true => exact ⟨i4,.inl rfl⟩
   | false => have : d = 0 := i4
              rw [this]; exact ⟨z,.inr rfl⟩
  have hV' : inN e = true ∧ (a = 2 ∨ e = 0) := by
   by_cases h2 : a = 2
   ·rw [if_pos (by simpa using h2)] at i5; exact ⟨i5,.inl h2⟩
   ·rw [if_neg (by simpa using h2)] at i5; rw [i5]; exact ⟨z,.inr rfl⟩
  unfold okC
  simp only [Bool.and_eq_true,Bool.or_eq_true,beq_iff_eq]
  exact ⟨⟨⟨⟨i3,hK'.1⟩,hV'.1⟩,hK'.2⟩,hV'.2⟩
 ·cases h
theorem text_form : ∀ q ∈ formsP,∀ c : Cm,c.1 = q.1 → c.2.2.2.2 = q.2.1 → (readC (fmOf q) (scanA (bb (fillC (fmOf q) c))).1 = (c,true) ↔ okC c = true) := by
 intro q hq c h1 h2
 constructor
 ·intro h; exact (read_ok q hq _ c h).2.2
 ·intro h
  obtain ⟨m,hm,ha⟩ := fill_scan q hq c (ok_parts c h).1
  have e : scanA (bb (fillC (fmOf q) c)) = (m,0,0) := hm
  rw [e,← read_same (fmOf q) _ m ha]
  exact read_fill q hq c h1 h2 h
theorem textF_q : ∀ q ∈ formsP,∀ c : Cm,c.1 = q.1 → c.2.2.2.2 = q.2.1 → textC c = if okC c = true then fillC (fmOf q) c else [] := by
 intro q hq c h1 h2
 have key := text_form q hq c h1 h2
 obtain ⟨a,b,d,e,f⟩ := c
 have hno : ∀ g : Fm,¬ (g.1 = a ∧ g.2.1 = f) → ∀ r,textF (g :: r) (a,b,d,e,f) = textF r (a,b,d,e,f) := fun g hg r => by
  rw [textF,if_neg (fun h => hg ⟨h.1,h.2.1⟩)]
 have hyes : ∀ r,fmOf q ∈ formsC → (textF r (a,b,d,e,f) = [] ) → textF (fmOf q :: r) (a,b,d,e,f) = if okC (a,b,d,e,f) = true then fillC (fmOf q) (a,b,d,e,f) else [] := fun r _ hr => by
  rw [textF,hr]
  by_cases hk : okC (a,b,d,e,f) = true
  ·rw [if_pos hk,if_pos ⟨h1.symm,h2.symm,key.2 hk⟩]
  ·rw [if_neg hk,if_neg (fun h => hk (key.1 h.2.2))]
 have hm := (fm_in q hq).1
 simp only [formsP,List.mem_cons,List.not_mem_nil,or_false] at hq
 unfold textC formsC
 rcases hq with rfl | rfl | rfl | rfl | rfl | rfl | rfl <;> (simp only at h1 h2; subst h1 h2; simp only [fmOf] at hyes hm ⊢)
 ·rw [hyes _ hm]
  rw [hno _ (by decide),hno _ (by decide),hno _ (by decide),hno _ (by decide),hno _ (by decide),hno _ (by decide)]; rfl
 ·rw [hno _ (by decide),hyes _ hm]
  rw [hno _ (by decide),hno _ (by decide),hno _ (by decide),hno _ (by decide),hno _ (by decide)]; rfl
 ·rw [hno _ (by decide),hno _ (by decide),hyes _ hm]
  rw [hno _ (by decide),hno _ (by decide),hno _ (by decide),hno _ (by decide)]; rfl
 ·rw [hno _ (by decide),hno _ (by decide),hno _ (by decide),hyes _ hm]
  rw [hno _ (by decide),hno _ (by decide),hno _ (by decide)]; rfl
 ·rw [hno _ (by decide),hno _ (by decide),hno _ (by decide),hno _ (by decide),hyes _ hm]
  rw [hno _ (by decide),hno _ (by decide)]; rfl
 ·rw [hno _ (by decide),hno _ (by decide),hno _ (by decide),hno _ (by decide),hno _ (by decide),hyes _ hm]
  rw [hno _ (by decide)]; rfl
 ·rw [hno _ (by decide),hno _ (by decide),hno _ (by decide),hno _ (by decide),hno _ (by decide),hno _ (by decide),hyes _ hm]
  rfl
theorem textR_q : ∀ q ∈ formsP,∀ c : Cm,c.1 = q.1 → c.2.2.2.2 = q.2.1 → textR c = if okC c = true then fillC (fmOf q) c else [] := by
 intro q hq c h1 h2
 obtain ⟨a,b,d,e,f⟩ := c
 simp only [formsP,List.mem_cons,List.not_mem_nil,or_false] at hq
 rcases hq with rfl | rfl | rfl | rfl | rfl | rfl | rfl <;> (simp only at h1 h2; subst h1 h2; unfold textR; cases hk : okC _ <;> simp [fmOf,fillC,replC,digT])
theorem kinds (a : Int) (f : Bool) : (∃ q ∈ formsP,a = q.1 ∧ f = q.2.1) ∨ ((∀ q ∈ formsP,¬ (q.1 = a ∧ q.2.1 = f)) ∧ ((a = 2 ∨ a = 3) ∧ f = false ∨ a = 5 ∧ f = true ∨ (a ≠ 1 ∧ a ≠ 2 ∧ a ≠ 3 ∧ a ≠ 4 ∧ a ≠ 5))) := by
 by_cases h : ∃ q ∈ formsP,a = q.1 ∧ f = q.2.1
 ·exact .inl h
 ·refine .inr ⟨fun q hq hh => h ⟨q,hq,hh.1.symm,hh.2.symm⟩,?_⟩
  have hh : ∀ q ∈ formsP,¬ (a = q.1 ∧ f = q.2.1) := fun q hq h2 => h ⟨q,hq,h2⟩
  simp only [formsP,List.mem_cons,List.not_mem_nil,or_false,forall_eq_or_imp,forall_eq] at hh
  obtain ⟨g1,g2,g3,g4,g5,g6,g7⟩ := hh
  cases f <;> simp at g1 g2 g3 g4 g5 g6 g7 ⊢ <;> omega
theorem text_same (c : Cm) : textC c = textR c := by
 rcases kinds c.1 c.2.2.2.2 with ⟨q,hq,h1,h2⟩ | ⟨hn,hk⟩
 ·rw [textF_q q hq c h1 h2,textR_q q hq c h1 h2]
 ·have e1 : textC c = [] := by
   unfold textC
   have : ∀ fs : List Fm,(∀ g ∈ fs,¬ (g.1 = c.1 ∧ g.2.1 = c.2.2.2.2)) → textF fs c = [] := by
    intro fs
    induction fs with
    | nil => intro _; rfl
    | cons g r ih => intro h; rw [textF,if_neg (fun hh => h g (by simp) ⟨hh.1,hh.2.1⟩)]; exact ih fun g hg => h g (by simp [hg])
   refine this _ fun g hg => ?_
   obtain ⟨q,hq,rfl,_⟩ := forms_parts g hg
   exact hn q hq
  rw [e1]
  unfold textR
  rcases hk with ⟨h | h,h2⟩ | ⟨h,h2⟩ | ⟨h1,h2,h3,h4,h5⟩
  ·rw [h,h2]; simp
  ·rw [h,h2]; simp
  ·rw [h,h2]; simp
  ·rw [if_neg h1,if_neg h2,if_neg h3,if_neg h4,if_neg h5]; simp
theorem text_some (c : Cm) (h : textC c ≠ []) : ∃ q ∈ formsP,c.1 = q.1 ∧ c.2.2.2.2 = q.2.1 ∧ okC c = true ∧ textC c = fillC (fmOf q) c := by
 rcases kinds c.1 c.2.2.2.2 with ⟨q,hq,h1,h2⟩ | ⟨hn,hk⟩
 ·have e := textF_q q hq c h1 h2
  by_cases hok : okC c = true
  ·rw [if_pos hok] at e; exact ⟨q,hq,h1,h2,hok,e⟩
  ·rw [if_neg hok] at e; exact absurd e h
 ·exfalso
  rw [text_same] at h
  apply h
  unfold textR
  rcases hk with ⟨h | h,h2⟩ | ⟨h,h2⟩ | ⟨h1,h2,h3,h4,h5⟩
  ·rw [h,h2]; simp
  ·rw [h,h2]; simp
  ·rw [h,h2]; simp
  ·rw [if_neg h1,if_neg h2,if_neg h3,if_neg h4,if_neg h5]; simp
end Go.Proofs.YtjmmninopagpjaaGreatDoor
