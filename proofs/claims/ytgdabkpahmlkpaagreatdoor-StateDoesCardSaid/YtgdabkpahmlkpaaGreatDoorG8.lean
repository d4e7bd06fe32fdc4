/- Bld Lxv Lxt Lxw Lxx Lxy Lya Lza Lzb Lzc Lzd Lze Lzf Lzg -/
import Derived.Test.YtgdabkpahmlkpaaGreatDoorG7
import Derived.Lib.Builder
import Derived.Lib.OthersKept
import Derived.Lib.AppendStr
import Derived.WalkKit
import Derived.Shelf.Strings.Builder1
import Derived.Test.YtgdabkpahmlkpaaGreatDoorShelf
import Derived.Lib.ReplaceLaws
import Derived.Lib.SplitLaws
import Derived.WalkMore
import Derived.BigQuiet
import Derived.OwnWalk
import Derived.Deep.LoopGhost
import Derived.Deep.DeepMust
import Derived.Deep.DeepAppendWide
import Derived.Deep.QuietTactic
import Derived.Deep.AppendLies
set_option linter.unusedSimpArgs false
set_option linter.unusedVariables false
namespace Go.Proofs.YtgdabkpahmlkpaaGreatDoor
open Go.ChangeShapes Go.WideShapes Go.ChangeAt Go.RowKit
set_option maxRecDepth 100000
set_option linter.unusedVariables false
set_option linter.unusedSimpArgs false


def dblL (q : UInt8) (l : Tx) : Tx := l.flatMap fun c => if c = q then [q,q] else [c]
theorem dbl_size (q : UInt8) (l : Tx) : (dblL q l).length ≤ 2 * l.length := by
 induction l with
 | nil => simp [dblL]
 | cons c r ih =>
  have e : dblL q (c :: r) = (if c = q then [q,q] else [c]) ++ dblL q r := by simp [dblL]
  rw [e,List.length_append,List.length_cons]
  have : (if c = q then [q,q] else [c]).length ≤ 2 := by split <;> simp
  omega
def quoL (q : UInt8) (l : Tx) : Tx := [q] ++ dblL q l ++ [q]
def shownL (t : Tok) : Tx := if t.1 = 2 then quoL 34 t.2.1.data.toList else if t.1 = 3 then quoL 39 t.2.1.data.toList else t.2.1.data.toList
theorem quo_size (q : UInt8) (l : Tx) : (quoL q l).length ≤ 2 * l.length + 2 := by
 have := dbl_size q l
 simp only [quoL,List.length_append,List.length_singleton]
 omega
theorem shown_size (t : Tok) : (shownL t).length ≤ 2 * t.2.1.size + 2 := by
 have h : t.2.1.data.toList.length = t.2.1.size := rfl
 unfold shownL
 split
 ·have := quo_size 34 t.2.1.data.toList; omega
 ·split
  ·have := quo_size 39 t.2.1.data.toList; omega
  ·omega
def tailL (l : List Tok) : Tx := l.flatMap fun t => 32 :: shownL t
def showL : List Tok → Tx
 | [] => []
 | t :: r => shownL t ++ tailL r
theorem show_size (l : List Tok) (z : Nat) (h : ∀ t ∈ l,t.2.1.size ≤ z) : (showL l).length ≤ l.length * (2 * z + 3) := by
 have ht : ∀ r : List Tok,(∀ t ∈ r,t.2.1.size ≤ z) → (tailL r).length ≤ r.length * (2 * z + 3) := by
  intro r
  induction r with
  | nil => intro _; simp [tailL]
  | cons x r ih =>
   intro hr
   have e : tailL (x :: r) = 32 :: shownL x ++ tailL r := by simp [tailL]
   have h1 := shown_size x
   have h2 := hr x (by simp)
   have h3 := ih fun t h => hr t (by simp [h])
   rw [e,List.length_append,List.length_cons,List.length_cons,Nat.succ_mul]
   omega
 cases l with
 | nil => simp [showL]
 | cons x r =>
  have h1 := shown_size x
  have h2 := h x (by simp)
  have h3 := ht r fun t h' => h t (by simp [h'])
  rw [showL,List.length_append,List.length_cons,Nat.succ_mul]
  omega

theorem info30 : (Tryz.prog.info? 118).map (fun i => (i.zero,i.size,i.bytes)) = some (some (.agg #[.int .i64 0,.string ByteArray.empty,.int .i64 0]),3,32) := by kernel_rfl
theorem i30_parts : ∃ i,Tryz.prog.info? 118 = some i ∧ i.zero = some (.agg #[.int .i64 0,.string ByteArray.empty,.int .i64 0]) ∧ i.size = 3 ∧ i.bytes = 32 := by
 have h := info30
 cases e : Tryz.prog.info? 118 with
 | none => rw [e] at h; cases h
 | some i =>
  rw [e] at h
  simp only [Option.map_some,Option.some.injEq,Prod.mk.injEq] at h
  exact ⟨i,rfl,h.1,h.2.1,h.2.2⟩
theorem und23 : Tryz.prog.underlying 72 = some (.slice 118) := by kernel_rfl
theorem tok_cells (w : World) (t : Tok) : ∀ (j : Nat) (u : Value),(tokCells t)[j]? = some u → (w.alloc (.cells #[.int .i64 t.1,.string t.2.1,.int .i64 t.2.2] 118)).cell? ((⟨w.heap.size,0,none⟩ : Addr).add j) = some u := by
 intro j u hj
 rw [Addr.add_lit,Nat.zero_add,World.cell?_alloc_mark]
 match j,hj with
 | 0,hj => simpa [tokCells] using hj
 | 1,hj => simpa [tokCells] using hj
 | 2,hj => simpa [tokCells] using hj
 | n + 3,hj => simp [tokCells] at hj
theorem tok_cells2 (w : World) (o : Obj) (t : Tok) : ∀ (j : Nat) (u : Value),(tokCells t)[j]? = some u → ((w.alloc o).alloc (.cells #[.int .i64 t.1,.string t.2.1,.int .i64 t.2.2] 118)).cell? ((⟨w.heap.size + 1,0,none⟩ : Addr).add j) = some u := by
 have e : (w.alloc o).heap.size = w.heap.size + 1 := by simp
 rw [← e]
 exact tok_cells (w.alloc o) t
theorem tok_one (t : Tok) : ∀ u ∈ tokCells t,u.oneCell' = true := by
 intro u hu
 simp only [tokCells,List.mem_cons,List.not_mem_nil,or_false] at hu
 rcases hu with rfl | rfl | rfl <;> rfl
theorem two_more (w w2 : World) (o p : Obj) (h : w.heap.size < w2.heap.size) : w.heap.size + 1 ≤ ((w2.alloc o).alloc p).heap.size := by simp; omega
theorem two_below (w2 : World) (o p : Obj) : Below w2.heap.size w2 ((w2.alloc o).alloc p) := ((Below.refl _ _).alloc (Nat.le_refl _) _).alloc (by simp) _
theorem piece_left {w2 w9 : World} {row : Option Nat} (kd n : Int) (t : ByteArray) (T : Obj) (g : ((w2.alloc (.cells #[.int .i64 kd,.string t,.int .i64 n] 154)).alloc T).grownBy w9 row) (hr : ∀ k,row = some k → k < w2.heap.size) :
  w9.cell? ⟨w2.heap.size,2,none⟩ = some (.int .i64 n) := by
 obtain ⟨_,_,_,_,h⟩ := g
 have e : ((w2.alloc (.cells #[.int .i64 kd,.string t,.int .i64 n] 154)).alloc T).cell? ⟨w2.heap.size,2,none⟩ = some (.int .i64 n) := by simp [go_sem]
 have hb := h w2.heap.size (by simp; omega) (by intro hh; have := hr _ hh.symm; omega)
 rw [World.cell?_of_block (w := (w2.alloc (.cells #[.int .i64 kd,.string t,.int .i64 n] 154)).alloc T) hb]
 exact e
def ScanP (w : World) (r : List Tok × Int × Int) (e : Ending) (w' : World) : Prop :=
 ∃ v,e = .returned (.tuple #[v,.int .i64 r.2.1,.int .i64 r.2.2]) ∧ w'.ownsRow (w.heap.size + 1) 118 3 v r.1.length (tokRow r.1) ∧ Below w.heap.size w w'
set_option maxHeartbeats 1000000 in
set_option maxRecDepth 100000 in
theorem scan_small (s : ByteArray) (m : Int) (w : World) (hs : s.size ≤ 2000) (hm : Wd m w) (R : List Tok × Int × Int) (hR : R = scanN (s.size + 1) s 0 []) :
  Calls Tryz.prog 81 #[.string s] w (ScanP w R) := by
 have hl : ¬ ((2000 : Int) < (s.size : Int)) := by omega
 obtain ⟨i30,hi30,hz30,hs30,hb30⟩ := i30_parts
 have hr := readers_any w
 have HR := Lib.hid hr
 have HS := Lib.hid (ScI.start hm)
 have HE := Lib.hid hR
 clear hr hm hR
 go_enter Tryz.func81,Tryz.ntmps81
 go_wp2
 go_step3
 go_wp2_with (go_at_call 119; (with_reducible refine HR.out.mono ?_); rintro e w1 ⟨rfl,hw⟩; subst hw)
 go_step3
 go_wp2
 go_loopg [5,7] s.size (fun g u5 u7 wx => ∃ (l : List Tok) (a : Nat),u7 = .int .i64 (a : Int) ∧ a ≤ s.size ∧ s.size - a ≤ g ∧ ScI m w l u5 wx ∧ R = scanN (g + 1) s a l ∧ l.length ≤ a)
 case atStart => exact ⟨[],0,rfl,Nat.zero_le _,by omega,HS.out,HE.out,Nat.le_refl _⟩
 case round =>
  obtain ⟨l,a,rfl,ha,hg,hI,hv,hla⟩ := hrel
  clear HR HS HE
  have HV := Lib.hid hv
  have HI := Lib.hid hI
  clear hv hI
  by_cases hlt : a < s.size
  ·obtain ⟨g,rfl⟩ : ∃ g,gk = g + 1 := ⟨gk - 1,by omega⟩
   have l0 : (a : Int) < (s.size : Int) := by omega
   have l1 : (0 : Int) ≤ (a : Int) := by omega
   have l2 : (a : Int) ≤ (s.size : Int) := by omega
   have hrs : 0 < (s.extract a s.size).size := by rw [ByteArray.size_extract]; omega
   have hrl : (s.extract a s.size).size < 4294967281 := Nat.lt_of_le_of_lt (ext_le s a) (by omega)
   obtain ⟨rest,hrest⟩ : ∃ r,s.extract a s.size = r := ⟨_,rfl⟩
   have hrz : rest.size = s.size - a := by rw [← hrest,ByteArray.size_extract]; omega
   have hV2 : R = match findR 10 rest with
    | none => ([],7,(a : Int))
    | some p => if p.2.2 = -1 then ([],6,(a : Int)) else scanN (g + 1) s (a + p.2.2.toNat) (if p.1 = 0 then l else l ++ [(p.1,p.2.1,(a : Int))]) := by
    rw [HV.out,scanN,if_neg (by omega),hrest]
    cases findR 10 rest <;> rfl
   rw [hrest] at hrs hrl
   have HV2 := Lib.hid hV2
   have HRS := Lib.hid hrs
   have HRL := Lib.hid hrl
   have HRZ := Lib.hid hrz
   clear hV2 HV hrs hrl hrz
   go_wp2
   go_loopg [5,7,21] 10 (fun k x5 x7 x21 wx => ∃ i : Nat,i + k = 10 ∧ x21 = .int .i64 (i : Int) ∧ x5 = u5 ∧ x7 = .int .i64 (a : Int) ∧ ScI m w l u5 wx ∧ findR k rest = findR 10 rest)
   case atStart => exact ⟨0,rfl,rfl,rfl,rfl,HI.out,rfl⟩
   case round =>
    obtain ⟨i,hik,rfl,rfl,rfl,hI2,hf⟩ := hrel
    have HI2 := Lib.hid hI2
    have HF := Lib.hid hf
    clear hI2 hf
    cases gk with
    | zero =>
     have hi : i = 10 := by omega
     subst hi
     have hv3 : R = ([],7,(a : Int)) := by rw [HV2.out,← HF.out]; rfl
     clear HV2
     go_wp2
     go_ret3
     exact ⟨_,rfl,World.ownsRow_nil _ _ _ _,HI2.out.bel⟩
    | succ k =>
     have hi : i < 10 := by omega
     have l3 : (i : Int) < 10 := by omega
     have l4 : (0 : Int) ≤ (i : Int) := by omega
     have hc : wr.cell? ⟨w.heap.size,i,none⟩ = some (.func (.func (rdF i)) #[] #[]) := HI2.out.reader i hi
     have hcall := fun w1 h1 => rd_call i hi rest HRS.out HRL.out m w1 h1
     have hsz := rd_sized i rest HRS.out
     have hfi : findR (k + 1) rest = if (rdP i rest).2.2 = 0 then findR k rest else some (rdP i rest) := by
      have := findR_at i hi rest
      rwa [show 10 - i = k + 1 by omega,show 10 - (i + 1) = k by omega] at this
     have hen := rd_enter i hi
     generalize rdP i rest = p at *
     generalize rdF i = fi at *
     obtain ⟨kd,t,z⟩ := p
     have hcall : ∀ w1,Wd m w1 → Calls Tryz.prog fi #[.string rest] w1 fun e w' => e = .returned (.agg #[.int .i64 kd,.string t,.int .i64 z]) ∧ Below w1.heap.size w1 w' := hcall
     have HCALL := Lib.hid hcall
     have HSZ := Lib.hid hsz
     have HFI := Lib.hid hfi
     have HIK := Lib.hid hik
     clear hcall hsz hfi hik
     by_cases hz0 : z = 0
     ·have z0 : (z == (0 : Int)) = true := by rw [beq_iff_eq]; exact hz0
      have hf2 : findR k rest = findR 10 rest := by rw [← HF.out,HFI.out]; exact (if_pos hz0).symm
      have HF2 := Lib.hid hf2
      clear hf2 hz0
      go_wp2_with ((with_reducible refine (HCALL.out _ HI2.out.wd).mono ?_); rintro e w2 ⟨rfl,hb2⟩; have HI3 := Lib.hid (HI2.out.step hb2); clear hb2)
      go_roundg k
      case measure => exact Nat.lt_succ_self _
      case rel => exact ⟨i + 1,by have := HIK.out; omega,rfl,rfl,rfl,HI3.out.step ((Below.refl _ _).alloc (Nat.le_refl _) _),HF2.out⟩
     ·have z0 : (z == (0 : Int)) = false := by rw [beq_eq_false_iff_ne]; exact hz0
      have hf2 : findR 10 rest = some (kd,t,z) := by rw [← HF.out,HFI.out]; exact if_neg hz0
      by_cases hz1 : z = -1
      ·have z1 : (z == (-1 : Int)) = true := by rw [beq_iff_eq]; exact hz1
       have hv3 : R = ([],6,(a : Int)) := by rw [HV2.out,hf2]; exact if_pos hz1
       clear HV2 hf2 hz0 hz1
       go_wp2_with ((with_reducible refine (HCALL.out _ HI2.out.wd).mono ?_); rintro e w2 ⟨rfl,hb2⟩; have HI3 := Lib.hid (HI2.out.step hb2); clear hb2)
       try rw [Exit.noGoto_ret]
       go_ret3
       rw [hv3]
       exact ⟨_,rfl,World.ownsRow_nil _ _ _ _,HI3.out.bel.trans (((Below.refl _ _).alloc (Nat.le_refl _) _).mono HI3.out.bel.size)⟩
      ·have z1 : (z == (-1 : Int)) = false := by rw [beq_eq_false_iff_ne]; exact hz1
       obtain ⟨n,hn⟩ : ∃ n : Nat,z = (n : Int) := ⟨z.toNat,by have := HSZ.out; unfold Sized at this; simp only at this; omega⟩
       subst hn
       have hn1 : 1 ≤ n := by omega
       have hn2 : n ≤ s.size - a := by have := HSZ.out; have := HRZ.out; unfold Sized at *; simp only at *; omega
       have hv3 : R = scanN (g + 1) s (a + n) (if kd = 0 then l else l ++ [(kd,t,(a : Int))]) := by
        rw [HV2.out,hf2]; exact if_neg hz1
       obtain ⟨b,hb⟩ : ∃ b,a + n = b := ⟨_,rfl⟩
       have cw : IntKind.i64.wrap ((a : Int) + (n : Int)) = (b : Int) := by rw [show (a : Int) + (n : Int) = (b : Int) by omega]; exact IntWalk.i64_in _ (by omega)
       rw [hb] at hv3
       have HV3 := Lib.hid hv3
       have HBN := Lib.hid (show a < b ∧ b ≤ s.size by omega)
       clear hv3 HV2 hf2 hz0 hz1 hn1 hn2 hb
       by_cases hk : kd = 0
       ·have k0 : (kd != (0 : Int)) = false := by rw [bne,beq_iff_eq.2 hk]; rfl
        have HK := Lib.hid hk
        clear hk
        go_wp2_with ((with_reducible refine (HCALL.out _ HI2.out.wd).mono ?_); rintro e w2 ⟨rfl,hb2⟩; have HI3 := Lib.hid (HI2.out.step hb2); clear hb2)
        go_roundg g
        case measure => omega
        case rel => exact ⟨l,b,rfl,HBN.out.2,by have := HBN.out; omega,HI3.out.step ((Below.refl _ _).alloc (Nat.le_refl _) _),by rw [HV3.out,if_pos HK.out],by have := HBN.out; omega⟩
       ·have k0 : (kd != (0 : Int)) = true := by rw [bne,beq_eq_false_iff_ne.2 hk]; rfl
        have HK := Lib.hid hk
        clear hk
        go_wp2_with (first
         | ((with_reducible refine (HCALL.out _ HI2.out.wd).mono ?_); rintro e w2 ⟨rfl,hb2⟩; have HI3 := Lib.hid (HI2.out.step hb2); clear hb2)
         | (at_builtin; go_must (
           refine wpList_append_own_wide _ rfl (.tmp 40) (.tmp 47) 72 rfl (w.heap.size + 1) 118 i30 (.agg #[.int .i64 0,.string ByteArray.empty,.int .i64 0]) 3 32 und23 hi30 hz30 hs30 hb30 rfl (by decide) u5 l.length (tokRow l) rfl ((HI3.out.row.alloc _).alloc _) ⟨w2.heap.size + 1,0,none⟩ 1 1 (tokCells (kd,t,(a : Int))) rfl rfl ?c1 ?c2 ?c3 ?c4 ?c5 ?_
           case c1 => exact tok_cells2 w2 _ (kd,t,(a : Int))
           case c2 => exact tok_one _
           case c3 => unfold maxLen; omega
           case c4 => omega
           case c5 => exact two_more w w2 _ _ HI3.out.lt
           intro v9 w9 hown9 hgr9 _
           have e9 := piece_left kd (n : Int) t _ hgr9 (fun k hk => (World.ownsRow.lt HI3.out.row k hk).2))))
        have HI4 := HI3.out.step (two_below w2 (.cells #[.int .i64 kd,.string t,.int .i64 (n : Int)] 154) (.cells #[.int .i64 kd,.string t,.int .i64 (a : Int)] 118))
        have HI5 := Lib.hid (HI4.more (kd,t,(a : Int)) hgr9 hown9)
        clear HI4
        go_roundg g
        case measure => omega
        case rel => exact ⟨l ++ [(kd,t,(a : Int))],b,rfl,HBN.out.2,by have := HBN.out; omega,HI5.out,by rw [HV3.out,if_neg HK.out],by have := HBN.out; rw [List.length_append,List.length_singleton]; omega⟩
  ·have hl2 : ¬ ((a : Int) < (s.size : Int)) := by omega
   have hv3 : R = (l,0,0) := by rw [HV.out,scanN,if_pos (by omega)]
   clear HV
   go_wp2
   try rw [Exit.noGoto_ret]
   go_ret3
   try rw [hv3]
   exact ⟨_,rfl,HI.out.row,HI.out.bel⟩


theorem own_kind {w : World} {B z n : Nat} {e : TypeId} {v : Value} {xs : List Value} (h : w.ownsRow B e z v n xs) : ∀ g,v.ownBlock = some g → g < w.heap.size ∧ ∃ c fz,w.heap[g]? = some (.cells c e fz) := by
 intro g hg
 rcases h.2 with ⟨rfl,_⟩ | ⟨g',cap,cur,rfl,_,hgg,_⟩
 ·simp [Value.ownBlock] at hg
 ·simp [Value.ownBlock] at hg
  subst hg
  exact ⟨(Array.getElem?_eq_some_iff.1 hgg).1,cur,_,hgg⟩


abbrev bb (l : Tx) : ByteArray := ⟨l.toArray⟩
theorem bb_app (a b : Tx) : bb a ++ bb b = bb (a ++ b) := by apply ByteArray.ext; simp
theorem bb_size (a : Tx) : (bb a).size = a.length := by show a.toArray.size = _; simp
theorem ext_one (s : ByteArray) (k : Nat) (hk : k < s.size) : s.extract k (k + 1) = bb [s.data.toList[k]'hk] := by
 apply ByteArray.ext
 apply Array.ext'
 rw [ByteArray.data_extract,Array.toList_extract]
 have h2 : k < s.data.toList.length := hk
 rw [List.extract_eq_take_drop,show k + 1 - k = 1 by omega,List.drop_eq_getElem_cons h2]
 simp

theorem starts_eq (s p : ByteArray) (a : Nat) (h : a + p.size ≤ s.size) : ((s.extract a (a + p.size)).toList == p.toList) = p.data.toList.isPrefixOf (s.data.toList.drop a) := by
 rw [ByteArray.toList_eq,ByteArray.toList_eq]
 have e : (s.extract a (a + p.size)).data.toList = (s.data.toList.drop a).take p.size := by
  rw [ByteArray.data_extract,Array.toList_extract,List.extract_eq_take_drop]
  congr 1
  omega
 rw [e]
 have hp : p.size = p.data.toList.length := rfl
 rw [hp]
 rw [Bool.eq_iff_iff,beq_iff_eq,List.isPrefixOf_iff_prefix,List.prefix_iff_eq_take]
 exact ⟨fun h => h.symm,fun h => h.symm⟩
theorem starts_short (s p : ByteArray) (a : Nat) (h : ¬ a + p.size ≤ s.size) (ha : a ≤ s.size) : p.data.toList.isPrefixOf (s.data.toList.drop a) = false := by
 rw [Bool.eq_false_iff]
 intro hh
 have := (List.isPrefixOf_iff_prefix.1 hh).length_le
 rw [List.length_drop] at this
 have hp : p.size = p.data.toList.length := rfl
 have hs : s.size = s.data.toList.length := rfl
 omega
theorem starts_any (s p : ByteArray) (a : Nat) (w : World) (hs : s.size ≤ 1048576) (hp : p.size ≤ 1048576) (ha : a ≤ s.size) :
  Calls Tryz.prog 105 #[.string s,.int .i64 (a : Int),.string p] w fun e w' => e = .returned (.bool (p.data.toList.isPrefixOf (s.data.toList.drop a))) ∧ w' = w := by
 have l0 : (0 : Int) ≤ (a : Int) := by omega
 obtain ⟨b,hb⟩ : ∃ b,a + p.size = b := ⟨_,rfl⟩
 have cw : IntKind.i64.wrap ((a : Int) + (p.size : Int)) = (b : Int) := by rw [show (a : Int) + (p.size : Int) = (b : Int) by omega]; exact IntWalk.i64_in _ (by omega)
 by_cases h : a + p.size ≤ s.size
 ·have e := starts_eq s p a h
  rw [hb] at e
  rw [← e]
  have l1 : (a : Int) ≤ (b : Int) := by omega
  have l2 : (b : Int) ≤ (s.size : Int) := by omega
  have HB := Lib.hid hb
  clear hb e h
  go_enter Tryz.func105,Tryz.ntmps105
  go_wp2
  go_ret
  exact ⟨rfl,rfl⟩
 ·rw [starts_short s p a h ha]
  have l2 : ¬ ((b : Int) ≤ (s.size : Int)) := by omega
  have HB := Lib.hid hb
  clear hb h
  go_enter Tryz.func105,Tryz.ntmps105
  go_wp2
  go_ret
  exact ⟨rfl,rfl⟩
theorem byte_at (s : ByteArray) (a : Nat) (h : a < s.size) : s.data.toList.drop a = s[a] :: s.data.toList.drop (a + 1) := List.drop_eq_getElem_cons (by exact h)
theorem rowL_cons (p : UInt8 → Bool) (c : UInt8) (r : Tx) : rowL p (c :: r) = if p c = true then rowL p r + 1 else 0 := by
 unfold rowL
 rw [List.takeWhile_cons]
 split <;> simp_all
def rowB (k : Int) : UInt8 → Bool := if k = 1 then wordB else if k = 4 then numB else digB
set_option maxHeartbeats 1000000 in
set_option maxRecDepth 100000 in
theorem rrow_any (s : ByteArray) (a : Nat) (k : Int) (hk : k = 1 ∨ k = 4 ∨ k = 0) (w : World) (hs : s.size ≤ 1048576) (ha : a ≤ s.size) :
  Calls Tryz.prog 108 #[.string s,.int .i64 (a : Int),.int .i64 k] w fun e w' => e = .returned (.int .i64 ((a + rowL (rowB k) (s.data.toList.drop a) : Nat) : Int)) ∧ w' = w := by
 obtain ⟨R,hR⟩ : ∃ R,a + rowL (rowB k) (s.data.toList.drop a) = R := ⟨_,rfl⟩
 rw [hR]
 have HR := Lib.hid hR
 have HA := Lib.hid ha
 clear hR
 go_enter Tryz.func108,Tryz.ntmps108
 go_wp2
 go_loop [1] (fun u1 => ∃ i : Nat,i ≤ s.size ∧ u1 = .int .i64 i ∧ R = i + rowL (rowB k) (s.data.toList.drop i)) (fun u1 => s.size - (intOf u1).toNat)
 case atStart => exact ⟨a,HA.out,rfl,HR.out.symm⟩
 case round =>
  obtain ⟨i,hi,rfl,hv⟩ := hrel
  have HV := Lib.hid hv
  clear hv HR HA ha
  by_cases hlt : i < s.size
  ·have l0 : (0 : Int) ≤ (i : Int) := by omega
   have l1 : (i : Int) < (s.size : Int) := by omega
   have hd := byte_at s i hlt
   have hv := HV.out
   rw [hd,rowL_cons] at hv
   clear HV hd
   obtain ⟨c,hc⟩ : ∃ c,s[i] = c := ⟨_,rfl⟩
   have hlet := fun w => rlet_any (c.toNat : Int) w
   have hdig := fun w => rdig_any (c.toNat : Int) w
   rw [hc] at hv
   have key : rowB k c = (digN (c.toNat : Int) || ((k == 1) && (letN (c.toNat : Int) || ((c.toNat : Int) == 36))) || ((k == 4) && ((c.toNat : Int) == 46))) := by
    rcases hk with rfl | rfl | rfl
    ·show wordN (c.toNat : Int) = _
     unfold wordN
     cases letN (c.toNat : Int) <;> cases digN (c.toNat : Int) <;> simp
    ·show numN (c.toNat : Int) = _
     unfold numN
     cases digN (c.toNat : Int) <;> simp
    ·show digN (c.toNat : Int) = _
     cases digN (c.toNat : Int) <;> simp
   have HLET := Lib.hid hlet
   have HDIG := Lib.hid hdig
   have HV := Lib.hid hv
   obtain ⟨z,hz⟩ : ∃ z : Int,(c.toNat : Int) = z := ⟨_,rfl⟩
   have hci : ((s[i]'hlt).toNat : Int) = z := by rw [hc,hz]
   simp only [hz] at HLET HDIG key
   clear hlet hdig hv
   have HKEY := Lib.hid key
   clear key
   have HCI := Lib.hid hci
   generalize hbd : digN z = bd at *
   generalize hbl : letN z = bl at *
   have HBD := Lib.hid hbd
   have HBL := Lib.hid hbl
   clear hbd hbl
   rcases hk with rfl | rfl | rfl
   ·cases bd with
    | true =>
     have hkk : rowB 1 c = true := by rw [HKEY.out]; simp
     have hv2 := HV.out
     rw [hkk] at hv2
     rw [if_pos rfl] at hv2
     have HV2 := Lib.hid hv2
     clear hkk hv2
     go_wp2_with (first
      | (go_at_call 110; (with_reducible refine (HDIG.out _).mono ?_); rintro e w1 ⟨rfl,hw1⟩; obtain rfl := hw1.symm)
      | (go_at_call 107; (with_reducible refine (HLET.out _).mono ?_); rintro e w1 ⟨rfl,hw1⟩; obtain rfl := hw1.symm))
     go_round
     case rel => exact ⟨i + 1,by omega,by go_num,by rw [HV2.out]; omega⟩
     case measure => simp [intOf]; omega
    | false =>
     cases bl with
     | true =>
      have hkk : rowB 1 c = true := by rw [HKEY.out]; simp
      have hv2 := HV.out
      rw [hkk] at hv2
      rw [if_pos rfl] at hv2
      have HV2 := Lib.hid hv2
      clear hkk hv2
      go_wp2_with (first
      | (go_at_call 110; (with_reducible refine (HDIG.out _).mono ?_); rintro e w1 ⟨rfl,hw1⟩; obtain rfl := hw1.symm)
      | (go_at_call 107; (with_reducible refine (HLET.out _).mono ?_); rintro e w1 ⟨rfl,hw1⟩; obtain rfl := hw1.symm))
      go_round
      case rel => exact ⟨i + 1,by omega,by go_num,by rw [HV2.out]; omega⟩
      case measure => simp [intOf]; omega
     | false =>
      by_cases h36 : z = 36
      ·subst h36
       have hkk : rowB 1 c = true := by rw [HKEY.out]; simp
       have hv2 := HV.out
       rw [hkk] at hv2
       rw [if_pos rfl] at hv2
       have HV2 := Lib.hid hv2
       clear hkk hv2
       go_wp2_with (first
      | (go_at_call 110; (with_reducible refine (HDIG.out _).mono ?_); rintro e w1 ⟨rfl,hw1⟩; obtain rfl := hw1.symm)
      | (go_at_call 107; (with_reducible refine (HLET.out _).mono ?_); rintro e w1 ⟨rfl,hw1⟩; obtain rfl := hw1.symm))
       go_round
       case rel => exact ⟨i + 1,by omega,by go_num,by rw [HV2.out]; omega⟩
       case measure => simp [intOf]; omega
      ·have e36 : (z == (36 : Int)) = false := by rw [beq_eq_false_iff_ne]; exact h36
       clear h36
       have hkk : rowB 1 c = false := by rw [HKEY.out]; simp [e36]
       have hv2 := HV.out
       rw [hkk] at hv2
       rw [if_neg (by decide)] at hv2
       have HV2 := Lib.hid hv2
       clear hkk hv2
       go_wp2_with (first
      | (go_at_call 110; (with_reducible refine (HDIG.out _).mono ?_); rintro e w1 ⟨rfl,hw1⟩; obtain rfl := hw1.symm)
      | (go_at_call 107; (with_reducible refine (HLET.out _).mono ?_); rintro e w1 ⟨rfl,hw1⟩; obtain rfl := hw1.symm))
       go_ret
       exact ⟨by rw [HV2.out]; rfl,rfl⟩
   ·cases bd with
    | true =>
     have hkk : rowB 4 c = true := by rw [HKEY.out]; simp
     have hv2 := HV.out
     rw [hkk] at hv2
     rw [if_pos rfl] at hv2
     have HV2 := Lib.hid hv2
     clear hkk hv2
     go_wp2_with (first
      | (go_at_call 110; (with_reducible refine (HDIG.out _).mono ?_); rintro e w1 ⟨rfl,hw1⟩; obtain rfl := hw1.symm)
      | (go_at_call 107; (with_reducible refine (HLET.out _).mono ?_); rintro e w1 ⟨rfl,hw1⟩; obtain rfl := hw1.symm))
     go_round
     case rel => exact ⟨i + 1,by omega,by go_num,by rw [HV2.out]; omega⟩
     case measure => simp [intOf]; omega
    | false =>
     by_cases h46 : z = 46
     ·subst h46
      have hkk : rowB 4 c = true := by rw [HKEY.out]; simp
      have hv2 := HV.out
      rw [hkk] at hv2
      rw [if_pos rfl] at hv2
      have HV2 := Lib.hid hv2
      clear hkk hv2
      go_wp2_with (first
      | (go_at_call 110; (with_reducible refine (HDIG.out _).mono ?_); rintro e w1 ⟨rfl,hw1⟩; obtain rfl := hw1.symm)
      | (go_at_call 107; (with_reducible refine (HLET.out _).mono ?_); rintro e w1 ⟨rfl,hw1⟩; obtain rfl := hw1.symm))
      go_round
      case rel => exact ⟨i + 1,by omega,by go_num,by rw [HV2.out]; omega⟩
      case measure => simp [intOf]; omega
     ·have e46 : (z == (46 : Int)) = false := by rw [beq_eq_false_iff_ne]; exact h46
      clear h46
      have hkk : rowB 4 c = false := by rw [HKEY.out]; simp [e46]
      have hv2 := HV.out
      rw [hkk] at hv2
      rw [if_neg (by decide)] at hv2
      have HV2 := Lib.hid hv2
      clear hkk hv2
      go_wp2_with (first
      | (go_at_call 110; (with_reducible refine (HDIG.out _).mono ?_); rintro e w1 ⟨rfl,hw1⟩; obtain rfl := hw1.symm)
      | (go_at_call 107; (with_reducible refine (HLET.out _).mono ?_); rintro e w1 ⟨rfl,hw1⟩; obtain rfl := hw1.symm))
      go_ret
      exact ⟨by rw [HV2.out]; rfl,rfl⟩
   ·cases bd with
    | true =>
     have hkk : rowB 0 c = true := by rw [HKEY.out]; simp
     have hv2 := HV.out
     rw [hkk] at hv2
     rw [if_pos rfl] at hv2
     have HV2 := Lib.hid hv2
     clear hkk hv2
     go_wp2_with (first
      | (go_at_call 110; (with_reducible refine (HDIG.out _).mono ?_); rintro e w1 ⟨rfl,hw1⟩; obtain rfl := hw1.symm)
      | (go_at_call 107; (with_reducible refine (HLET.out _).mono ?_); rintro e w1 ⟨rfl,hw1⟩; obtain rfl := hw1.symm))
     go_round
     case rel => exact ⟨i + 1,by omega,by go_num,by rw [HV2.out]; omega⟩
     case measure => simp [intOf]; omega
    | false =>
     have hkk : rowB 0 c = false := by rw [HKEY.out]; simp
     have hv2 := HV.out
     rw [hkk] at hv2
     rw [if_neg (by decide)] at hv2
     have HV2 := Lib.hid hv2
     clear hkk hv2
     go_wp2_with (first
      | (go_at_call 110; (with_reducible refine (HDIG.out _).mono ?_); rintro e w1 ⟨rfl,hw1⟩; obtain rfl := hw1.symm)
      | (go_at_call 107; (with_reducible refine (HLET.out _).mono ?_); rintro e w1 ⟨rfl,hw1⟩; obtain rfl := hw1.symm))
     go_ret
     exact ⟨by rw [HV2.out]; rfl,rfl⟩
  ·have l1 : ¬ ((i : Int) < (s.size : Int)) := by omega
   have hd : s.data.toList.drop i = [] := List.drop_eq_nil_of_le (by have : s.size = s.data.toList.length := rfl; omega)
   have hv := HV.out
   rw [hd] at hv
   have HV2 := Lib.hid hv
   clear hv hd HV
   go_wp2
   go_ret
   exact ⟨by rw [HV2.out]; rfl,rfl⟩

theorem pfx2 (x y : UInt8) (l : Tx) : ([x,y].isPrefixOf l = true) ↔ l.take 2 = [x,y] := by
 rw [List.isPrefixOf_iff_prefix,List.prefix_iff_eq_take]
 exact ⟨fun h => h.symm,fun h => h.symm⟩
theorem pfx2_no (x y : UInt8) (l : Tx) : ([x,y].isPrefixOf l = false) ↔ l.take 2 ≠ [x,y] := by
 rw [← Bool.not_eq_true,pfx2]
theorem len2 (x y : UInt8) (s : ByteArray) (a : Nat) (h : (s.data.toList.drop a).take 2 = [x,y]) : a + 2 ≤ s.size := by
 have := congrArg List.length h
 rw [List.length_take,List.length_drop,← Lib.size_eq] at this
 simp only [List.length_cons,List.length_nil] at this; omega
theorem remL_open (s : ByteArray) (d a : Nat) (h : (s.data.toList.drop a).take 2 = [47,42]) : (remL (d + 1) (s.data.toList.drop a)).map (· + a) = (remL (d + 2) (s.data.toList.drop (a + 2))).map (· + (a + 2)) := by
 have hl := len2 _ _ s a h
 obtain ⟨c,hc⟩ := drop_cons_ s.data.toList a (by rw [← Lib.size_eq]; omega)
 rw [hc,remL,← hc,if_pos h,map_add _ _ _ (a + 2) (by omega),List.drop_drop]
theorem remL_shut (s : ByteArray) (d a : Nat) (h : (s.data.toList.drop a).take 2 = [42,47]) : (remL (d + 1) (s.data.toList.drop a)).map (· + a) = (remL d (s.data.toList.drop (a + 2))).map (· + (a + 2)) := by
 have hl := len2 _ _ s a h
 obtain ⟨c,hc⟩ := drop_cons_ s.data.toList a (by rw [← Lib.size_eq]; omega)
 rw [hc,remL,← hc,if_neg (by rw [h]; decide),if_pos h,map_add _ _ _ (a + 2) (by omega),List.drop_drop]
theorem remL_on (s : ByteArray) (d a : Nat) (hl : a < s.size) (h1 : (s.data.toList.drop a).take 2 ≠ [47,42]) (h2 : (s.data.toList.drop a).take 2 ≠ [42,47]) : (remL (d + 1) (s.data.toList.drop a)).map (· + a) = (remL (d + 1) (s.data.toList.drop (a + 1))).map (· + (a + 1)) := by
 obtain ⟨c,hc⟩ := drop_cons_ s.data.toList a (by rw [← Lib.size_eq]; omega)
 rw [hc,remL,← hc,if_neg h1,if_neg h2,map_add _ _ _ (a + 1) (by omega)]
def remAt (s : ByteArray) (a : Nat) : Option Nat := (remL 1 (s.data.toList.drop (a + 2))).map (· + (a + 2))
set_option maxHeartbeats 1000000 in
theorem rremark_any (s : ByteArray) (a0 : Nat) (w : World) (hs : s.size ≤ 1048000) (h0 : (s.data.toList.drop a0).take 2 = [47,42]) :
  Calls Tryz.prog 106 #[.string s,.int .i64 (a0 : Int)] w fun e w' => e = .returned (.int .i64 (remI (remAt s a0))) ∧ w' = w := by
 have hst := fun a p ha hp w => starts_any s p a w (by omega) hp ha
 obtain ⟨R,hR⟩ : ∃ R,remAt s a0 = R := ⟨_,rfl⟩
 rw [hR]
 have HST := Lib.hid hst
 have HR := Lib.hid hR
 have H0 := Lib.hid h0
 have HL0 := Lib.hid (len2 _ _ s a0 h0)
 clear hst hR h0
 go_enter Tryz.func106,Tryz.ntmps106
 go_wp2
 go_loop [1,5] (fun u1 u5 => ∃ a d : Nat,a ≤ s.size ∧ d ≤ a ∧ u1 = .int .i64 a ∧ u5 = .int .i64 d ∧ ((d = 0 ∧ a = a0) ∨ (0 < d ∧ R = (remL d (s.data.toList.drop a)).map (· + a)))) (fun u1 _ => s.size - (intOf u1).toNat)
 case atStart => exact ⟨a0,0,by have := HL0.out; omega,Nat.zero_le _,rfl,rfl,.inl ⟨rfl,rfl⟩⟩
 case round =>
  obtain ⟨a,d,ha,hda,rfl,rfl,hv⟩ := hrel
  have HV := Lib.hid hv
  clear hv
  by_cases hlt : a < s.size
  ·have l1 : (a : Int) < (s.size : Int) := by omega
   have hst1 : ∀ w,Calls Tryz.prog 105 #[.string s,.int .i64 (a : Int),.string ⟨#[47,42]⟩] w fun e w' => e = .returned (.bool ([47,42].isPrefixOf (s.data.toList.drop a))) ∧ w' = w := fun w => HST.out a ⟨#[47,42]⟩ ha (by show 2 ≤ _; omega) w
   have hst2 : ∀ w,Calls Tryz.prog 105 #[.string s,.int .i64 (a : Int),.string ⟨#[42,47]⟩] w fun e w' => e = .returned (.bool ([42,47].isPrefixOf (s.data.toList.drop a))) ∧ w' = w := fun w => HST.out a ⟨#[42,47]⟩ ha (by show 2 ≤ _; omega) w
   obtain ⟨a2,ha2⟩ : ∃ a2,a + 2 = a2 := ⟨_,rfl⟩
   obtain ⟨a1,ha1⟩ : ∃ a1,a + 1 = a1 := ⟨_,rfl⟩
   obtain ⟨d1,hd1⟩ : ∃ d1,d + 1 = d1 := ⟨_,rfl⟩
   have cw2 : IntKind.i64.wrap ((a : Int) + 2) = (a2 : Int) := by rw [show (a : Int) + 2 = (a2 : Int) by omega]; exact IntWalk.i64_in _ (by omega)
   have cw1 : IntKind.i64.wrap ((a : Int) + 1) = (a1 : Int) := by rw [show (a : Int) + 1 = (a1 : Int) by omega]; exact IntWalk.i64_in _ (by omega)
   have cwd : IntKind.i64.wrap ((d : Int) + 1) = (d1 : Int) := by rw [show (d : Int) + 1 = (d1 : Int) by omega]; exact IntWalk.i64_in _ (by omega)
   have HA2 := Lib.hid ha2
   have HA1 := Lib.hid ha1
   have HD1 := Lib.hid hd1
   clear ha2 ha1 hd1
   cases h1 : ([47,42] : Tx).isPrefixOf (s.data.toList.drop a) with
   | true =>
    rw [h1] at hst1
    have HS1 := Lib.hid hst1
    have h1' := (pfx2 _ _ _).1 h1
    have hle := len2 _ _ s a h1'
    have hn : R = (remL (d + 1) (s.data.toList.drop (a + 2))).map (· + (a + 2)) := by
     rcases HV.out with ⟨rfl,rfl⟩ | ⟨hp,hv⟩
     ·rw [← HR.out]; rfl
     ·obtain ⟨e,rfl⟩ : ∃ e,d = e + 1 := ⟨d - 1,by omega⟩
      rw [hv,remL_open s e a h1']
    have HN := Lib.hid hn
    clear hst1 hst2 h1 h1' hn
    go_wp2_with (go_at_call 105; (with_reducible refine (HS1.out _).mono ?_); rintro e w1 ⟨rfl,hw1⟩; obtain rfl := hw1.symm)
    go_round
    case rel => exact ⟨a2,d1,by have := HA2.out; omega,by have := HA2.out; have := HD1.out; omega,rfl,rfl,.inr ⟨by have := HD1.out; omega,by rw [← HA2.out,← HD1.out]; exact HN.out⟩⟩
    case measure => have := HA2.out; simp [intOf]; omega
   | false =>
    rw [h1] at hst1
    have HS1 := Lib.hid hst1
    have h1' := (pfx2_no _ _ _).1 h1
    have hd0 : 0 < d ∧ R = (remL d (s.data.toList.drop a)).map (· + a) := by
     rcases HV.out with ⟨rfl,rfl⟩ | h
     ·exact absurd H0.out h1'
     ·exact h
    obtain ⟨hp,hv⟩ := hd0
    obtain ⟨d0,hd0⟩ : ∃ e,d = e + 1 := ⟨d - 1,by omega⟩
    clear HV h1 hst1
    cases h2 : ([42,47] : Tx).isPrefixOf (s.data.toList.drop a) with
    | true =>
     rw [h2] at hst2
     have HS2 := Lib.hid hst2
     have h2' := (pfx2 _ _ _).1 h2
     have hle := len2 _ _ s a h2'
     have hn : R = (remL d0 (s.data.toList.drop (a + 2))).map (· + (a + 2)) := by rw [hv,hd0,remL_shut s d0 a h2']
     have cwm : IntKind.i64.wrap ((d : Int) - 1) = (d0 : Int) := by rw [show (d : Int) - 1 = (d0 : Int) by omega]; exact IntWalk.i64_in _ (by omega)
     have HN := Lib.hid hn
     have HD0 := Lib.hid hd0
     clear hst2 h2 h2' hn hv hd0 h1'
     by_cases hz : d0 = 0
     ·subst hz
      have hn2 : remI R = (a2 : Int) := by rw [HN.out]; rw [remL]; show ((0 + (a + 2) : Nat) : Int) = _; have := HA2.out; omega
      have HN2 := Lib.hid hn2
      have cwm0 : IntKind.i64.wrap ((d : Int) - 1) = 0 := cwm
      clear cwm hn2
      go_wp2_with (first
       | (go_at_call 105; (with_reducible refine (HS1.out _).mono ?_); rintro e w1 ⟨rfl,hw1⟩; obtain rfl := hw1.symm)
       | (go_at_call 105; (with_reducible refine (HS2.out _).mono ?_); rintro e w1 ⟨rfl,hw1⟩; obtain rfl := hw1.symm))
      go_ret
      exact ⟨by rw [HN2.out]; rfl,rfl⟩
     ·have hz2 : ((d0 : Int) == 0) = false := by rw [beq_eq_false_iff_ne]; omega
      go_wp2_with (first
       | (go_at_call 105; (with_reducible refine (HS1.out _).mono ?_); rintro e w1 ⟨rfl,hw1⟩; obtain rfl := hw1.symm)
       | (go_at_call 105; (with_reducible refine (HS2.out _).mono ?_); rintro e w1 ⟨rfl,hw1⟩; obtain rfl := hw1.symm))
      go_round
      case rel => exact ⟨a2,d0,by have := HA2.out; omega,by have := HA2.out; have := HD0.out; omega,rfl,rfl,.inr ⟨by omega,by rw [← HA2.out]; exact HN.out⟩⟩
      case measure => have := HA2.out; simp [intOf]; omega
    | false =>
     rw [h2] at hst2
     have HS2 := Lib.hid hst2
     have h2' := (pfx2_no _ _ _).1 h2
     have hn : R = (remL d (s.data.toList.drop (a + 1))).map (· + (a + 1)) := by rw [hv,hd0,remL_on s d0 a hlt h1' h2']
     have HN := Lib.hid hn
     clear hst2 h2 h2' hn hv hd0 h1'
     go_wp2_with (first
      | (go_at_call 105; (with_reducible refine (HS1.out _).mono ?_); rintro e w1 ⟨rfl,hw1⟩; obtain rfl := hw1.symm)
      | (go_at_call 105; (with_reducible refine (HS2.out _).mono ?_); rintro e w1 ⟨rfl,hw1⟩; obtain rfl := hw1.symm))
     go_round
     case rel => exact ⟨a1,d,by have := HA1.out; omega,by have := HA1.out; omega,rfl,rfl,.inr ⟨hp,by rw [← HA1.out]; exact HN.out⟩⟩
     case measure => have := HA1.out; simp [intOf]; omega
  ·have l1 : ¬ ((a : Int) < (s.size : Int)) := by omega
   have hd : s.data.toList.drop a = [] := List.drop_eq_nil_of_le (by have : s.size = s.data.toList.length := rfl; omega)
   have hn : R = none := by
    rcases HV.out with ⟨rfl,rfl⟩ | ⟨hp,hv⟩
    ·have := HL0.out; omega
    ·obtain ⟨e,rfl⟩ : ∃ e,d = e + 1 := ⟨d - 1,by omega⟩
     rw [hv,hd,remL]; rfl
   have HN := Lib.hid hn
   clear hd hn HV HR
   go_wp2
   go_ret
   exact ⟨by rw [HN.out]; rfl,rfl⟩

def notNl (c : UInt8) : Bool := c != 10
def lineEnd (s : ByteArray) (a : Nat) : Nat := a + rowL notNl (s.data.toList.drop a)
def gapN : Nat → ByteArray → Nat → Nat × Bool
 | 0,_,a => (a,false)
 | f + 1,s,a =>
  if s.size ≤ a then (a,false) else
  if fiveQ ((s.data.toList.drop a).headD 0) = true then gapN f s (a + 1) else
  if (s.data.toList.drop a).take 2 = [45,45] then gapN f s (lineEnd s a) else
  if (s.data.toList.drop a).take 2 = [47,42] then (match remAt s a with
   | none => (a,true)
   | some n => gapN f s n) else (a,false)
theorem five_all : ((List.range 256).all fun n => fiveB (n : Int) == (n == 32 || n == 9 || n == 10 || n == 12 || n == 13)) = true := by kernel_rfl
theorem five_eq (c : UInt8) : fiveQ c = (((c.toNat : Int) == 32) || ((c.toNat : Int) == 9) || ((c.toNat : Int) == 10) || ((c.toNat : Int) == 12) || ((c.toNat : Int) == 13)) := by
 have h := beq_iff_eq.1 (List.all_eq_true.1 five_all c.toNat (List.mem_range.2 c.toNat_lt))
 show fiveB (c.toNat : Int) = _
 rw [h]
 have e : ∀ k : Nat,(c.toNat == k) = ((c.toNat : Int) == (k : Int)) := by
  intro k
  rw [Bool.eq_iff_iff,beq_iff_eq,beq_iff_eq]; omega
 rw [e 32,e 9,e 10,e 12,e 13]
 rfl
theorem lineEnd_le (s : ByteArray) (a : Nat) (ha : a ≤ s.size) : lineEnd s a ≤ s.size := by
 unfold lineEnd
 have h1 : rowL notNl (s.data.toList.drop a) ≤ (s.data.toList.drop a).length := rowL_le _ _
 rw [List.length_drop] at h1
 have : s.size = s.data.toList.length := rfl
 omega
theorem lineEnd_gt (s : ByteArray) (a : Nat) (h : (s.data.toList.drop a).take 2 = [45,45]) : a + 1 ≤ lineEnd s a := by
 have hl := len2 _ _ s a h
 unfold lineEnd
 rw [byte_at s a (by omega),rowL_cons]
 rw [byte_at s a (by omega),List.take_succ_cons] at h
 injection h with h _
 rw [h,if_pos (by decide)]
 omega
theorem remAt_le (s : ByteArray) (a n : Nat) (h : remAt s a = some n) (h2 : (s.data.toList.drop a).take 2 = [47,42]) : a + 1 ≤ n ∧ n ≤ s.size := by
 have hl := len2 _ _ s a h2
 unfold remAt at h
 cases hr : remL 1 (s.data.toList.drop (a + 2)) with
 | none => rw [hr] at h; cases h
 | some k =>
  rw [hr] at h
  simp at h
  have := remL_le _ _ _ hr
  rw [List.length_drop] at this
  have hs : s.size = s.data.toList.length := rfl
  omega
set_option maxHeartbeats 2000000 in
set_option maxRecDepth 100000 in
theorem rgap_any (s : ByteArray) (a0 : Nat) (w : World) (hs : s.size ≤ 1048000) (ha0 : a0 ≤ s.size) (R : Nat × Bool) (hR : R = gapN (s.size + 1) s a0) :
  Calls Tryz.prog 77 #[.string s,.int .i64 (a0 : Int)] w fun e w' => e = .returned (.tuple #[.int .i64 (R.1 : Int),.bool R.2]) ∧ w' = w := by
 have hst := fun a p ha hp w => starts_any s p a w (by omega) hp ha
 have hre := fun a h w => rremark_any s a w hs h
 have HST := Lib.hid hst
 have HRE := Lib.hid hre
 have HE := Lib.hid hR
 have HA0 := Lib.hid ha0
 clear hst hre hR ha0
 go_enter Tryz.func77,Tryz.ntmps77
 go_wp2
 go_loopg [1] s.size (fun g u1 wx => ∃ a : Nat,a ≤ s.size ∧ s.size - a ≤ g ∧ u1 = .int .i64 (a : Int) ∧ wx = w ∧ R = gapN (g + 1) s a)
 case atStart => exact ⟨a0,HA0.out,by omega,rfl,rfl,HE.out⟩
 case round =>
  obtain ⟨a,ha,hg,rfl,rfl,hv⟩ := hrel
  rw [gapN] at hv
  clear HE HA0
  by_cases hlt : a < s.size
  ·obtain ⟨g,rfl⟩ : ∃ g,gk = g + 1 := ⟨gk - 1,by omega⟩
   rw [if_neg (by omega)] at hv
   have l0 : (0 : Int) ≤ (a : Int) := by omega
   have l1 : (a : Int) < (s.size : Int) := by omega
   have hst1 : ∀ w,Calls Tryz.prog 105 #[.string s,.int .i64 (a : Int),.string ⟨#[45,45]⟩] w fun e w' => e = .returned (.bool ([45,45].isPrefixOf (s.data.toList.drop a))) ∧ w' = w := fun w => HST.out a ⟨#[45,45]⟩ ha (by show 2 ≤ _; omega) w
   have hst2 : ∀ w,Calls Tryz.prog 105 #[.string s,.int .i64 (a : Int),.string ⟨#[47,42]⟩] w fun e w' => e = .returned (.bool ([47,42].isPrefixOf (s.data.toList.drop a))) ∧ w' = w := fun w => HST.out a ⟨#[47,42]⟩ ha (by show 2 ≤ _; omega) w
   have hd := byte_at s a hlt
   have hh : (s.data.toList.drop a).headD 0 = s[a] := by rw [hd]; rfl
   rw [hh,five_eq] at hv
   obtain ⟨z,hz⟩ : ∃ z : Int,((s[a]'hlt).toNat : Int) = z := ⟨_,rfl⟩
   rw [hz] at hv
   obtain ⟨a1,ha1⟩ : ∃ a1,a + 1 = a1 := ⟨_,rfl⟩
   have cw1 : IntKind.i64.wrap ((a : Int) + 1) = (a1 : Int) := by rw [show (a : Int) + 1 = (a1 : Int) by omega]; exact IntWalk.i64_in _ (by omega)
   rw [ha1] at hv
   have HA1 := Lib.hid ha1
   have HV := Lib.hid hv
   clear hd hh ha1 hv
   have leaf : ∀ b,(((z == 32) || (z == 9) || (z == 10) || (z == 12) || (z == 13)) = b) → (if b = true then R = gapN (g + 1) s a1 else R = (if (s.data.toList.drop a).take 2 = [45,45] then gapN (g + 1) s (lineEnd s a) else
     if (s.data.toList.drop a).take 2 = [47,42] then (match remAt s a with
      | none => (a,true)
      | some n => gapN (g + 1) s n) else (a,false))) := by
    intro b hb
    have := HV.out
    rw [hb] at this
    cases b with
    | true => rw [if_pos rfl] at this ⊢; exact this
    | false => rw [if_neg (by decide)] at this ⊢; exact this
   have HLF := Lib.hid leaf
   clear leaf HV
   by_cases z1 : z = 32
   ·subst z1
    have HN := Lib.hid (show R = gapN (g + 1) s a1 from by have := HLF.out true rfl; rwa [if_pos rfl] at this)
    clear HLF hst1 hst2
    go_wp2
    go_roundg g
    case measure => exact Nat.lt_succ_self _
    case rel => exact ⟨a1,by have := HA1.out; omega,by have := HA1.out; omega,rfl,rfl,HN.out⟩
   by_cases z2 : z = 9
   ·subst z2
    have HN := Lib.hid (show R = gapN (g + 1) s a1 from by have := HLF.out true rfl; rwa [if_pos rfl] at this)
    clear HLF hst1 hst2 z1
    go_wp2
    go_roundg g
    case measure => exact Nat.lt_succ_self _
    case rel => exact ⟨a1,by have := HA1.out; omega,by have := HA1.out; omega,rfl,rfl,HN.out⟩
   by_cases z3 : z = 10
   ·subst z3
    have HN := Lib.hid (show R = gapN (g + 1) s a1 from by have := HLF.out true rfl; rwa [if_pos rfl] at this)
    clear HLF hst1 hst2 z1 z2
    go_wp2
    go_roundg g
    case measure => exact Nat.lt_succ_self _
    case rel => exact ⟨a1,by have := HA1.out; omega,by have := HA1.out; omega,rfl,rfl,HN.out⟩
   by_cases z4 : z = 12
   ·subst z4
    have HN := Lib.hid (show R = gapN (g + 1) s a1 from by have := HLF.out true rfl; rwa [if_pos rfl] at this)
    clear HLF hst1 hst2 z1 z2 z3
    go_wp2
    go_roundg g
    case measure => exact Nat.lt_succ_self _
    case rel => exact ⟨a1,by have := HA1.out; omega,by have := HA1.out; omega,rfl,rfl,HN.out⟩
   by_cases z5 : z = 13
   ·subst z5
    have HN := Lib.hid (show R = gapN (g + 1) s a1 from by have := HLF.out true rfl; rwa [if_pos rfl] at this)
    clear HLF hst1 hst2 z1 z2 z3 z4
    go_wp2
    go_roundg g
    case measure => exact Nat.lt_succ_self _
    case rel => exact ⟨a1,by have := HA1.out; omega,by have := HA1.out; omega,rfl,rfl,HN.out⟩
   have e1 : (z == (32 : Int)) = false := by rw [beq_eq_false_iff_ne]; exact z1
   have e2 : (z == (9 : Int)) = false := by rw [beq_eq_false_iff_ne]; exact z2
   have e3 : (z == (10 : Int)) = false := by rw [beq_eq_false_iff_ne]; exact z3
   have e4 : (z == (12 : Int)) = false := by rw [beq_eq_false_iff_ne]; exact z4
   have e5 : (z == (13 : Int)) = false := by rw [beq_eq_false_iff_ne]; exact z5
   have HN := Lib.hid (HLF.out false (by rw [e1,e2,e3,e4,e5]; rfl))
   clear HLF z1 z2 z3 z4 z5
   cases h1 : ([45,45] : Tx).isPrefixOf (s.data.toList.drop a) with
   | true =>
    rw [h1] at hst1
    have HSN := Lib.hid hst1
    have h1' := (pfx2 _ _ _).1 h1
    have hn : R = gapN (g + 1) s (lineEnd s a) := by have := HN.out; rw [if_neg (by decide),if_pos h1'] at this; exact this
    have hle := lineEnd_le s a ha
    have hgt := lineEnd_gt s a h1'
    obtain ⟨L,hL⟩ : ∃ L,lineEnd s a = L := ⟨_,rfl⟩
    rw [hL] at hn hle hgt
    have HN2 := Lib.hid hn
    have HL := Lib.hid hL
    clear hst1 hst2 h1 h1' hn HN hL
    go_wp2_with (go_at_call 105; (with_reducible refine (HSN.out _).mono ?_); rintro e w1 ⟨rfl,hw1⟩; obtain rfl := hw1.symm)
    go_loop [1] (fun u1 => ∃ i : Nat,i ≤ s.size ∧ u1 = .int .i64 i ∧ L = i + rowL notNl (s.data.toList.drop i)) (fun u1 => s.size - (intOf u1).toNat)
    case atStart => exact ⟨a,ha,rfl,HL.out.symm⟩
    case round =>
     obtain ⟨i,hi,rfl,hv⟩ := hrel
     clear cw1 hz
     by_cases hil : i < s.size
     ·have j0 : (0 : Int) ≤ (i : Int) := by omega
      have j1 : (i : Int) < (s.size : Int) := by omega
      rw [byte_at s i hil,rowL_cons] at hv
      obtain ⟨y,hy⟩ : ∃ y : Int,((s[i]'hil).toNat : Int) = y := ⟨_,rfl⟩
      obtain ⟨i1,hi1⟩ : ∃ i1,i + 1 = i1 := ⟨_,rfl⟩
      have ciw : IntKind.i64.wrap ((i : Int) + 1) = (i1 : Int) := by rw [show (i : Int) + 1 = (i1 : Int) by omega]; exact IntWalk.i64_in _ (by omega)
      have hnl : notNl s[i] = (y != 10) := by
       unfold notNl
       rw [← hy,Bool.eq_iff_iff,bne_iff_ne,bne_iff_ne]
       constructor
       ·intro h hh; exact h (UInt8.toNat_inj.1 (by show _ = 10; omega))
       ·intro h hh; rw [hh] at h; exact h rfl
      rw [hnl] at hv
      have HI1 := Lib.hid hi1
      by_cases h10 : y = 10
      ·subst h10
       rw [if_neg (by decide)] at hv
       have HV := Lib.hid hv
       clear hv hnl hi1
       go_wp2
       go_roundg g
       case measure => exact Nat.lt_succ_self _
       case rel => exact ⟨L,hle,by omega,by rw [HV.out]; rfl,rfl,HN2.out⟩
      ·have e10 : (y != (10 : Int)) = true := by rw [bne_iff_ne]; exact h10
       rw [e10,if_pos rfl,hi1] at hv
       have HV := Lib.hid hv
       clear hv hnl hi1 h10
       go_wp2
       go_round
       case rel => exact ⟨i1,by have := HI1.out; omega,rfl,by have := HI1.out; have := HV.out; omega⟩
       case measure => have := HI1.out; simp [intOf]; omega
     ·have j1 : ¬ ((i : Int) < (s.size : Int)) := by omega
      have hd0 : s.data.toList.drop i = [] := List.drop_eq_nil_of_le (by have : s.size = s.data.toList.length := rfl; omega)
      rw [hd0] at hv
      have HV := Lib.hid hv
      clear hv hd0
      go_wp2
      go_roundg g
      case measure => exact Nat.lt_succ_self _
      case rel => exact ⟨L,hle,by omega,by rw [HV.out]; rfl,rfl,HN2.out⟩
   | false =>
    rw [h1] at hst1
    have h1' := (pfx2_no _ _ _).1 h1
    cases h2 : ([47,42] : Tx).isPrefixOf (s.data.toList.drop a) with
    | true =>
     rw [h2] at hst2
     have h2' := (pfx2 _ _ _).1 h2
     have hn : R = (match remAt s a with
      | none => (a,true)
      | some n => gapN (g + 1) s n) := by have := HN.out; rw [if_neg (by decide),if_neg h1',if_pos h2'] at this; exact this
     have hre := HRE.out a h2'
     have hrl := remAt_le s a
     cases hra : remAt s a with
     | none =>
      rw [hra] at hn hre
      have hre2 : ∀ w,Calls Tryz.prog 106 #[.string s,.int .i64 (a : Int)] w fun e w' => e = .returned (.int .i64 (-1)) ∧ w' = w := hre
      have HRE2 := Lib.hid hre2
      have HS1 := Lib.hid hst1
      have HS2 := Lib.hid hst2
      have HN2 := Lib.hid hn
      clear hst1 hst2 h1 h1' h2 h2' hn HN hre hre2 hrl hra
      go_wp2_with (first | (go_at_call 105; (with_reducible refine (HS1.out _).mono ?_); rintro e w1 ⟨rfl,hw1⟩; obtain rfl := hw1.symm) | (go_at_call 105; (with_reducible refine (HS2.out _).mono ?_); rintro e w1 ⟨rfl,hw1⟩; obtain rfl := hw1.symm) | (go_at_call 106; (with_reducible refine (HRE2.out _).mono ?_); rintro e w1 ⟨rfl,hw1⟩; obtain rfl := hw1.symm))
      go_ret2
      exact ⟨by rw [HN2.out]; rfl,rfl⟩
     | some n =>
      rw [hra] at hn hre
      obtain ⟨hn1,hn2⟩ := hrl n hra h2'
      have hre2 : ∀ w,Calls Tryz.prog 106 #[.string s,.int .i64 (a : Int)] w fun e w' => e = .returned (.int .i64 (n : Int)) ∧ w' = w := hre
      have HRE2 := Lib.hid hre2
      have HS1 := Lib.hid hst1
      have HS2 := Lib.hid hst2
      have HN2 := Lib.hid hn
      have hnn : ¬ ((n : Int) < 0) := by omega
      clear hst1 hst2 h1 h1' h2 h2' hn HN hre hre2 hrl hra
      go_wp2_with (first | (go_at_call 105; (with_reducible refine (HS1.out _).mono ?_); rintro e w1 ⟨rfl,hw1⟩; obtain rfl := hw1.symm) | (go_at_call 105; (with_reducible refine (HS2.out _).mono ?_); rintro e w1 ⟨rfl,hw1⟩; obtain rfl := hw1.symm) | (go_at_call 106; (with_reducible refine (HRE2.out _).mono ?_); rintro e w1 ⟨rfl,hw1⟩; obtain rfl := hw1.symm))
      go_roundg g
      case measure => exact Nat.lt_succ_self _
      case rel => exact ⟨n,hn2,by omega,rfl,rfl,HN2.out⟩
    | false =>
     rw [h2] at hst2
     have h2' := (pfx2_no _ _ _).1 h2
     have hn : R = (a,false) := by have := HN.out; rw [if_neg (by decide),if_neg h1',if_neg h2'] at this; exact this
     have HS1 := Lib.hid hst1
     have HS2 := Lib.hid hst2
     have HN2 := Lib.hid hn
     clear hst1 hst2 h1 h1' h2 h2' hn HN
     go_wp2_with (first | (go_at_call 105; (with_reducible refine (HS1.out _).mono ?_); rintro e w1 ⟨rfl,hw1⟩; obtain rfl := hw1.symm) | (go_at_call 105; (with_reducible refine (HS2.out _).mono ?_); rintro e w1 ⟨rfl,hw1⟩; obtain rfl := hw1.symm))
     go_ret2
     exact ⟨by rw [HN2.out]; rfl,rfl⟩
  ·have l1 : ¬ ((a : Int) < (s.size : Int)) := by omega
   rw [if_pos (by omega)] at hv
   have HV := Lib.hid hv
   clear hv
   go_wp2
   go_ret2
   exact ⟨by rw [HV.out]; rfl,rfl⟩

set_option maxRecDepth 100000 in
theorem rsmall_any (s : ByteArray) (hs : s.size ≤ 281474976710656) (w : World) : Calls Tryz.prog 109 #[.string s] w fun e w' => e = .returned (.string (smallA s)) ∧ Below w.heap.size w w' := by
 have hconv := run_bytes_of_string (P := Tryz.prog) w 9 70 5 s (by kernel_rfl) (by kernel_rfl) (by kernel_rfl)
 have hI : SmI s w 0 (w.drew.alloc (.cells (bytesRow s (grownCap w s.size 0 5)) 5 ((bytesRow s (grownCap w s.size 0 5)).size,(bytesRow s (grownCap w s.size 0 5)).size + 1))) := by
  have e1 : w.drew.heap.size = w.heap.size := by simp
  refine ⟨fun j hj => ?_,fun j hj => ?_,((Below.refl _ _).drew).alloc (by simp) _⟩
  ·rw [if_neg (by omega)]
   rw [← e1,World.cell?_alloc_mark,bytesRow_at s _ j hj]
   rfl
  ·rw [← e1,World.frozen?_alloc_mark]
   have : j < (bytesRow s (grownCap w s.size 0 5)).size := by
    have := bytesRow_at s (grownCap w s.size 0 5) j hj
    exact (Array.getElem?_eq_some_iff.1 this).1
   rw [decide_eq_false (by omega)]; rfl
 generalize (w.drew.alloc (.cells (bytesRow s (grownCap w s.size 0 5)) 5 ((bytesRow s (grownCap w s.size 0 5)).size,(bytesRow s (grownCap w s.size 0 5)).size + 1))) = w1 at *
 generalize grownCap w s.size 0 5 = cap at *
 have HI := Lib.hid hI
 clear hI
 go_enter Tryz.func109,Tryz.ntmps109
 go_wp2
 go_loopw [4] (fun u4 wr => ∃ k : Nat,u4 = .int .i64 (k : Int) ∧ k ≤ s.size ∧ SmI s w k wr) (fun u4 _ => s.size - (match u4 with | .int _ k => k.toNat | _ => 0))
 case atStart => exact ⟨0,rfl,Nat.zero_le _,HI.out⟩
 case round =>
  obtain ⟨k,rfl,hks,hS⟩ := hrel
  clear HI hconv
  have HS := Lib.hid hS
  clear hS
  by_cases hk : k < s.size
  ·have lw : Hid ((k : Int) + 1 = ((k + 1 : Nat) : Int)) := Lib.hid (by omega)
   obtain ⟨z,hz⟩ : ∃ z : Int,((s[k]'hk).toNat : Int) = z := ⟨_,rfl⟩
   have hc : wr.cell? ⟨w.heap.size,k,none⟩ = some (.int .u8 z) := by
    have := HS.out.cell k hk
    rwa [if_neg (by omega),hz] at this
   have hf : wr.frozen? ⟨w.heap.size,k,none⟩ = false := HS.out.fro k hk
   have lk : (k : Int) < (s.size : Int) := by omega
   have l0 : (0 : Int) ≤ (k : Int) := by omega
   have HZ := Lib.hid hz
   clear hz
   by_cases h1 : 65 ≤ z ∧ z ≤ 90
   ·obtain ⟨ha,hb⟩ := h1
    have s1 : IntKind.u8.wrap (z + 32) = z + 32 := IntWalk.u8_in _ (by omega)
    go_wp2
    refine ⟨⟨k + 1,by rw [lw.out],by omega,HS.out.put hk _ (by rw [HZ.out]; unfold lowI; rw [if_pos ⟨ha,hb⟩])⟩,?_⟩
    rw [lw.out]; simp only [Int.toNat_natCast]; omega
   ·by_cases h2 : 65 ≤ z
    ·have h3 : ¬ (z ≤ 90) := by omega
     clear h1
     go_wp2
     refine ⟨⟨k + 1,by rw [lw.out],by omega,HS.out.keep hk (by rw [HZ.out]; unfold lowI; rw [if_neg (by omega)])⟩,?_⟩
     rw [lw.out]; simp only [Int.toNat_natCast]; omega
    ·clear h1
     go_wp2
     refine ⟨⟨k + 1,by rw [lw.out],by omega,HS.out.keep hk (by rw [HZ.out]; unfold lowI; rw [if_neg (by omega)])⟩,?_⟩
     rw [lw.out]; simp only [Int.toNat_natCast]; omega
  ·have lk : ¬ ((k : Int) < (s.size : Int)) := by omega
   have hks2 : k = s.size := by omega
   have hback := run_convert_bytes_back (P := Tryz.prog) wr 70 9 5 ⟨w.heap.size,0,none⟩ cap (s.data.toList.map lowB) (by kernel_rfl) (by kernel_rfl) (by kernel_rfl) (fun j hj => by
    have hj2 : j < s.size := by rw [Lib.size_eq]; simpa using hj
    have := HS.out.cell j hj2
    rw [if_pos (by omega)] at this
    have ea : (⟨w.heap.size,0,none⟩ : Addr).add j = ⟨w.heap.size,j,none⟩ := by simp [Addr.add]; exact fun h => h.symm
    rw [ea,this,List.getElem_map]
    rfl)
   rw [List.length_map,← Lib.size_eq] at hback
   clear hks2
   go_wp2
   go_ret
   exact ⟨rfl,HS.out.bel⟩
theorem idx_mem (l : Tx) (c : UInt8) : 0 ≤ Lib.indexByte l c ↔ c ∈ l := by
 induction l with
 | nil => simp [Lib.indexByte]
 | cons b r ih =>
  have hge := Lib.indexByte_ge r c
  unfold Lib.indexByte
  by_cases h : b = c
  ·subst h; simp
  ·have hb : (b == c) = false := by rw [beq_eq_false_iff_ne]; exact h
   rw [hb]
   simp only [Bool.false_eq_true,if_false,List.mem_cons]
   by_cases h1 : Lib.indexByte r c = -1
   ·rw [h1]
    have : ¬ (c ∈ r) := fun hm => by have := ih.2 hm; omega
    simp [this]
    exact fun hh => h hh.symm
   ·have h2 : (Lib.indexByte r c == -1) = false := by rw [beq_eq_false_iff_ne]; exact h1
    rw [h2]
    simp only [Bool.false_eq_true,if_false]
    constructor
    ·intro _; exact .inr (ih.1 (by omega))
    ·intro hm
     rcases hm with hm | hm
     ·exact absurd hm.symm h
     ·have := ih.2 hm; omega
set_option maxHeartbeats 1000000 in
set_option maxRecDepth 100000 in
theorem rsign_any (c : UInt8) (w : World) : Calls Tryz.prog 114 #[.int .u8 (c.toNat : Int)] w fun e w' => e = .returned (.bool (decide (0 ≤ signI c))) ∧ w' = w := by
 obtain ⟨z,hz⟩ : ∃ z : Int,(c.toNat : Int) = z := ⟨_,rfl⟩
 rw [hz]
 have HZ := Lib.hid hz
 obtain ⟨R,hR⟩ : ∃ R,decide (0 ≤ signI c) = R := ⟨_,rfl⟩
 rw [hR]
 have HR := Lib.hid hR
 clear hz hR
 go_enter Tryz.func114,Tryz.ntmps114
 go_wp2
 go_loop [4] (fun u4 => ∃ k : Nat,k ≤ 24 ∧ u4 = .int .i64 k ∧ ∀ j,j < k → signT.data.toList[j]? ≠ some c) (fun u4 => 24 - (intOf u4).toNat)
 case atStart => exact ⟨0,Nat.zero_le _,rfl,fun j h => by omega⟩
 case round =>
  obtain ⟨k,hk,rfl,hn⟩ := hrel
  have HN := Lib.hid hn
  clear hn
  by_cases hlt : k < 24
  ·have l0 : (0 : Int) ≤ (k : Int) := by omega
   have l1 : (k : Int) < 24 := by omega
   obtain ⟨y,hy⟩ : ∃ y : UInt8,signT.data.toList[k]'hlt = y := ⟨_,rfl⟩
   have hci : ((signT[k]'hlt).toNat : Int) = (y.toNat : Int) := by rw [← hy]; rfl
   have hy2 : signT.data.toList[k]? = some y := by rw [List.getElem?_eq_getElem hlt,hy]
   obtain ⟨x,hx⟩ : ∃ x : Int,(y.toNat : Int) = x := ⟨_,rfl⟩
   rw [hx] at hci
   have HX := Lib.hid hx
   have HY := Lib.hid hy2
   clear hx hy hy2
   by_cases he : x = z
   ·have e : (x == z) = true := by rw [beq_iff_eq]; exact he
    have hyc : y = c := UInt8.toNat_inj.1 (by have := HX.out; have := HZ.out; omega)
    have hr : R = true := by
     rw [← HR.out]
     refine decide_eq_true ((idx_mem _ _).2 ?_)
     rw [← hyc]
     exact List.mem_of_getElem? HY.out
    have HRR := Lib.hid hr
    clear he hyc hr
    go_wp2
    go_ret
    exact ⟨by rw [HRR.out]; rfl,rfl⟩
   ·have e : (x == z) = false := by rw [beq_eq_false_iff_ne]; exact he
    have hyc : y ≠ c := fun h => he (by have h1 := HX.out; have h2 := HZ.out; rw [h] at h1; omega)
    have HYC := Lib.hid hyc
    clear he hyc
    go_wp2
    go_round
    case rel =>
     refine ⟨k + 1,by omega,by go_num,fun j hj => ?_⟩
     by_cases hjk : j < k
     ·exact HN.out j hjk
     ·have : j = k := by omega
      subst this
      rw [HY.out]
      intro h
      exact HYC.out (Option.some.inj h)
    case measure => simp [intOf]; omega
  ·have l1 : ¬ ((k : Int) < 24) := by omega
   have hr : R = false := by
    rw [← HR.out]
    refine decide_eq_false fun h => ?_
    obtain ⟨j,hj⟩ := List.getElem?_of_mem ((idx_mem _ _).1 h)
    exact HN.out j (by have := (List.getElem?_eq_some_iff.1 hj).1; have h24 : signT.data.toList.length = 24 := rfl; omega) hj
   have HRR := Lib.hid hr
   clear hr
   go_wp2
   go_ret
   exact ⟨by rw [HRR.out]; rfl,rfl⟩

def quoAt (s : ByteArray) (a : Nat) (q : UInt8) : Option (Tx × Nat) := (betL q (s.data.toList.drop (a + 1))).map (fun p => (p.1,p.2 + (a + 1)))
def quoV (o : Option (Tx × Nat)) : Value := match o with
 | some p => .tuple #[.string (bb p.1),.int .i64 (p.2 : Int)]
 | none => .tuple #[.string ⟨#[]⟩,.int .i64 (-1)]
theorem drop_nil (s : ByteArray) (a : Nat) (h : ¬ a < s.size) : s.data.toList.drop a = [] := List.drop_eq_nil_of_le (by have : s.size = s.data.toList.length := rfl; omega)
theorem bet_on (s : ByteArray) (q : UInt8) (i : Nat) (h : i < s.size) (T : Tx) (hc : s[i] ≠ q) : (betL q (s.data.toList.drop i)).map (fun p => (T ++ p.1,p.2 + i)) = (betL q (s.data.toList.drop (i + 1))).map (fun p => ((T ++ [s[i]]) ++ p.1,p.2 + (i + 1))) := by
 rw [byte_at s i h,betL_cons,if_neg hc]
 cases betL q (s.data.toList.drop (i + 1)) with
 | none => rfl
 | some p => simp; omega
theorem bet_two (s : ByteArray) (q : UInt8) (i : Nat) (h : i + 1 < s.size) (T : Tx) (hc : s[i] = q) (hd : s[i + 1] = q) : (betL q (s.data.toList.drop i)).map (fun p => (T ++ p.1,p.2 + i)) = (betL q (s.data.toList.drop (i + 2))).map (fun p => ((T ++ [q]) ++ p.1,p.2 + (i + 2))) := by
 rw [byte_at s i (by omega),betL_cons,if_pos hc,byte_at s (i + 1) h]
 simp only [hd,if_true]
 cases betL q (s.data.toList.drop (i + 1 + 1)) with
 | none => rfl
 | some p => simp; omega
theorem bet_end (s : ByteArray) (q : UInt8) (i : Nat) (h : i < s.size) (T : Tx) (hc : s[i] = q) (hd : ∀ h2 : i + 1 < s.size,s[i + 1] ≠ q) : (betL q (s.data.toList.drop i)).map (fun p => (T ++ p.1,p.2 + i)) = some (T,i + 1) := by
 rw [byte_at s i h,betL_cons,if_pos hc]
 by_cases h2 : i + 1 < s.size
 ·rw [byte_at s (i + 1) h2]
  simp only [hd h2,if_false]
  simp; omega
 ·rw [drop_nil s (i + 1) h2]
  simp; omega
set_option maxHeartbeats 1000000 in
set_option maxRecDepth 100000 in
theorem rquoted_any (s : ByteArray) (a : Nat) (ha : a < s.size) (w : World) (hs : s.size ≤ 1048000) :
  Calls Tryz.prog 111 #[.string s,.int .i64 (a : Int)] w fun e w' => e = .returned (quoV (quoAt s a s[a])) ∧ w' = w := by
 obtain ⟨q,hq⟩ : ∃ q,s[a] = q := ⟨_,rfl⟩
 rw [hq]
 obtain ⟨qi,hqi⟩ : ∃ z : Int,(q.toNat : Int) = z := ⟨_,rfl⟩
 have hci : ((s[a]'ha).toNat : Int) = qi := by rw [hq,hqi]
 have l0 : (0 : Int) ≤ (a : Int) := by omega
 have l1 : (a : Int) < (s.size : Int) := by omega
 obtain ⟨R,hR⟩ : ∃ R,quoAt s a q = R := ⟨_,rfl⟩
 rw [hR]
 obtain ⟨a1,ha1⟩ : ∃ a1,a + 1 = a1 := ⟨_,rfl⟩
 have cw : IntKind.i64.wrap ((a : Int) + 1) = (a1 : Int) := by rw [show (a : Int) + 1 = (a1 : Int) by omega]; exact IntWalk.i64_in _ (by omega)
 have h0 : R = (betL q (s.data.toList.drop a1)).map (fun p => ([] ++ p.1,p.2 + a1)) := by rw [← hR,← ha1]; rfl
 have H0 := Lib.hid h0
 have HA1 := Lib.hid ha1
 have HQI := Lib.hid hqi
 clear hR h0 ha1 hq hqi
 go_enter Tryz.func111,Tryz.ntmps111
 go_wp2
 go_loop [7,8] (fun u7 u8' => ∃ (i : Nat) (T : Tx),i ≤ s.size ∧ T.length ≤ i ∧ u7 = .string (bb T) ∧ u8' = .int .i64 i ∧ R = (betL q (s.data.toList.drop i)).map (fun p => (T ++ p.1,p.2 + i))) (fun _ u8' => s.size - (intOf u8').toNat)
 case atStart => exact ⟨a1,[],by have := HA1.out; omega,Nat.zero_le _,rfl,rfl,H0.out⟩
 case round =>
  obtain ⟨i,T,hi,hT,rfl,rfl,hv⟩ := hrel
  clear hci l0 l1 cw H0 HA1
  have hTs : (bb T).size ≤ 1048000 := by rw [bb_size]; omega
  by_cases hlt : i < s.size
  ·have l0 : (0 : Int) ≤ (i : Int) := by omega
   have l1 : (i : Int) < (s.size : Int) := by omega
   obtain ⟨c,hc⟩ : ∃ c,s[i]'hlt = c := ⟨_,rfl⟩
   obtain ⟨z,hz⟩ : ∃ z : Int,(c.toNat : Int) = z := ⟨_,rfl⟩
   have hci : ((s[i]'hlt).toNat : Int) = z := by rw [hc,hz]
   obtain ⟨i1,hi1⟩ : ∃ i1,i + 1 = i1 := ⟨_,rfl⟩
   have cw : IntKind.i64.wrap ((i : Int) + 1) = (i1 : Int) := by rw [show (i : Int) + 1 = (i1 : Int) by omega]; exact IntWalk.i64_in _ (by omega)
   have m1 : (i : Int) ≤ (i1 : Int) := by omega
   have m2 : (i1 : Int) ≤ (s.size : Int) := by omega
   have hxe : s.extract i i1 = bb [c] := by rw [← hi1,← hc]; exact ext_one s i hlt
   have hxs : (s.extract i i1).size = 1 := by rw [hxe]; rfl
   by_cases hcq : c = q
   ·have hzq : z = qi := by have := HQI.out; rw [← hz,hcq]; exact this
    by_cases h2 : i1 < s.size ∧ ∀ h : i1 < s.size,s[i1] = q
    ·obtain ⟨h2,h3f⟩ := h2
     have h3 := h3f h2
     clear h3f
     have hci2 : ((s[i1]'h2).toNat : Int) = qi := by rw [h3]; exact HQI.out
     have n0 : (0 : Int) ≤ (i1 : Int) := by omega
     have n1 : (i1 : Int) < (s.size : Int) := by omega
     obtain ⟨i2,hi2⟩ : ∃ i2,i1 + 1 = i2 := ⟨_,rfl⟩
     have cw2 : IntKind.i64.wrap ((i1 : Int) + 1) = (i2 : Int) := by rw [show (i1 : Int) + 1 = (i2 : Int) by omega]; exact IntWalk.i64_in _ (by omega)
     have hn : R = (betL q (s.data.toList.drop i2)).map (fun p => ((T ++ [q]) ++ p.1,p.2 + i2)) := by
      have e : i2 = i + 2 := by omega
      rw [hv,e]
      subst hi1
      exact bet_two s q i h2 T (by rw [hc,hcq]) h3
     have HN := Lib.hid hn
     have HE := Lib.hid (show bb T ++ s.extract i i1 = bb (T ++ [q]) by rw [hxe,bb_app,hcq])
     have HI := Lib.hid (show i2 = i + 2 ∧ i2 ≤ s.size by omega)
     subst hzq
     clear hn hv hxe hi1 hi2 hcq hc hz h3
     generalize bb T = TT at *
     go_wp2
     go_round
     case rel => exact ⟨i2,T ++ [q],by have := HI.out; omega,by have := HI.out; rw [List.length_append,List.length_singleton]; omega,by rw [HE.out],rfl,HN.out⟩
     case measure => have := HI.out; simp [intOf]; omega
    ·have hn : R = some (T,i1) := by
      rw [hv,← hi1]
      refine bet_end s q i hlt T (by rw [hc,hcq]) fun h4 h5 => h2 ⟨by omega,fun h => ?_⟩
      subst hi1; exact h5
     have HN := Lib.hid hn
     subst hzq
     by_cases h4 : i1 < s.size
     ·obtain ⟨y,hy⟩ : ∃ y : Int,((s[i1]'h4).toNat : Int) = y := ⟨_,rfl⟩
      have hyq : (y == z) = false := by
       rw [beq_eq_false_iff_ne]
       intro h
       exact h2 ⟨h4,fun _ => UInt8.toNat_inj.1 (by have := HQI.out; omega)⟩
      have n0 : (0 : Int) ≤ (i1 : Int) := by omega
      have n1 : (i1 : Int) < (s.size : Int) := by omega
      clear hn hv hxe hi1 hcq hc hz h2
      go_wp2
      go_ret2
      exact ⟨by rw [HN.out]; rfl,rfl⟩
     ·have n1 : ¬ ((i1 : Int) < (s.size : Int)) := by omega
      clear hn hv hxe hi1 hcq hc hz h2
      go_wp2
      go_ret2
      exact ⟨by rw [HN.out]; rfl,rfl⟩
   ·have hzq : (z != qi) = true := by
     rw [bne_iff_ne]
     intro h
     exact hcq (UInt8.toNat_inj.1 (by have := HQI.out; omega))
    have hn : R = (betL q (s.data.toList.drop i1)).map (fun p => ((T ++ [c]) ++ p.1,p.2 + i1)) := by
     rw [hv,← hi1,bet_on s q i hlt T (by rw [hc]; exact hcq),hc]
    have HN := Lib.hid hn
    have HE := Lib.hid (show bb T ++ s.extract i i1 = bb (T ++ [c]) by rw [hxe,bb_app])
    have HI := Lib.hid (show i1 = i + 1 by omega)
    clear hn hv hxe hi1 hcq hc hz
    generalize bb T = TT at *
    go_wp2
    go_round
    case rel => exact ⟨i1,T ++ [c],by have := HI.out; omega,by have := HI.out; rw [List.length_append,List.length_singleton]; omega,by rw [HE.out],rfl,HN.out⟩
    case measure => have := HI.out; simp [intOf]; omega
  ·have l1 : ¬ ((i : Int) < (s.size : Int)) := by omega
   have hn : R = none := by rw [hv,drop_nil s i hlt]; rfl
   have HN := Lib.hid hn
   clear hn hv
   go_wp2
   go_ret2
   exact ⟨by rw [HN.out]; rfl,rfl⟩

def tagL (l : Tx) : Nat := if rowL letB l = 0 then 0 else rowL tagB l
def tagAt (s : ByteArray) (a : Nat) : Int :=
 if (s.data.toList.drop (a + 1 + tagL (s.data.toList.drop (a + 1)))).take 1 = [36] then ((a + 1 + tagL (s.data.toList.drop (a + 1)) + 1 : Nat) : Int) else -1
theorem let_tag (c : UInt8) (h : letB c = true) : tagB c = true := by
 show tagN (c.toNat : Int) = true
 have : letN (c.toNat : Int) = true := h
 unfold tagN
 rw [this]; rfl
theorem tagB_eq (c : UInt8) : tagB c = (letN (c.toNat : Int) || digN (c.toNat : Int)) := rfl
theorem tagL_cons (c : UInt8) (r : Tx) : tagL (c :: r) = if letB c = true then rowL tagB r + 1 else 0 := by
 unfold tagL
 rw [rowL_cons letB]
 by_cases h : letB c = true
 ·rw [if_pos h,if_pos h,if_neg (by omega),rowL_cons,if_pos (let_tag c h)]
 ·rw [if_neg h,if_neg h,if_pos rfl]
theorem tagL_le (l : Tx) : tagL l ≤ l.length := by
 unfold tagL
 split
 ·omega
 ·exact rowL_le _ _
set_option maxHeartbeats 1000000 in
set_option maxRecDepth 100000 in
theorem rtag_any (s : ByteArray) (a : Nat) (ha : a < s.size) (w : World) (hs : s.size ≤ 1048000) :
  Calls Tryz.prog 112 #[.string s,.int .i64 (a : Int)] w fun e w' => e = .returned (.int .i64 (tagAt s a)) ∧ w' = w := by
 have l0 : (0 : Int) ≤ (a : Int) := by omega
 obtain ⟨a1,ha1⟩ : ∃ a1,a + 1 = a1 := ⟨_,rfl⟩
 have cw : IntKind.i64.wrap ((a : Int) + 1) = (a1 : Int) := by rw [show (a : Int) + 1 = (a1 : Int) by omega]; exact IntWalk.i64_in _ (by omega)
 obtain ⟨R,hR⟩ : ∃ R,tagAt s a = R := ⟨_,rfl⟩
 rw [hR]
 obtain ⟨E,hE⟩ : ∃ E,a1 + tagL (s.data.toList.drop a1) = E := ⟨_,rfl⟩
 have hR2 : R = if (s.data.toList.drop E).take 1 = [36] then ((E + 1 : Nat) : Int) else -1 := by rw [← hR]; unfold tagAt; rw [ha1,hE]
 have hE2 : E ≤ s.size := by
  have h1 := tagL_le (s.data.toList.drop a1)
  rw [List.length_drop] at h1
  have : s.size = s.data.toList.length := rfl
  omega
 have HR := Lib.hid hR2
 have HE := Lib.hid hE
 have HA1 := Lib.hid ha1
 clear hR hE hR2 ha1
 go_enter Tryz.func112,Tryz.ntmps112
 go_wp2
 go_loop [5] (fun u5 => ∃ i : Nat,i ≤ s.size ∧ u5 = .int .i64 i ∧ ((i = a1 ∧ E = i + tagL (s.data.toList.drop i)) ∨ (a1 < i ∧ E = i + rowL tagB (s.data.toList.drop i)))) (fun u5 => s.size - (intOf u5).toNat)
 case atStart => exact ⟨a1,by have := HA1.out; omega,rfl,.inl ⟨rfl,HE.out.symm⟩⟩
 case round =>
  obtain ⟨i,hi,rfl,hv⟩ := hrel
  have HV := Lib.hid hv
  clear hv HE
  have hexit : ∀ (h : E = i),Hid (E = i) := fun h => Lib.hid h
  by_cases hlt : i < s.size
  ·have m0 : (0 : Int) ≤ (i : Int) := by omega
   have m1 : (i : Int) < (s.size : Int) := by omega
   obtain ⟨c,hc⟩ : ∃ c,s[i]'hlt = c := ⟨_,rfl⟩
   obtain ⟨z,hz⟩ : ∃ z : Int,(c.toNat : Int) = z := ⟨_,rfl⟩
   have hci : ((s[i]'hlt).toNat : Int) = z := by rw [hc,hz]
   obtain ⟨i1,hi1⟩ : ∃ i1,i + 1 = i1 := ⟨_,rfl⟩
   have cwi : IntKind.i64.wrap ((i : Int) + 1) = (i1 : Int) := by rw [show (i : Int) + 1 = (i1 : Int) by omega]; exact IntWalk.i64_in _ (by omega)
   have HI1 := Lib.hid hi1
   have hlet := fun w => rlet_any z w
   have hdig := fun w => rdig_any z w
   have hd := byte_at s i hlt
   rw [hc] at hd
   have hlb : letB c = letN z := by rw [← hz]; rfl
   have hdb : tagB c = (letN z || digN z) := by rw [tagB_eq,hz]
   have HD := Lib.hid hd
   have HLB := Lib.hid hlb
   have HDB := Lib.hid hdb
   have HLET := Lib.hid hlet
   have HDIG := Lib.hid hdig
   have htk : (s.data.toList.drop i).take 1 = [c] := by rw [hd]; rfl
   have HTK := Lib.hid htk
   have HZ := Lib.hid hz
   clear hlet hdig hd hlb hdb hi1 hc hz htk
   generalize hbl : letN z = bl at *
   generalize hbd : digN z = bd at *
   clear hbl hbd
   cases bl with
   | true =>
    have hn : i1 ≤ s.size ∧ a1 < i1 ∧ E = i1 + rowL tagB (s.data.toList.drop i1) := by
     have h1 := HI1.out
     rcases HV.out with ⟨e,h⟩ | ⟨e,h⟩
     ·rw [HD.out,tagL_cons,if_pos HLB.out,h1] at h
      exact ⟨by omega,by omega,by omega⟩
     ·rw [HD.out,rowL_cons,if_pos (by rw [HDB.out]; rfl),h1] at h
      exact ⟨by omega,by omega,by omega⟩
    have HN := Lib.hid hn
    clear hn
    go_wp2_with (first
     | (go_at_call 107; (with_reducible refine (HLET.out _).mono ?_); rintro e w1 ⟨rfl,hw1⟩; obtain rfl := hw1.symm)
     | (go_at_call 110; (with_reducible refine (HDIG.out _).mono ?_); rintro e w1 ⟨rfl,hw1⟩; obtain rfl := hw1.symm))
    go_round
    case rel => exact ⟨i1,HN.out.1,rfl,.inr HN.out.2⟩
    case measure => have := HI1.out; simp [intOf]; omega
   | false =>
    have hcases : (i = a1 ∧ E = i) ∨ (((a1 : Int) < (i : Int)) ∧ bd = false ∧ E = i) ∨ (((a1 : Int) < (i : Int)) ∧ bd = true ∧ i1 ≤ s.size ∧ a1 < i1 ∧ E = i1 + rowL tagB (s.data.toList.drop i1)) := by
     have h1 := HI1.out
     rcases HV.out with ⟨e,h⟩ | ⟨e,h⟩
     ·left
      rw [HD.out,tagL_cons,if_neg (by rw [HLB.out]; decide)] at h
      exact ⟨e,by omega⟩
     ·right
      rw [HD.out,rowL_cons,HDB.out,h1] at h
      cases bd with
      | false => left; rw [if_neg (by decide)] at h; exact ⟨by omega,rfl,by omega⟩
      | true => right; rw [if_pos (by decide)] at h; exact ⟨by omega,rfl,by omega,by omega,by omega⟩
    rcases hcases with ⟨rfl,h⟩ | ⟨hai,rfl,h⟩ | ⟨hai,rfl,h⟩
    ·have hai : ¬ ((i : Int) < (i : Int)) := by omega
     have he : R = if z = 36 then (i1 : Int) else -1 := by
      rw [HR.out,h,HTK.out]
      have h1 := HI1.out
      have h2 := HZ.out
      by_cases h36 : c = 36
      ·rw [if_pos (by rw [h36]),if_pos (by rw [← h2,h36]; rfl)]; omega
      ·rw [if_neg (by intro hh; injection hh with hh; exact h36 hh),if_neg (by intro hh; exact h36 (UInt8.toNat_inj.1 (by show _ = 36; omega)))]
     have HEX := Lib.hid he
     clear he h hexit
     by_cases h36 : z = 36
     ·subst h36
      go_wp2_with (first
       | (go_at_call 107; (with_reducible refine (HLET.out _).mono ?_); rintro e w1 ⟨rfl,hw1⟩; obtain rfl := hw1.symm)
       | (go_at_call 110; (with_reducible refine (HDIG.out _).mono ?_); rintro e w1 ⟨rfl,hw1⟩; obtain rfl := hw1.symm))
      go_ret
      exact ⟨by rw [HEX.out]; rfl,rfl⟩
     ·have e36 : (z == (36 : Int)) = false := by rw [beq_eq_false_iff_ne]; exact h36
      have HNE := Lib.hid h36
      clear h36
      go_wp2_with (first
       | (go_at_call 107; (with_reducible refine (HLET.out _).mono ?_); rintro e w1 ⟨rfl,hw1⟩; obtain rfl := hw1.symm)
       | (go_at_call 110; (with_reducible refine (HDIG.out _).mono ?_); rintro e w1 ⟨rfl,hw1⟩; obtain rfl := hw1.symm))
      go_ret
      exact ⟨by rw [HEX.out,if_neg HNE.out]; rfl,rfl⟩
    ·have he : R = if z = 36 then (i1 : Int) else -1 := by
      rw [HR.out,h,HTK.out]
      have h1 := HI1.out
      have h2 := HZ.out
      by_cases h36 : c = 36
      ·rw [if_pos (by rw [h36]),if_pos (by rw [← h2,h36]; rfl)]; omega
      ·rw [if_neg (by intro hh; injection hh with hh; exact h36 hh),if_neg (by intro hh; exact h36 (UInt8.toNat_inj.1 (by show _ = 36; omega)))]
     have HEX := Lib.hid he
     clear he h hexit
     by_cases h36 : z = 36
     ·subst h36
      go_wp2_with (first
       | (go_at_call 107; (with_reducible refine (HLET.out _).mono ?_); rintro e w1 ⟨rfl,hw1⟩; obtain rfl := hw1.symm)
       | (go_at_call 110; (with_reducible refine (HDIG.out _).mono ?_); rintro e w1 ⟨rfl,hw1⟩; obtain rfl := hw1.symm))
      go_ret
      exact ⟨by rw [HEX.out]; rfl,rfl⟩
     ·have e36 : (z == (36 : Int)) = false := by rw [beq_eq_false_iff_ne]; exact h36
      have HNE := Lib.hid h36
      clear h36
      go_wp2_with (first
       | (go_at_call 107; (with_reducible refine (HLET.out _).mono ?_); rintro e w1 ⟨rfl,hw1⟩; obtain rfl := hw1.symm)
       | (go_at_call 110; (with_reducible refine (HDIG.out _).mono ?_); rintro e w1 ⟨rfl,hw1⟩; obtain rfl := hw1.symm))
      go_ret
      exact ⟨by rw [HEX.out,if_neg HNE.out]; rfl,rfl⟩
    ·have HN := Lib.hid h
     clear h
     go_wp2_with (first
      | (go_at_call 107; (with_reducible refine (HLET.out _).mono ?_); rintro e w1 ⟨rfl,hw1⟩; obtain rfl := hw1.symm)
      | (go_at_call 110; (with_reducible refine (HDIG.out _).mono ?_); rintro e w1 ⟨rfl,hw1⟩; obtain rfl := hw1.symm))
     go_round
     case rel => exact ⟨i1,HN.out.1,rfl,.inr HN.out.2⟩
     case measure => have := HI1.out; simp [intOf]; omega
  ·have m1 : ¬ ((i : Int) < (s.size : Int)) := by omega
   have hd := drop_nil s i hlt
   have hn : R = -1 := by
    have he : E = i := by
     rcases HV.out with ⟨e,h⟩ | ⟨e,h⟩
     ·rw [hd] at h; exact h
     ·rw [hd] at h; exact h
    rw [HR.out,he,hd]; rfl
   have HN := Lib.hid hn
   clear hn hd hexit
   go_wp2
   go_ret
   exact ⟨by rw [HN.out]; rfl,rfl⟩

def dolAt (s : ByteArray) (a t : Nat) : Option (Tx × Nat) :=
 if 0 ≤ Lib.index (s.data.toList.drop t) (s.extract a t).data.toList then
  some ((s.data.toList.drop t).take (Lib.index (s.data.toList.drop t) (s.extract a t).data.toList).toNat,t + (Lib.index (s.data.toList.drop t) (s.extract a t).data.toList).toNat + (t - a)) else none
theorem idx_cons (b : UInt8) (l m : Tx) : Lib.index (b :: l) m = if m.isPrefixOf (b :: l) = true then 0 else if Lib.index l m = -1 then -1 else Lib.index l m + 1 := by
 rw [Lib.index]
 by_cases h : m.isPrefixOf (b :: l) = true
 ·rw [if_pos h,if_pos h]
 ·rw [if_neg h,if_neg h]
  by_cases h2 : Lib.index l m = -1
  ·rw [if_pos h2,if_pos (by rw [h2]; rfl)]
  ·rw [if_neg h2,if_neg (by rw [beq_iff_eq]; exact h2)]
theorem idx_nil (m : Tx) (h : m ≠ []) : Lib.index [] m = -1 := by
 rw [Lib.index,if_neg]
 cases m with
 | nil => exact absurd rfl h
 | cons => simp
theorem ext_to (s : ByteArray) (t i : Nat) (h : i ≤ s.size) : s.extract t i = bb ((s.data.toList.drop t).take (i - t)) := by
 apply ByteArray.ext
 apply Array.ext'
 rw [ByteArray.data_extract,Array.toList_extract,List.extract_eq_take_drop]
set_option maxHeartbeats 1000000 in
set_option maxRecDepth 100000 in
theorem rdollar_any (s : ByteArray) (a t : Nat) (hat : a < t) (ht : t ≤ s.size) (w : World) (hs : s.size ≤ 1048000) :
  Calls Tryz.prog 113 #[.string s,.int .i64 (a : Int),.int .i64 (t : Int)] w fun e w' => e = .returned (quoV (dolAt s a t)) ∧ w' = w := by
 have hms : (s.extract a t).size ≤ 1048000 := by rw [ByteArray.size_extract]; omega
 have hmn : (s.extract a t).data.toList ≠ [] := by
  intro h
  have := congrArg List.length h
  have e : (s.extract a t).data.toList.length = (s.extract a t).size := rfl
  rw [e,ByteArray.size_extract] at this
  simp at this; omega
 have hst := fun i hi w => starts_any s (s.extract a t) i w (by omega) (by omega) hi
 obtain ⟨D,hD⟩ : ∃ D,Lib.index (s.data.toList.drop t) (s.extract a t).data.toList = D := ⟨_,rfl⟩
 have hR : dolAt s a t = if 0 ≤ D then some ((s.data.toList.drop t).take D.toNat,t + D.toNat + (t - a)) else none := by rw [← hD]; rfl
 obtain ⟨R,hR1⟩ : ∃ R,dolAt s a t = R := ⟨_,rfl⟩
 rw [hR1] at hR
 rw [hR1]
 have l0 : (0 : Int) ≤ (a : Int) := by omega
 have l1 : (a : Int) ≤ (t : Int) := by omega
 have l2 : (t : Int) ≤ (s.size : Int) := by omega
 have hge := Lib.index_ge
 have HR := Lib.hid hR
 have HD := Lib.hid hD
 have HST := Lib.hid hst
 have HMN := Lib.hid hmn
 clear hR hR1 hD hst hmn hge
 go_enter Tryz.func113,Tryz.ntmps113
 go_wp2
 go_loop [8] (fun u8' => ∃ i : Nat,t ≤ i ∧ i ≤ s.size + 1 ∧ u8' = .int .i64 i ∧ ((i ≤ s.size ∧ D = if Lib.index (s.data.toList.drop i) (s.extract a t).data.toList = -1 then -1 else ((i - t : Nat) : Int) + Lib.index (s.data.toList.drop i) (s.extract a t).data.toList) ∨ (s.size < i ∧ D = -1))) (fun u8' => s.size + 1 - (intOf u8').toNat)
 case atStart =>
  refine ⟨t,Nat.le_refl _,by omega,rfl,.inl ⟨ht,?_⟩⟩
  rw [HD.out,Nat.sub_self]
  by_cases h : D = -1
  ·rw [if_pos h]; exact h
  ·rw [if_neg h]; omega
 case round =>
  obtain ⟨i,hti,hi,rfl,hv⟩ := hrel
  have HV := Lib.hid hv
  clear hv HD
  by_cases hle : i ≤ s.size
  ·have m1 : (i : Int) ≤ (s.size : Int) := by omega
   have m2 : (t : Int) ≤ (i : Int) := by omega
   have m0 : (0 : Int) ≤ (i : Int) := by omega
   have hcall := HST.out i hle
   have hv : D = if Lib.index (s.data.toList.drop i) (s.extract a t).data.toList = -1 then -1 else ((i - t : Nat) : Int) + Lib.index (s.data.toList.drop i) (s.extract a t).data.toList := by
    rcases HV.out with ⟨_,h⟩ | ⟨h,_⟩
    ·exact h
    ·omega
   cases hb : (s.extract a t).data.toList.isPrefixOf (s.data.toList.drop i) with
   | true =>
    rw [hb] at hcall
    have hlt : i < s.size := by
     rcases Nat.lt_or_ge i s.size with h | h
     ·exact h
     ·rw [drop_nil s i (by omega)] at hb
      have := (List.isPrefixOf_iff_prefix.1 hb).length_le
      exact absurd (List.eq_nil_of_length_eq_zero (by simpa using this)) HMN.out
    have hidx : Lib.index (s.data.toList.drop i) (s.extract a t).data.toList = 0 := by
     rw [byte_at s i hlt] at hb ⊢
     rw [idx_cons,if_pos hb]
    rw [hidx,if_neg (by omega)] at hv
    have hn : R = some ((s.data.toList.drop t).take (i - t),i + (t - a)) := by
     have hDn : D.toNat = i - t := by omega
     rw [HR.out,if_pos (by omega),hDn]
     congr 2
     omega
    have hxe := ext_to s t i hle
    obtain ⟨b,hbb⟩ : ∃ b,i + t = b := ⟨_,rfl⟩
    obtain ⟨c,hcc⟩ : ∃ c,i + (t - a) = c := ⟨_,rfl⟩
    have cw1 : IntKind.i64.wrap ((i : Int) + (t : Int)) = (b : Int) := by rw [show (i : Int) + (t : Int) = (b : Int) by omega]; exact IntWalk.i64_in _ (by omega)
    have cw2 : IntKind.i64.wrap ((b : Int) - (a : Int)) = (c : Int) := by rw [show (b : Int) - (a : Int) = (c : Int) by omega]; exact IntWalk.i64_in _ (by omega)
    rw [hcc] at hn
    have HN := Lib.hid hn
    have HXE := Lib.hid hxe
    have HC := Lib.hid hcall
    clear hv hb hidx hn hxe hbb hcc hcall HV
    go_wp2_with (go_at_call 105; (with_reducible refine (HC.out _).mono ?_); rintro e w1 ⟨rfl,hw1⟩; obtain rfl := hw1.symm)
    go_ret2
    exact ⟨by rw [HN.out,HXE.out]; rfl,rfl⟩
   | false =>
    rw [hb] at hcall
    have hn : ((i + 1 ≤ s.size ∧ D = if Lib.index (s.data.toList.drop (i + 1)) (s.extract a t).data.toList = -1 then -1 else ((i + 1 - t : Nat) : Int) + Lib.index (s.data.toList.drop (i + 1)) (s.extract a t).data.toList) ∨ (s.size < i + 1 ∧ D = -1)) := by
     by_cases hlt : i < s.size
     ·left
      refine ⟨hlt,?_⟩
      have hix : Lib.index (s.data.toList.drop i) (s.extract a t).data.toList = if Lib.index (s.data.toList.drop (i + 1)) (s.extract a t).data.toList = -1 then -1 else Lib.index (s.data.toList.drop (i + 1)) (s.extract a t).data.toList + 1 := by
       rw [byte_at s i hlt] at hb ⊢
       rw [idx_cons,if_neg]
       rw [hb]; simp
      rw [hix] at hv
      by_cases h1 : Lib.index (s.data.toList.drop (i + 1)) (s.extract a t).data.toList = -1
      ·rw [if_pos h1,if_pos rfl] at hv; rw [if_pos h1]; exact hv
      ·have hge := Lib.index_ge (s.data.toList.drop (i + 1)) (s.extract a t).data.toList
       rw [if_neg h1,if_neg (by omega)] at hv
       rw [if_neg h1]; omega
     ·right
      rw [drop_nil s i hlt,idx_nil _ HMN.out,if_pos rfl] at hv
      exact ⟨by omega,hv⟩
    have HN := Lib.hid hn
    have HC := Lib.hid hcall
    clear hv hb hn hcall HV
    go_wp2_with (go_at_call 105; (with_reducible refine (HC.out _).mono ?_); rintro e w1 ⟨rfl,hw1⟩; obtain rfl := hw1.symm)
    go_round
    case rel => exact ⟨i + 1,by omega,by omega,by go_num,HN.out⟩
    case measure => simp [intOf]; omega
  ·have m1 : ¬ ((i : Int) ≤ (s.size : Int)) := by omega
   have hn : R = none := by
    rcases HV.out with ⟨h,_⟩ | ⟨_,h⟩
    ·omega
    ·rw [HR.out,if_neg (by omega)]
   have HN := Lib.hid hn
   clear hn HV
   go_wp2
   go_ret2
   exact ⟨by rw [HN.out]; rfl,rfl⟩
end Go.Proofs.YtgdabkpahmlkpaaGreatDoor
