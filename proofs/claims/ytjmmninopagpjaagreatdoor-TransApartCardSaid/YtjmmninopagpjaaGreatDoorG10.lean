/- Lxt Lxw Lxx Lxy -/
import Derived.Test.YtjmmninopagpjaaGreatDoorG9
import Derived.WalkMore
import Derived.BigQuiet
import Derived.OwnWalk
import Derived.Deep.LoopGhost
import Derived.Deep.DeepMust
import Derived.Deep.DeepAppendWide
import Derived.Deep.QuietTactic
import Derived.Deep.AppendLies
import Derived.Test.YtjmmninopagpjaaGreatDoorG1
set_option linter.unusedSimpArgs false
set_option linter.unusedVariables false
namespace Go.Proofs.YtjmmninopagpjaaGreatDoor
open Go.ChangeShapes Go.WideShapes Go.ChangeAt Go.RowKit
set_option maxRecDepth 100000
set_option linter.unusedVariables false
set_option linter.unusedSimpArgs false

theorem info30 : (Tryz.prog.info? 125).map (fun i => (i.zero,i.size,i.bytes)) = some (some (.agg #[.int .i64 0,.string ByteArray.empty,.int .i64 0]),3,32) := by kernel_rfl
theorem i30_parts : ∃ i,Tryz.prog.info? 125 = some i ∧ i.zero = some (.agg #[.int .i64 0,.string ByteArray.empty,.int .i64 0]) ∧ i.size = 3 ∧ i.bytes = 32 := by
 have h := info30
 cases e : Tryz.prog.info? 125 with
 | none => rw [e] at h; cases h
 | some i =>
  rw [e] at h
  simp only [Option.map_some,Option.some.injEq,Prod.mk.injEq] at h
  exact ⟨i,rfl,h.1,h.2.1,h.2.2⟩
theorem und23 : Tryz.prog.underlying 109 = some (.slice 125) := by kernel_rfl
theorem tok_cells (w : World) (t : Tok) : ∀ (j : Nat) (u : Value),(tokCells t)[j]? = some u → (w.alloc (.cells #[.int .i64 t.1,.string t.2.1,.int .i64 t.2.2] 125)).cell? ((⟨w.heap.size,0,none⟩ : Addr).add j) = some u := by
 intro j u hj
 rw [Addr.add_lit,Nat.zero_add,World.cell?_alloc_mark]
 match j,hj with
 | 0,hj => simpa [tokCells] using hj
 | 1,hj => simpa [tokCells] using hj
 | 2,hj => simpa [tokCells] using hj
 | n + 3,hj => simp [tokCells] at hj
theorem tok_cells2 (w : World) (o : Obj) (t : Tok) : ∀ (j : Nat) (u : Value),(tokCells t)[j]? = some u → ((w.alloc o).alloc (.cells #[.int .i64 t.1,.string t.2.1,.int .i64 t.2.2] 125)).cell? ((⟨w.heap.size + 1,0,none⟩ : Addr).add j) = some u := by
 have e : (w.alloc o).heap.size = w.heap.size + 1 := by simp
 rw [← e]
 exact tok_cells (w.alloc o) t
theorem tok_one (t : Tok) : ∀ u ∈ tokCells t,u.oneCell' = true := by
 intro u hu
 simp only [tokCells,List.mem_cons,List.not_mem_nil,or_false] at hu
 rcases hu with rfl | rfl | rfl <;> rfl
theorem two_more (w w2 : World) (o p : Obj) (h : w.heap.size < w2.heap.size) : w.heap.size + 1 ≤ ((w2.alloc o).alloc p).heap.size := by simp; omega
theorem two_below (w2 : World) (o p : Obj) : Below w2.heap.size w2 ((w2.alloc o).alloc p) := ((Below.refl _ _).alloc (Nat.le_refl _) _).alloc (by simp) _
theorem piece_left {w2 w9 : World} {row : Option Nat} (kd n : Int) (t : ByteArray) (T : Obj) (g : ((w2.alloc (.cells #[.int .i64 kd,.string t,.int .i64 n] 141)).alloc T).grownBy w9 row) (hr : ∀ k,row = some k → k < w2.heap.size) :
  w9.cell? ⟨w2.heap.size,2,none⟩ = some (.int .i64 n) := by
 obtain ⟨_,_,_,_,h⟩ := g
 have e : ((w2.alloc (.cells #[.int .i64 kd,.string t,.int .i64 n] 141)).alloc T).cell? ⟨w2.heap.size,2,none⟩ = some (.int .i64 n) := by simp [go_sem]
 have hb := h w2.heap.size (by simp; omega) (by intro hh; have := hr _ hh.symm; omega)
 rw [World.cell?_of_block (w := (w2.alloc (.cells #[.int .i64 kd,.string t,.int .i64 n] 141)).alloc T) hb]
 exact e
def ScanP (w : World) (r : List Tok × Int × Int) (e : Ending) (w' : World) : Prop :=
 ∃ v,e = .returned (.tuple #[v,.int .i64 r.2.1,.int .i64 r.2.2]) ∧ w'.ownsRow (w.heap.size + 1) 125 3 v r.1.length (tokRow r.1) ∧ Below w.heap.size w w'
set_option maxHeartbeats 1000000 in
set_option maxRecDepth 100000 in
theorem scan_small (s : ByteArray) (m : Int) (w : World) (hs : s.size ≤ 2000) (hm : Wd m w) (R : List Tok × Int × Int) (hR : R = scanN (s.size + 1) s 0 []) :
  Calls Tryz.prog 76 #[.string s] w (ScanP w R) := by
 have hl : ¬ ((2000 : Int) < (s.size : Int)) := by omega
 obtain ⟨i30,hi30,hz30,hs30,hb30⟩ := i30_parts
 have hr := readers_any w
 have HR := Lib.hid hr
 have HS := Lib.hid (ScI.start hm)
 have HE := Lib.hid hR
 clear hr hm hR
 go_enter Tryz.func76,Tryz.ntmps76
 go_wp2
 go_step3
 go_wp2_with (go_at_call 100; (with_reducible refine HR.out.mono ?_); rintro e w1 ⟨rfl,hw⟩; subst hw)
 go_step3
 go_wp2
 go_loopg [5,7] s.size (fun g u5 u7 wx => ∃ (l : List Tok) (a : Nat),u7 = .int .i64 (a : Int) ∧ a ≤ s.size ∧ s.size - a ≤ g ∧ ScI m w l u5 wx ∧ R = scanN (g + 1) s a l ∧ l.length ≤ a)
 case atStart => exact ⟨[],0,rfl,Nat.zero_le _,by omega,HS.out,HE.out,Nat.le_refl _⟩
 case round =>
  obtain ⟨l,a,rfl,ha,hg,hI,hv,hla⟩ := hrel
  clear HR HS HE
  have HV := Lib.hid hv
  have HI := Lib.hid hI
  clear hv hI
  by_cases hlt : a < s.size
  ·obtain ⟨g,rfl⟩ : ∃ g,gk = g + 1 := ⟨gk - 1,by omega⟩
   have l0 : (a : Int) < (s.size : Int) := by omega
   have l1 : (0 : Int) ≤ (a : Int) := by omega
   have l2 : (a : Int) ≤ (s.size : Int) := by omega
   have hrs : 0 < (s.extract a s.size).size := by rw [ByteArray.size_extract]; omega
   have hrl : (s.extract a s.size).size < 4294967281 := Nat.lt_of_le_of_lt (ext_le s a) (by omega)
   obtain ⟨rest,hrest⟩ : ∃ r,s.extract a s.size = r := ⟨_,rfl⟩
   have hrz : rest.size = s.size - a := by rw [← hrest,ByteArray.size_extract]; omega
   have hV2 : R = match findR 10 rest with
    | none => ([],7,(a : Int))
    | some p => if p.2.2 = -1 then ([],6,(a : Int)) else scanN (g + 1) s (a + p.2.2.toNat) (if p.1 = 0 then l else l ++ [(p.1,p.2.1,(a : Int))]) := by
    rw [HV.out,scanN,if_neg (by omega),hrest]
    cases findR 10 rest <;> rfl
   rw [hrest] at hrs hrl
   have HV2 := Lib.hid hV2
   have HRS := Lib.hid hrs
   have HRL := Lib.hid hrl
   have HRZ := Lib.hid hrz
   clear hV2 HV hrs hrl hrz
   go_wp2
   go_loopg [5,7,21] 10 (fun k x5 x7 x21 wx => ∃ i : Nat,i + k = 10 ∧ x21 = .int .i64 (i : Int) ∧ x5 = u5 ∧ x7 = .int .i64 (a : Int) ∧ ScI m w l u5 wx ∧ findR k rest = findR 10 rest)
   case atStart => exact ⟨0,rfl,rfl,rfl,rfl,HI.out,rfl⟩
   case round =>
    obtain ⟨i,hik,rfl,rfl,rfl,hI2,hf⟩ := hrel
    have HI2 := Lib.hid hI2
    have HF := Lib.hid hf
    clear hI2 hf
    cases gk with
    | zero =>
     have hi : i = 10 := by omega
     subst hi
     have hv3 : R = ([],7,(a : Int)) := by rw [HV2.out,← HF.out]; rfl
     clear HV2
     go_wp2
     go_ret3
     exact ⟨_,rfl,World.ownsRow_nil _ _ _ _,HI2.out.bel⟩
    | succ k =>
     have hi : i < 10 := by omega
     have l3 : (i : Int) < 10 := by omega
     have l4 : (0 : Int) ≤ (i : Int) := by omega
     have hc : wr.cell? ⟨w.heap.size,i,none⟩ = some (.func (.func (rdF i)) #[] #[]) := HI2.out.reader i hi
     have hcall := fun w1 h1 => rd_call i hi rest HRS.out HRL.out m w1 h1
     have hsz := rd_sized i rest HRS.out
     have hfi : findR (k + 1) rest = if (rdP i rest).2.2 = 0 then findR k rest else some (rdP i rest) := by
      have := findR_at i hi rest
      rwa [show 10 - i = k + 1 by omega,show 10 - (i + 1) = k by omega] at this
     have hen := rd_enter i hi
     generalize rdP i rest = p at *
     generalize rdF i = fi at *
     obtain ⟨kd,t,z⟩ := p
     have hcall : ∀ w1,Wd m w1 → Calls Tryz.prog fi #[.string rest] w1 fun e w' => e = .returned (.agg #[.int .i64 kd,.string t,.int .i64 z]) ∧ Below w1.heap.size w1 w' := hcall
     have HCALL := Lib.hid hcall
     have HSZ := Lib.hid hsz
     have HFI := Lib.hid hfi
     have HIK := Lib.hid hik
     clear hcall hsz hfi hik
     by_cases hz0 : z = 0
     ·have z0 : (z == (0 : Int)) = true := by rw [beq_iff_eq]; exact hz0
      have hf2 : findR k rest = findR 10 rest := by rw [← HF.out,HFI.out]; exact (if_pos hz0).symm
      have HF2 := Lib.hid hf2
      clear hf2 hz0
      go_wp2_with ((with_reducible refine (HCALL.out _ HI2.out.wd).mono ?_); rintro e w2 ⟨rfl,hb2⟩; have HI3 := Lib.hid (HI2.out.step hb2); clear hb2)
      go_roundg k
      case measure => exact Nat.lt_succ_self _
      case rel => exact ⟨i + 1,by have := HIK.out; omega,rfl,rfl,rfl,HI3.out.step ((Below.refl _ _).alloc (Nat.le_refl _) _),HF2.out⟩
     ·have z0 : (z == (0 : Int)) = false := by rw [beq_eq_false_iff_ne]; exact hz0
      have hf2 : findR 10 rest = some (kd,t,z) := by rw [← HF.out,HFI.out]; exact if_neg hz0
      by_cases hz1 : z = -1
      ·have z1 : (z == (-1 : Int)) = true := by rw [beq_iff_eq]; exact hz1
       have hv3 : R = ([],6,(a : Int)) := by rw [HV2.out,hf2]; exact if_pos hz1
       clear HV2 hf2 hz0 hz1
       go_wp2_with ((with_reducible refine (HCALL.out _ HI2.out.wd).mono ?_); rintro e w2 ⟨rfl,hb2⟩; have HI3 := Lib.hid (HI2.out.step hb2); clear hb2)
       try rw [Exit.noGoto_ret]
       go_ret3
       rw [hv3]
       exact ⟨_,rfl,World.ownsRow_nil _ _ _ _,HI3.out.bel.trans (((Below.refl _ _).alloc (Nat.le_refl _) _).mono HI3.out.bel.size)⟩
      ·have z1 : (z == (-1 : Int)) = false := by rw [beq_eq_false_iff_ne]; exact hz1
       obtain ⟨n,hn⟩ : ∃ n : Nat,z = (n : Int) := ⟨z.toNat,by have := HSZ.out; unfold Sized at this; simp only at this; omega⟩
       subst hn
       have hn1 : 1 ≤ n := by omega
       have hn2 : n ≤ s.size - a := by have := HSZ.out; have := HRZ.out; unfold Sized at *; simp only at *; omega
       have hv3 : R = scanN (g + 1) s (a + n) (if kd = 0 then l else l ++ [(kd,t,(a : Int))]) := by
        rw [HV2.out,hf2]; exact if_neg hz1
       obtain ⟨b,hb⟩ : ∃ b,a + n = b := ⟨_,rfl⟩
       have cw : IntKind.i64.wrap ((a : Int) + (n : Int)) = (b : Int) := by rw [show (a : Int) + (n : Int) = (b : Int) by omega]; exact IntWalk.i64_in _ (by omega)
       rw [hb] at hv3
       have HV3 := Lib.hid hv3
       have HBN := Lib.hid (show a < b ∧ b ≤ s.size by omega)
       clear hv3 HV2 hf2 hz0 hz1 hn1 hn2 hb
       by_cases hk : kd = 0
       ·have k0 : (kd != (0 : Int)) = false := by rw [bne,beq_iff_eq.2 hk]; rfl
        have HK := Lib.hid hk
        clear hk
        go_wp2_with ((with_reducible refine (HCALL.out _ HI2.out.wd).mono ?_); rintro e w2 ⟨rfl,hb2⟩; have HI3 := Lib.hid (HI2.out.step hb2); clear hb2)
        go_roundg g
        case measure => omega
        case rel => exact ⟨l,b,rfl,HBN.out.2,by have := HBN.out; omega,HI3.out.step ((Below.refl _ _).alloc (Nat.le_refl _) _),by rw [HV3.out,if_pos HK.out],by have := HBN.out; omega⟩
       ·have k0 : (kd != (0 : Int)) = true := by rw [bne,beq_eq_false_iff_ne.2 hk]; rfl
        have HK := Lib.hid hk
        clear hk
        go_wp2_with (first
         | ((with_reducible refine (HCALL.out _ HI2.out.wd).mono ?_); rintro e w2 ⟨rfl,hb2⟩; have HI3 := Lib.hid (HI2.out.step hb2); clear hb2)
         | (at_builtin; go_must (
           refine wpList_append_own_wide _ rfl (.tmp 40) (.tmp 47) 109 rfl (w.heap.size + 1) 125 i30 (.agg #[.int .i64 0,.string ByteArray.empty,.int .i64 0]) 3 32 und23 hi30 hz30 hs30 hb30 rfl (by decide) u5 l.length (tokRow l) rfl ((HI3.out.row.alloc _).alloc _) ⟨w2.heap.size + 1,0,none⟩ 1 1 (tokCells (kd,t,(a : Int))) rfl rfl ?c1 ?c2 ?c3 ?c4 ?c5 ?_
           case c1 => exact tok_cells2 w2 _ (kd,t,(a : Int))
           case c2 => exact tok_one _
           case c3 => unfold maxLen; omega
           case c4 => omega
           case c5 => exact two_more w w2 _ _ HI3.out.lt
           intro v9 w9 hown9 hgr9 _
           have e9 := piece_left kd (n : Int) t _ hgr9 (fun k hk => (World.ownsRow.lt HI3.out.row k hk).2))))
        have HI4 := HI3.out.step (two_below w2 (.cells #[.int .i64 kd,.string t,.int .i64 (n : Int)] 141) (.cells #[.int .i64 kd,.string t,.int .i64 (a : Int)] 125))
        have HI5 := Lib.hid (HI4.more (kd,t,(a : Int)) hgr9 hown9)
        clear HI4
        go_roundg g
        case measure => omega
        case rel => exact ⟨l ++ [(kd,t,(a : Int))],b,rfl,HBN.out.2,by have := HBN.out; omega,HI5.out,by rw [HV3.out,if_neg HK.out],by have := HBN.out; rw [List.length_append,List.length_singleton]; omega⟩
  ·have hl2 : ¬ ((a : Int) < (s.size : Int)) := by omega
   have hv3 : R = (l,0,0) := by rw [HV.out,scanN,if_pos (by omega)]
   clear HV
   go_wp2
   try rw [Exit.noGoto_ret]
   go_ret3
   try rw [hv3]
   exact ⟨_,rfl,HI.out.row,HI.out.bel⟩


theorem own_kind {w : World} {B z n : Nat} {e : TypeId} {v : Value} {xs : List Value} (h : w.ownsRow B e z v n xs) : ∀ g,v.ownBlock = some g → g < w.heap.size ∧ ∃ c fz,w.heap[g]? = some (.cells c e fz) := by
 intro g hg
 rcases h.2 with ⟨rfl,_⟩ | ⟨g',cap,cur,rfl,_,hgg,_⟩
 ·simp [Value.ownBlock] at hg
 ·simp [Value.ownBlock] at hg
  subst hg
  exact ⟨(Array.getElem?_eq_some_iff.1 hgg).1,cur,_,hgg⟩

end Go.Proofs.YtjmmninopagpjaaGreatDoor
