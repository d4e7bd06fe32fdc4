/- Lxe Lxf Lxg Lxh Lxj Lxk Lxm Lxn Lxo Lxq Lxs Lxu Bld Lxv -/
import Derived.Test.YtjmmninopagpjaaGreatDoorG4
import Derived.WalkMore
import Derived.BigQuiet
import Derived.IntWalk
import Derived.Laws.IdiomStrings
import Derived.Deep.QuietTactic
import Derived.OwnWalk
import Derived.Deep.DeepMust
import Derived.Deep.DeepAppendWide
import Derived.Lib.Builder
import Derived.Lib.OthersKept
import Derived.Lib.AppendStr
import Derived.WalkKit
import Derived.Shelf.Strings.Builder1
import Derived.Test.YtjmmninopagpjaaGreatDoorShelf
import Derived.Lib.ReplaceLaws
import Derived.Lib.SplitLaws
import Derived.Test.YtjmmninopagpjaaGreatDoorG1
set_option linter.unusedSimpArgs false
set_option linter.unusedVariables false
namespace Go.Proofs.YtjmmninopagpjaaGreatDoor
open Go.ChangeShapes Go.WideShapes Go.ChangeAt Go.RowKit
set_option maxRecDepth 100000
set_option linter.unusedVariables false
set_option linter.unusedSimpArgs false

def lowI (z : Int) : Int := if 65 ≤ z ∧ z ≤ 90 then z + 32 else z
def lowB (c : UInt8) : UInt8 := if 65 ≤ c.toNat ∧ c.toNat ≤ 90 then c + 32 else c
theorem lowB_I (c : UInt8) : ((lowB c).toNat : Int) = lowI (c.toNat : Int) := by
 unfold lowB lowI
 by_cases h : 65 ≤ c.toNat ∧ c.toNat ≤ 90
 ·rw [if_pos h,if_pos (by omega),UInt8.toNat_add]
  have : (32 : UInt8).toNat = 32 := rfl
  rw [this]
  omega
 ·rw [if_neg h,if_neg (by omega)]
def smallA (s : ByteArray) : ByteArray := ⟨(s.data.toList.map lowB).toArray⟩
structure SmI (s : ByteArray) (w : World) (k : Nat) (wr : World) : Prop where
 cell : ∀ (j : Nat) (hj : j < s.size),wr.cell? ⟨w.heap.size,j,none⟩ = some (.int .u8 ((if j < k then lowB s[j] else s[j]).toNat : Int))
 fro : ∀ (j : Nat) (hj : j < s.size),wr.frozen? ⟨w.heap.size,j,none⟩ = false
 bel : Below w.heap.size w wr
theorem SmI.keep {s : ByteArray} {w wr : World} {k : Nat} (h : SmI s w k wr) (hk : k < s.size) (hs : lowI (s[k].toNat : Int) = (s[k].toNat : Int)) : SmI s w (k + 1) wr := by
 refine ⟨fun j hj => ?_,h.fro,h.bel⟩
 rw [h.cell j hj]
 by_cases e : j = k
 ·subst e
  rw [if_neg (by omega),if_pos (by omega),lowB_I,hs]
 ·by_cases e2 : j < k
  ·rw [if_pos e2,if_pos (by omega)]
  ·rw [if_neg e2,if_neg (by omega)]
theorem SmI.put {s : ByteArray} {w wr : World} {k : Nat} (h : SmI s w k wr) (hk : k < s.size) (z : Int) (hz : z = lowI (s[k].toNat : Int)) : SmI s w (k + 1) (wr.setCell ⟨w.heap.size,k,none⟩ (.int .u8 z)) := by
 refine ⟨fun j hj => ?_,fun j hj => ?_,h.bel.setCell (Nat.le_refl _) _⟩
 ·by_cases e : j = k
  ·subst e
   rw [World.cell?_setCell_same _ _ _ (h.cell j hj),if_pos (by omega),lowB_I,hz]
  ·rw [World.cell?_setCell_other _ _ _ _ (by intro h2; simp only [Addr.mk.injEq] at h2; omega),h.cell j hj]
   by_cases e2 : j < k
   ·rw [if_pos e2,if_pos (by omega)]
   ·rw [if_neg e2,if_neg (by omega)]
 ·rw [World.frozen?_setCell]; exact h.fro j hj
set_option maxRecDepth 100000 in
theorem small_any (s : ByteArray) (hs : s.size ≤ 281474976710656) (w : World) : Calls Tryz.prog 177 #[.string s] w fun e w' => e = .returned (.string (smallA s)) ∧ Below w.heap.size w w' := by
 have hconv := run_bytes_of_string (P := Tryz.prog) w 9 60 5 s (by kernel_rfl) (by kernel_rfl) (by kernel_rfl)
 have hI : SmI s w 0 (w.drew.alloc (.cells (bytesRow s (grownCap w s.size 0 5)) 5 ((bytesRow s (grownCap w s.size 0 5)).size,(bytesRow s (grownCap w s.size 0 5)).size + 1))) := by
  have e1 : w.drew.heap.size = w.heap.size := by simp
  refine ⟨fun j hj => ?_,fun j hj => ?_,((Below.refl _ _).drew).alloc (by simp) _⟩
  ·rw [if_neg (by omega)]
   rw [← e1,World.cell?_alloc_mark,bytesRow_at s _ j hj]
   rfl
  ·rw [← e1,World.frozen?_alloc_mark]
   have : j < (bytesRow s (grownCap w s.size 0 5)).size := by
    have := bytesRow_at s (grownCap w s.size 0 5) j hj
    exact (Array.getElem?_eq_some_iff.1 this).1
   rw [decide_eq_false (by omega)]; rfl
 generalize (w.drew.alloc (.cells (bytesRow s (grownCap w s.size 0 5)) 5 ((bytesRow s (grownCap w s.size 0 5)).size,(bytesRow s (grownCap w s.size 0 5)).size + 1))) = w1 at *
 generalize grownCap w s.size 0 5 = cap at *
 have HI := Lib.hid hI
 clear hI
 go_enter Tryz.func177,Tryz.ntmps177
 go_wp2
 go_loopw [10] (fun u10 wr => ∃ k : Nat,u10 = .int .i64 (k : Int) ∧ k ≤ s.size ∧ SmI s w k wr) (fun u10 _ => s.size - (match u10 with | .int _ k => k.toNat | _ => 0))
 case atStart => exact ⟨0,rfl,Nat.zero_le _,HI.out⟩
 case round =>
  obtain ⟨k,rfl,hks,hS⟩ := hrel
  clear HI hconv
  have HS := Lib.hid hS
  clear hS
  by_cases hk : k < s.size
  ·have lw : Hid ((k : Int) + 1 = ((k + 1 : Nat) : Int)) := Lib.hid (by omega)
   obtain ⟨z,hz⟩ : ∃ z : Int,((s[k]'hk).toNat : Int) = z := ⟨_,rfl⟩
   have hc : wr.cell? ⟨w.heap.size,k,none⟩ = some (.int .u8 z) := by
    have := HS.out.cell k hk
    rwa [if_neg (by omega),hz] at this
   have hf : wr.frozen? ⟨w.heap.size,k,none⟩ = false := HS.out.fro k hk
   have lk : (k : Int) < (s.size : Int) := by omega
   have l0 : (0 : Int) ≤ (k : Int) := by omega
   have HZ := Lib.hid hz
   clear hz
   by_cases h1 : 65 ≤ z ∧ z ≤ 90
   ·obtain ⟨ha,hb⟩ := h1
    have s1 : IntKind.u8.wrap (z - 65) = z - 65 := IntWalk.u8_in _ (by omega)
    have s2 : IntKind.u8.wrap (z - 65 + 97) = z - 65 + 97 := IntWalk.u8_in _ (by omega)
    go_wp2
    refine ⟨⟨k + 1,by rw [lw.out],by omega,HS.out.put hk _ (by rw [HZ.out]; unfold lowI; rw [if_pos ⟨ha,hb⟩]; omega)⟩,?_⟩
    rw [lw.out]; simp only [Int.toNat_natCast]; omega
   ·by_cases h2 : 65 ≤ z
    ·have h3 : ¬ (z ≤ 90) := by omega
     clear h1
     go_wp2
     refine ⟨⟨k + 1,by rw [lw.out],by omega,HS.out.keep hk (by rw [HZ.out]; unfold lowI; rw [if_neg (by omega)])⟩,?_⟩
     rw [lw.out]; simp only [Int.toNat_natCast]; omega
    ·clear h1
     go_wp2
     refine ⟨⟨k + 1,by rw [lw.out],by omega,HS.out.keep hk (by rw [HZ.out]; unfold lowI; rw [if_neg (by omega)])⟩,?_⟩
     rw [lw.out]; simp only [Int.toNat_natCast]; omega
  ·have lk : ¬ ((k : Int) < (s.size : Int)) := by omega
   have hks2 : k = s.size := by omega
   have hback := run_convert_bytes_back (P := Tryz.prog) wr 60 9 5 ⟨w.heap.size,0,none⟩ cap (s.data.toList.map lowB) (by kernel_rfl) (by kernel_rfl) (by kernel_rfl) (fun j hj => by
    have hj2 : j < s.size := by rw [Lib.size_eq]; simpa using hj
    have := HS.out.cell j hj2
    rw [if_pos (by omega)] at this
    have ea : (⟨w.heap.size,0,none⟩ : Addr).add j = ⟨w.heap.size,j,none⟩ := by simp [Addr.add]; exact fun h => h.symm
    rw [ea,this,List.getElem_map]
    rfl)
   rw [List.length_map,← Lib.size_eq] at hback
   clear hks2
   go_wp2
   go_ret
   exact ⟨rfl,HS.out.bel⟩
theorem word_no (s : ByteArray) (w : World) (h0 : rowL letB s.data.toList = 0) :
  Calls Tryz.prog 132 #[.string s] w fun e w' => e = .returned (pcV 0 ⟨#[]⟩ 0) ∧ Below w.heap.size w w' := by
 have hr := fun w => row_letter letN letB true (Lib.hid kin_let) s w (Lib.hid (weak_ let_any))
 simp only [h0] at hr
 have HR := Lib.hid hr
 clear hr h0
 go_enter Tryz.func132,Tryz.ntmps132
 go_wp2_with (go_at_call 171; refine (HR.out _).mono ?_; rintro e w1 ⟨rfl,hb1⟩; obtain ⟨hcc,hff⟩ := bcell hb1)
 have hB : Below w.heap.size w w1 := ((Below.refl _ _).alloc (Nat.le_refl _) _).trans (hb1.mono (by simp))
 refine bodyPost_ret (v := pcV 0 ⟨#[]⟩ 0) (by simp [results,Tryz.results132,go_sem,hcc,hff]) rfl ?_
 refine ⟨rfl,((hB.setCell ?_ _).setCell ?_ _).setCell ?_ _⟩ <;> exact Nat.le_refl _
theorem word_yes (s : ByteArray) (w : World) (hs : s.size ≤ 281474976710656) (h0 : rowL letB s.data.toList ≠ 0) :
  Calls Tryz.prog 132 #[.string s] w fun e w' => e = .returned (pcV 1 (smallA (s.extract 0 (rowL wordB s.data.toList))) (rowL wordB s.data.toList : Nat)) ∧ Below w.heap.size w w' := by
 have hr := fun w => row_letter letN letB true (Lib.hid kin_let) s w (Lib.hid (weak_ let_any))
 have hq := fun w => row_word wordN wordB true (Lib.hid kin_word) s w (Lib.hid (weak_ word_any))
 obtain ⟨n,hn⟩ : ∃ n,rowL wordB s.data.toList = n := ⟨_,rfl⟩
 obtain ⟨m,hm⟩ : ∃ m,rowL letB s.data.toList = m := ⟨_,rfl⟩
 have hle : n ≤ s.size := by rw [← hn,Lib.size_eq]; exact rowL_le _ _
 rw [hn]
 simp only [hn] at hq
 simp only [hm] at hr
 rw [hm] at h0
 have hc := fun w => small_any (s.extract 0 n) (by rw [ByteArray.size_extract]; omega) w
 have HR := Lib.hid hr
 have HQ := Lib.hid hq
 have HC := Lib.hid hc
 clear hr hq hn hm hc hs
 have c0 : ((m : Int) == 0) = false := by rw [beq_eq_false_iff_ne]; omega
 have c1 : (0 : Int) ≤ (n : Int) := by omega
 have c2 : (n : Int) ≤ (s.size : Int) := by omega
 clear h0
 go_enter Tryz.func132,Tryz.ntmps132
 go_wp2_with (first
  | (go_at_call 171; (with_reducible refine (HR.out _).mono ?_); rintro e w1 ⟨rfl,hb1⟩; have F1 := (Own3.new w).step hb1; clear hb1; obtain ⟨hB,hL,k0,k1,k2,f0,f1,f2⟩ := id F1)
  | (go_at_call 171; (with_reducible refine (HQ.out _).mono ?_); rintro e w2 ⟨rfl,hb2⟩; have F2 := F1.step hb2; clear hb2 hB hL k0 k1 k2 f0 f1 f2; obtain ⟨hB,hL,k0,k1,k2,f0,f1,f2⟩ := id F2)
  | (go_at_call 177; (with_reducible refine (HC.out _).mono ?_); rintro e w3 ⟨rfl,hb3⟩; have F3 := F2.step hb3; clear hb3 hB hL k0 k1 k2 f0 f1 f2; obtain ⟨hB,hL,k0,k1,k2,f0,f1,f2⟩ := id F3))
 refine bodyPost_ret (v := pcV 1 (smallA (s.extract 0 n)) (n : Nat)) (by simp [results,Tryz.results132,go_sem,k0,k1,k2]) rfl ?_
 refine ⟨rfl,((hB.setCell ?_ _).setCell ?_ _).setCell ?_ _⟩ <;> exact Nat.le_refl _

abbrev signT : ByteArray := ⟨#[40,41,44,59,46,61,60,62,43,45,42,47,37,38,124,94,126,33,64,35,63,58,91,93]⟩
def signI (c : UInt8) : Int := Lib.indexByte signT.data.toList c
theorem sign_any (s : ByteArray) (h : 0 < s.size) (w : World) : Calls Tryz.prog 138 #[.string s] w fun e w' =>
  e = .returned (if signI (s[0]'h) < 0 then pcV 0 ⟨#[]⟩ 0 else pcV 5 (s.extract 0 1) 1) ∧ Below w.heap.size w w' := by
 obtain ⟨i,hi⟩ : ∃ i,signI (s[0]'h) = i := ⟨_,rfl⟩
 have hc : ∀ w,Calls Tryz.prog 183 #[.string signT,.int .u8 ((s[0]'h).toNat : Int)] w fun e w' => e = .returned (.int .i64 i) ∧ w' = w := by
  intro w
  have := sidx_any signT ((s[0]'h).toNat : Int) w
  rwa [show ((s[0]'h).toNat : Int).toNat.toUInt8 = s[0]'h by simp,show Lib.indexByte signT.data.toList (s[0]'h) = i from hi] at this
 have hk := fun w => clone_any (s.extract 0 1) w (by rw [ByteArray.size_extract]; omega)
 have hz : (0 : Int) < (s.size : Int) := by omega
 have h1 : (1 : Int) ≤ (s.size : Int) := by omega
 rw [hi]
 have HC := Lib.hid hc
 have HK := Lib.hid hk
 clear hc hi hk
 by_cases hi : i < 0
 ·rw [if_pos hi]
  go_enter Tryz.func138,Tryz.ntmps138
  go_wp2_with (first
   | (go_at_call 183; (with_reducible refine (HC.out _).mono ?_); rintro e w1 ⟨rfl,hw⟩; obtain rfl := hw.symm))
  refine bodyPost_ret (v := pcV 0 ⟨#[]⟩ 0) (by simp [results,Tryz.results138,go_sem]) rfl ?_
  exact ⟨rfl,(Below.refl _ _).alloc (Nat.le_refl _) _⟩
 ·rw [if_neg hi]
  go_enter Tryz.func138,Tryz.ntmps138
  go_wp2_with (first
   | (go_at_call 183; (with_reducible refine (HC.out _).mono ?_); rintro e w1 ⟨rfl,hw⟩; obtain rfl := hw.symm)
   | (go_at_call 54; (with_reducible refine (HK.out _).mono ?_); rintro e w3 ⟨rfl,hb3⟩; have F3 := (Own3.new w).step hb3; clear hb3; obtain ⟨hB,hL,k0,k1,k2,f0,f1,f2⟩ := id F3))
  refine bodyPost_ret (v := pcV 5 (s.extract 0 1) 1) (by simp [results,Tryz.results138,go_sem,k0,k1,k2]) rfl ?_
  refine ⟨rfl,((hB.setCell ?_ _).setCell ?_ _).setCell ?_ _⟩ <;> exact Nat.le_refl _
def hpB (s p : ByteArray) : Bool := decide (p.size ≤ s.size) && ((s.extract 0 p.size).toList == p.toList)
theorem lhp_any (s p : ByteArray) (w : World) : Calls Tryz.prog 204 #[.string s,.string p] w fun e w' => e = .returned (.bool (hpB s p)) ∧ w' = w := by
 by_cases hle : p.size ≤ s.size
 ·have c0 : (p.size : Int) ≤ (s.size : Int) := by omega
  have c1 : (0 : Int) ≤ (p.size : Int) := by omega
  obtain ⟨b,hb⟩ : ∃ b,((s.extract 0 p.size).toList == p.toList) = b := ⟨_,rfl⟩
  rw [show hpB s p = b by unfold hpB; rw [decide_eq_true hle,hb]; rfl]
  go_enter Tryz.func204,Tryz.ntmps204
  go_wp2
  go_ret
  exact ⟨rfl,rfl⟩
 ·have c0 : ¬ ((p.size : Int) ≤ (s.size : Int)) := by omega
  rw [show hpB s p = false by unfold hpB; rw [decide_eq_false hle]; rfl]
  go_enter Tryz.func204,Tryz.ntmps204
  go_wp2
  go_ret
  exact ⟨rfl,rfl⟩
theorem hp_any (s p : ByteArray) (w : World) : Calls Tryz.prog 173 #[.string s,.string p] w fun e w' => e = .returned (.bool (hpB s p)) ∧ w' = w := by
 have h := lhp_any s p
 generalize hpB s p = b at *
 have H := Lib.hid h
 clear h
 go_enter Tryz.func173,Tryz.ntmps173
 go_wp2_with (go_at_call 204; refine (H.out _).mono ?_; rintro e w1 ⟨rfl,hw⟩; obtain rfl := hw.symm)
 go_ret
 exact ⟨rfl,rfl⟩
def cutpV (s p : ByteArray) : Value := .tuple #[.string (if hpB s p = true then s.extract p.size s.size else s),.bool (hpB s p)]
theorem lcutp_any (s p : ByteArray) (w : World) : Calls Tryz.prog 207 #[.string s,.string p] w fun e w' => e = .returned (cutpV s p) ∧ w' = w := by
 have h := lhp_any s p
 unfold cutpV
 cases hb : hpB s p with
 | true =>
  have hle : p.size ≤ s.size := by unfold hpB at hb; simp at hb; exact hb.1
  have c0 : (p.size : Int) ≤ (s.size : Int) := by omega
  have c1 : (0 : Int) ≤ (p.size : Int) := by omega
  rw [hb] at h
  have H := Lib.hid h
  clear h hb
  rw [if_pos rfl]
  go_enter Tryz.func207,Tryz.ntmps207
  go_wp2_with (go_at_call 204; refine (H.out _).mono ?_; rintro e w1 ⟨rfl,hw⟩; obtain rfl := hw.symm)
  go_ret2
  exact ⟨rfl,rfl⟩
 | false =>
  rw [hb] at h
  have H := Lib.hid h
  clear h hb
  rw [if_neg (by simp)]
  go_enter Tryz.func207,Tryz.ntmps207
  go_wp2_with (go_at_call 204; refine (H.out _).mono ?_; rintro e w1 ⟨rfl,hw⟩; obtain rfl := hw.symm)
  go_ret2
  exact ⟨rfl,rfl⟩
theorem cutp_any (s p : ByteArray) (w : World) : Calls Tryz.prog 182 #[.string s,.string p] w fun e w' => e = .returned (cutpV s p) ∧ w' = w := by
 have h := lcutp_any s p
 unfold cutpV at *
 generalize (if hpB s p = true then s.extract p.size s.size else s) = t at *
 generalize hpB s p = b at *
 have H := Lib.hid h
 clear h
 go_enter Tryz.func182,Tryz.ntmps182
 go_wp2_with (go_at_call 207; refine (H.out _).mono ?_; rintro e w1 ⟨rfl,hw⟩; obtain rfl := hw.symm)
 go_ret2
 exact ⟨rfl,rfl⟩

abbrev dolT : ByteArray := ⟨#[36]⟩
theorem param_core (s r : ByteArray) (b : Bool) (n : Nat) (w : World) (hn : rowL digB r.data.toList = n) (hle : n + 1 ≤ s.size ∨ b = false ∨ n = 0) (hs : s.size ≤ 281474976710656)
  (hc : ∀ w,Calls Tryz.prog 182 #[.string s,.string dolT] w fun e w' => e = .returned (.tuple #[.string r,.bool b]) ∧ w' = w) :
  Calls Tryz.prog 137 #[.string s] w fun e w' => e = .returned (if b = false ∨ n = 0 then pcV 0 ⟨#[]⟩ 0 else pcV 5 (s.extract 0 (n + 1)) ((n + 1 : Nat) : Int)) ∧ Below w.heap.size w w' := by
 have hr := fun w => row_digit digN digB false (Lib.hid kin_dig) r w (Lib.hid (weak_ dig_any))
 have hk := fun w => clone_any (s.extract 0 (n + 1)) w (by rw [ByteArray.size_extract]; omega)
 simp only [hn] at hr
 have HC := Lib.hid hc
 have HR := Lib.hid hr
 have HK := Lib.hid hk
 clear hc hr hk hn
 by_cases h : b = false ∨ n = 0
 ·rw [if_pos h]
  cases b with
  | false =>
   clear h hle
   go_enter Tryz.func137,Tryz.ntmps137
   go_wp2_with (first
    | (go_at_call 182; (with_reducible refine (HC.out _).mono ?_); rintro e w1 ⟨rfl,hw⟩; obtain rfl := hw.symm)
    | (go_at_call 171; (with_reducible refine (HR.out _).mono ?_); rintro e w2 ⟨rfl,hb1⟩; have F1 := (Own3.new w).step hb1; clear hb1; obtain ⟨hB,hL,k0,k1,k2,f0,f1,f2⟩ := id F1))
   refine bodyPost_ret (v := pcV 0 ⟨#[]⟩ 0) (by simp [results,Tryz.results137,go_sem,k0,k1,k2]) rfl ?_
   refine ⟨rfl,((hB.setCell ?_ _).setCell ?_ _).setCell ?_ _⟩ <;> exact Nat.le_refl _
  | true =>
   have h0 : n = 0 := by simpa using h
   subst h0
   clear h hle
   go_enter Tryz.func137,Tryz.ntmps137
   go_wp2_with (first
    | (go_at_call 182; (with_reducible refine (HC.out _).mono ?_); rintro e w1 ⟨rfl,hw⟩; obtain rfl := hw.symm)
    | (go_at_call 171; (with_reducible refine (HR.out _).mono ?_); rintro e w2 ⟨rfl,hb1⟩; have F1 := (Own3.new w).step hb1; clear hb1; obtain ⟨hB,hL,k0,k1,k2,f0,f1,f2⟩ := id F1))
   refine bodyPost_ret (v := pcV 0 ⟨#[]⟩ 0) (by simp [results,Tryz.results137,go_sem,k0,k1,k2]) rfl ?_
   refine ⟨rfl,((hB.setCell ?_ _).setCell ?_ _).setCell ?_ _⟩ <;> exact Nat.le_refl _
 ·rw [if_neg h]
  have hb : b = true := by
   cases b with
   | true => rfl
   | false => exact absurd (Or.inl rfl) h
  subst hb
  have hn0 : n ≠ 0 := fun e => h (Or.inr e)
  have hl : n + 1 ≤ s.size := by
   rcases hle with h1 | h1 | h1
   ·exact h1
   ·cases h1
   ·exact absurd h1 hn0
  have c0 : ((n : Int) == 0) = false := by rw [beq_eq_false_iff_ne]; omega
  obtain ⟨m,hm⟩ : ∃ m,n + 1 = m := ⟨_,rfl⟩
  have e0 : (n : Int) + 1 = (m : Int) := by omega
  have cw : IntKind.i64.wrap ((n : Int) + 1) = (m : Int) := by rw [e0]; exact IntWalk.i64_in _ (by omega)
  rw [hm] at HK ⊢
  have c1 : (0 : Int) ≤ (m : Int) := by omega
  have c2 : (m : Int) ≤ (s.size : Int) := by omega
  clear h hle hn0 hl hm hs
  have E0 := Lib.hid e0
  clear e0
  go_enter Tryz.func137,Tryz.ntmps137
  go_wp2_with (first
   | (go_at_call 182; (with_reducible refine (HC.out _).mono ?_); rintro e w1 ⟨rfl,hw⟩; obtain rfl := hw.symm)
   | (go_at_call 171; (with_reducible refine (HR.out _).mono ?_); rintro e w2 ⟨rfl,hb1⟩; have F1 := (Own3.new w).step hb1; clear hb1; obtain ⟨hB,hL,k0,k1,k2,f0,f1,f2⟩ := id F1)
   | (go_at_call 54; (with_reducible refine (HK.out _).mono ?_); rintro e w3 ⟨rfl,hb3⟩; have F3 := F1.step hb3; clear hb3 hB hL k0 k1 k2 f0 f1 f2; obtain ⟨hB,hL,k0,k1,k2,f0,f1,f2⟩ := id F3))
  refine bodyPost_ret (v := pcV 5 (s.extract 0 m) (m : Nat)) (by simp [results,Tryz.results137,go_sem,k0,k1,k2]) rfl ?_
  refine ⟨rfl,((hB.setCell ?_ _).setCell ?_ _).setCell ?_ _⟩ <;> exact Nat.le_refl _
def dolR (s : ByteArray) : ByteArray := if hpB s dolT = true then s.extract 1 s.size else s
def parN (s : ByteArray) : Nat := rowL digB (dolR s).data.toList
theorem param_any (s : ByteArray) (w : World) (hs : s.size ≤ 281474976710656) :
  Calls Tryz.prog 137 #[.string s] w fun e w' => e = .returned (if hpB s dolT = false ∨ parN s = 0 then pcV 0 ⟨#[]⟩ 0 else pcV 5 (s.extract 0 (parN s + 1)) ((parN s + 1 : Nat) : Int)) ∧ Below w.heap.size w w' := by
 refine param_core s (dolR s) (hpB s dolT) (parN s) w rfl ?_ hs (fun w => cutp_any s dolT w)
 cases hb : hpB s dolT with
 | false => exact .inr (.inl rfl)
 | true =>
  have hle : 1 ≤ s.size := by unfold hpB at hb; simp at hb; exact hb.1
  left
  have h1 : parN s ≤ (dolR s).size := by rw [Lib.size_eq]; exact rowL_le _ _
  have h2 : (dolR s).size = s.size - 1 := by unfold dolR; rw [if_pos hb,ByteArray.size_extract]; omega
  omega

def Wd (m : Int) (w : World) : Prop := w.cell? ⟨1,0,none⟩ = some (.int .i64 m)
theorem Wd.lt {m : Int} {w : World} (h : Wd m w) : 1 < w.heap.size := by
 unfold Wd World.cell? at h
 split at h
 ·rename_i hb
  exact (Array.getElem?_eq_some_iff.1 hb).1
 ·simp at h
theorem Wd.below {m : Int} {w w' : World} (h : Wd m w) (b : Below w.heap.size w w') : Wd m w' := by
 unfold Wd
 rw [b.cell (p := ⟨1,0,none⟩) h.lt]
 exact h
theorem Own3.drewN {w w1 : World} (h : Own3 w w1) (n : Nat) : Own3 w (w1.drewN n) := h.step (below_drewN_ (Below.refl _ _) _)
abbrev dashT : ByteArray := ⟨#[45,45]⟩
def lineA (s : ByteArray) : ByteArray := ⟨(Lib.cut s.data.toList [10]).1.toArray⟩
theorem line_any (s : ByteArray) (m : Int) (w : World) (hs : s.size < 4294967281) (hm : Wd m w) :
  Calls Tryz.prog 130 #[.string s] w fun e w' => e = .returned (pcV 0 ⟨#[]⟩ (if hpB s dashT = true then ((lineA s).size : Int) else 0)) ∧ Below w.heap.size w w' := by
 have hc : ∀ w1,Wd m w1 → _ := fun w1 h1 => Tryz.strings_Cut s ⟨#[10]⟩ m w1 hs h1
 have hp := fun w => hp_any s dashT w
 have hown := Own3.new w
 have hw := hm.below hown.bel
 have hb : ∀ v : ByteArray,v = lineA s → (v.size : Int) = ((lineA s).size : Int) := fun v h => by rw [h]
 have e1 : (⟨(Lib.cut s.data.toList (⟨#[10]⟩ : ByteArray).data.toList).1.toArray⟩ : ByteArray) = lineA s := rfl
 rw [e1] at hc
 generalize lineA s = l at *
 generalize (⟨(Lib.cut s.data.toList (⟨#[10]⟩ : ByteArray).data.toList).2.1.toArray⟩ : ByteArray) = l2 at *
 generalize (Lib.cut s.data.toList (⟨#[10]⟩ : ByteArray).data.toList).2.2 = b at *
 have HC := Lib.hid hc
 have HO := Lib.hid hown
 have HW := Lib.hid hw
 clear hc hown hw e1 hm hb
 cases hpb : hpB s dashT with
 | false =>
  rw [hpb] at hp
  have HP := Lib.hid hp
  clear hp hpb
  rw [if_neg (by simp)]
  go_enter Tryz.func130,Tryz.ntmps130
  go_wp2_with (first
   | (go_at_call 173; (with_reducible refine (HP.out _).mono ?_); rintro e w1 ⟨rfl,hw⟩; obtain rfl := hw.symm))
  refine bodyPost_ret (v := pcV 0 ⟨#[]⟩ 0) (by simp [results,Tryz.results130,go_sem]) rfl ?_
  exact ⟨rfl,(Below.refl _ _).alloc (Nat.le_refl _) _⟩
 | true =>
  rw [hpb] at hp
  have HP := Lib.hid hp
  clear hp hpb
  rw [if_pos rfl]
  go_enter Tryz.func130,Tryz.ntmps130
  go_wp2_with (first
   | (go_at_call 173; (with_reducible refine (HP.out _).mono ?_); rintro e w1 ⟨rfl,hw⟩; obtain rfl := hw.symm)
   | (go_at_call 174; refine (HC.out _ HW.out).mono ?_; rintro e w2 ⟨rfl,nq,rfl⟩; have F1 := HO.out.drewN nq; obtain ⟨hB,hL,k0,k1,k2,f0,f1,f2⟩ := id F1))
  refine bodyPost_ret (v := pcV 0 ⟨#[]⟩ (l.size : Int)) (by simp [results,Tryz.results130,go_sem,k0,k1,k2]) rfl ?_
  refine ⟨rfl,((hB.setCell ?_ _).setCell ?_ _).setCell ?_ _⟩ <;> exact Nat.le_refl _

theorem take2_ext (s : ByteArray) (k : Nat) : (s.extract 0 k).toList = s.data.toList.take k := by
 rw [Lib.toList_data,ByteArray.data_extract,Array.toList_extract]
 simp only [List.extract_eq_take_drop,List.drop_zero,Nat.sub_zero]
theorem hpB_two (s : ByteArray) (x y : UInt8) : hpB s ⟨#[x,y]⟩ = decide (s.data.toList.take 2 = [x,y]) := by
 unfold hpB
 have e1 : (⟨#[x,y]⟩ : ByteArray).size = 2 := rfl
 have e2 : (⟨#[x,y]⟩ : ByteArray).toList = [x,y] := by rw [Lib.toList_data]
 rw [e1,e2,take2_ext]
 by_cases h : s.data.toList.take 2 = [x,y]
 ·have h2 : 2 ≤ s.size := by
   have := congrArg List.length h
   rw [List.length_take,← Lib.size_eq] at this
   simp only [List.length_cons,List.length_nil] at this; omega
  rw [decide_eq_true h,decide_eq_true h2,h]; simp
 ·rw [decide_eq_false h]
  simp [h]
theorem ext_list (s : ByteArray) (a : Nat) : (s.extract a s.size).data.toList = s.data.toList.drop a := by
 rw [ByteArray.data_extract,Array.toList_extract,List.extract_eq_take_drop]
 refine List.take_of_length_le ?_
 rw [List.length_drop,← Lib.size_eq]
 exact Nat.le_refl _
def remL : Nat → Tx → Option Nat
 | 0,_ => some 0
 | d + 1,[] => none
 | d + 1,c :: r =>
  if (c :: r).take 2 = [47,42] then (remL (d + 2) (r.drop 1)).map (· + 2)
  else if (c :: r).take 2 = [42,47] then (remL d (r.drop 1)).map (· + 2)
  else (remL (d + 1) r).map (· + 1)
termination_by _ l => l.length
decreasing_by all_goals (simp; try omega)
def remI (o : Option Nat) : Int := match o with | some n => (n : Int) | none => -1
structure RemI (s : ByteArray) (R : Option Nat) (w : World) (d a : Nat) (wr : World) : Prop where
 own : Own3 w wr
 le : a ≤ s.size
 deep : d ≤ a
 val : R = (remL d (s.data.toList.drop a)).map (· + a)
theorem map_add (o : Option Nat) (a b c : Nat) (h : a + b = c) : (o.map (· + a)).map (· + b) = o.map (· + c) := by
 cases o with
 | none => rfl
 | some n => simp; omega
theorem drop_cons_ (l : Tx) (a : Nat) (h : a < l.length) : ∃ c,l.drop a = c :: l.drop (a + 1) := ⟨l[a],List.drop_eq_getElem_cons h⟩
theorem RemI.open_ {s : ByteArray} {R : Option Nat} {w wr : World} {d a : Nat} (h : RemI s R w (d + 1) a wr) (h2 : (s.data.toList.drop a).take 2 = [47,42]) : RemI s R w (d + 2) (a + 2) wr := by
 have hl : a + 2 ≤ s.size := by
  have := congrArg List.length h2
  rw [List.length_take,List.length_drop,← Lib.size_eq] at this
  simp only [List.length_cons,List.length_nil] at this; omega
 obtain ⟨c,hc⟩ := drop_cons_ s.data.toList a (by rw [← Lib.size_eq]; omega)
 refine ⟨h.own,hl,by have := h.deep; omega,?_⟩
 rw [h.val,hc,remL,← hc,if_pos h2,map_add _ _ _ (a + 2) (by omega),List.drop_drop]
theorem RemI.shut_ {s : ByteArray} {R : Option Nat} {w wr : World} {d a : Nat} (h : RemI s R w (d + 1) a wr) (h2 : (s.data.toList.drop a).take 2 = [42,47]) : RemI s R w d (a + 2) wr := by
 have hl : a + 2 ≤ s.size := by
  have := congrArg List.length h2
  rw [List.length_take,List.length_drop,← Lib.size_eq] at this
  simp only [List.length_cons,List.length_nil] at this; omega
 obtain ⟨c,hc⟩ := drop_cons_ s.data.toList a (by rw [← Lib.size_eq]; omega)
 refine ⟨h.own,hl,by have := h.deep; omega,?_⟩
 rw [h.val,hc,remL,← hc,if_neg (by rw [h2]; decide),if_pos h2,map_add _ _ _ (a + 2) (by omega),List.drop_drop]
theorem RemI.on_ {s : ByteArray} {R : Option Nat} {w wr : World} {d a : Nat} (h : RemI s R w (d + 1) a wr) (hl : a < s.size) (h1 : (s.data.toList.drop a).take 2 ≠ [47,42]) (h2 : (s.data.toList.drop a).take 2 ≠ [42,47]) : RemI s R w (d + 1) (a + 1) wr := by
 obtain ⟨c,hc⟩ := drop_cons_ s.data.toList a (by rw [← Lib.size_eq]; omega)
 refine ⟨h.own,by omega,by have := h.deep; omega,?_⟩
 rw [h.val,hc,remL,← hc,if_neg h1,if_neg h2,map_add _ _ _ (a + 1) (by omega)]
abbrev opnT : ByteArray := ⟨#[47,42]⟩
abbrev shtT : ByteArray := ⟨#[42,47]⟩
theorem remark_no (s : ByteArray) (w : World) (h : hpB s opnT = false) :
  Calls Tryz.prog 131 #[.string s] w fun e w' => e = .returned (pcV 0 ⟨#[]⟩ 0) ∧ Below w.heap.size w w' := by
 have hp := fun w => hp_any s opnT w
 rw [h] at hp
 have HP := Lib.hid hp
 clear hp h
 go_enter Tryz.func131,Tryz.ntmps131
 go_wp2_with (first
  | (go_at_call 173; (with_reducible refine (HP.out _).mono ?_); rintro e w1 ⟨rfl,hw⟩; obtain rfl := hw.symm))
 refine bodyPost_ret (v := pcV 0 ⟨#[]⟩ 0) (by simp [results,Tryz.results131,go_sem]) rfl ?_
 exact ⟨rfl,(Below.refl _ _).alloc (Nat.le_refl _) _⟩
set_option maxRecDepth 100000 in
theorem remark_yes (s : ByteArray) (w : World) (hs : s.size ≤ 281474976710656) (h : hpB s opnT = true) (R : Option Nat) (hR : R = (remL 1 (s.data.toList.drop 2)).map (· + 2)) :
  Calls Tryz.prog 131 #[.string s] w fun e w' => e = .returned (pcV 0 ⟨#[]⟩ (remI R)) ∧ Below w.heap.size w w' := by
 have hp := fun w => hp_any s opnT w
 have h2 : 2 ≤ s.size := by unfold hpB at h; simp at h; exact h.1
 have hI : RemI s R w 1 2 _ := ⟨Own3.new w,h2,by omega,hR⟩
 rw [h] at hp
 have HP := Lib.hid hp
 have HI := Lib.hid hI
 clear hp h hR hI
 go_enter Tryz.func131,Tryz.ntmps131
 go_wp2_with (first
  | (go_at_call 173; (with_reducible refine (HP.out _).mono ?_); rintro e w1 ⟨rfl,hw⟩; obtain rfl := hw.symm))
 go_loopw [3,4] (fun u3 u4 wr => ∃ d a : Nat,u3 = .int .i64 (d : Int) ∧ u4 = .int .i64 (a : Int) ∧ RemI s R w d a wr) (fun _ u4 _ => s.size - (match u4 with | .int _ k => k.toNat | _ => 0))
 case atStart => exact ⟨1,2,rfl,rfl,HI.out⟩
 case round =>
  obtain ⟨d,a,rfl,rfl,hr⟩ := hrel
  obtain ⟨hown,hle,hdp,hval⟩ := id hr
  obtain ⟨hB,hL,k0,k1,k2,f0,f1,f2⟩ := id hown
  have HR := Lib.hid hr
  clear hr hown HI hw
  have l0 : (0 : Int) ≤ (a : Int) := by omega
  have l1 : (a : Int) ≤ (s.size : Int) := by omega
  match d,HR,hval,hdp with
  | 0,HR,hval,hdp =>
   have hv : remI R = (a : Int) := by rw [hval,remL]; simp [remI]
   clear hval
   go_wp2
   refine bodyPost_ret (v := pcV 0 ⟨#[]⟩ (a : Int)) (by simp [results,Tryz.results131,go_sem,k0,k1,k2]) rfl ?_
   rw [hv]
   refine ⟨rfl,((hB.setCell ?_ _).setCell ?_ _).setCell ?_ _⟩ <;> exact Nat.le_refl _
  | d + 1,HR,hval,hdp =>
   obtain ⟨z,hz⟩ : ∃ z : Int,((d + 1 : Nat) : Int) = z := ⟨_,rfl⟩
   rw [hz]
   have z0 : (0 : Int) < z := by omega
   have z1 : z ≤ 281474976710656 := by omega
   have HZ := Lib.hid hz
   have HV := Lib.hid hval
   clear hz hval hdp
   by_cases he : a = s.size
   ·have q1 : ((a : Int) == (s.size : Int)) = true := by rw [beq_iff_eq]; omega
    have hv : remI R = -1 := by
     rw [HV.out,he,List.drop_of_length_le (by rw [Lib.size_eq]; exact Nat.le_refl _),remL]; rfl
    go_wp2
    refine bodyPost_ret (v := pcV 0 ⟨#[]⟩ (-1)) (by simp [results,Tryz.results131,go_sem,k0,k1,k2]) rfl ?_
    rw [hv]
    refine ⟨rfl,((hB.setCell ?_ _).setCell ?_ _).setCell ?_ _⟩ <;> exact Nat.le_refl _
   ·have q1 : ((a : Int) == (s.size : Int)) = false := by rw [beq_eq_false_iff_ne]; omega
    have ho := fun w => hp_any (s.extract a s.size) opnT w
    have hc := fun w => hp_any (s.extract a s.size) shtT w
    simp only [hpB_two,ext_list] at ho hc
    by_cases h1 : (s.data.toList.drop a).take 2 = [47,42]
    ·simp only [h1,decide_true] at ho
     have HO := Lib.hid ho
     clear ho hc
     go_wp2_with (go_at_call 173; (with_reducible refine (HO.out _).mono ?_); rintro e w1 ⟨rfl,hw⟩; obtain rfl := hw.symm)
     have hq := HR.out.open_ h1
     have e1 : z + 1 = ((d + 2 : Nat) : Int) := by have := HZ.out; omega
     have e2 : (a : Int) + 2 = ((a + 2 : Nat) : Int) := by omega
     have e3 := hq.le
     refine ⟨⟨d + 2,a + 2,by rw [e1],by rw [e2],hq⟩,?_⟩
     rw [e2]; simp only [Int.toNat_natCast]; omega
    ·simp only [h1,decide_false] at ho
     have HO := Lib.hid ho
     by_cases h3 : (s.data.toList.drop a).take 2 = [42,47]
     ·simp only [h3,decide_true] at hc
      have HC := Lib.hid hc
      clear ho hc
      go_wp2_with (first
       | (go_at_call 173; (with_reducible refine (HO.out _).mono ?_); rintro e w1 ⟨rfl,hw⟩; obtain rfl := hw.symm)
       | (go_at_call 173; (with_reducible refine (HC.out _).mono ?_); rintro e w2 ⟨rfl,hw2⟩; obtain rfl := hw2.symm))
      have hq := HR.out.shut_ h3
      have e1 : z - 1 = (d : Int) := by have := HZ.out; omega
      have e2 : (a : Int) + 2 = ((a + 2 : Nat) : Int) := by omega
      have e3 := hq.le
      refine ⟨⟨d,a + 2,by rw [e1],by rw [e2],hq⟩,?_⟩
      rw [e2]; simp only [Int.toNat_natCast]; omega
     ·simp only [h3,decide_false] at hc
      have HC := Lib.hid hc
      clear ho hc
      go_wp2_with (first
       | (go_at_call 173; (with_reducible refine (HO.out _).mono ?_); rintro e w1 ⟨rfl,hw⟩; obtain rfl := hw.symm)
       | (go_at_call 173; (with_reducible refine (HC.out _).mono ?_); rintro e w2 ⟨rfl,hw2⟩; obtain rfl := hw2.symm))
      have hq := HR.out.on_ (by omega) h1 h3
      have e1 : z = ((d + 1 : Nat) : Int) := HZ.out.symm
      have e2 : (a : Int) + 1 = ((a + 1 : Nat) : Int) := by omega
      have e3 := hq.le
      refine ⟨⟨d + 1,a + 1,by rw [e1],by rw [e2],hq⟩,?_⟩
      rw [e2]; simp only [Int.toNat_natCast]; omega

def betL (q : UInt8) : Tx → Option (Tx × Nat)
 | [] => none
 | c :: r => if c = q then (match r with
   | d :: r2 => if d = q then (betL q r2).map (fun p => (d :: p.1,p.2 + 2)) else some ([],1)
   | [] => some ([],1)) else (betL q r).map (fun p => (c :: p.1,p.2 + 1))
theorem betL_cons (q c : UInt8) (r : Tx) : betL q (c :: r) = if c = q then (match r with
   | d :: r2 => if d = q then (betL q r2).map (fun p => (d :: p.1,p.2 + 2)) else some ([],1)
   | [] => some ([],1)) else (betL q r).map (fun p => (c :: p.1,p.2 + 1)) := by
 rw [betL.eq_def]
 cases r <;> rfl
def u8V (c : UInt8) : Value := .int .u8 (c.toNat : Int)
theorem info5 : (Tryz.prog.info? 5).map (fun i => (i.zero,i.size,i.bytes)) = some (some (.int .u8 0),1,1) := by kernel_rfl
theorem i5_parts : ∃ i,Tryz.prog.info? 5 = some i ∧ i.zero = some (.int .u8 0) ∧ i.size = 1 ∧ i.bytes = 1 := by
 have h := info5
 cases e : Tryz.prog.info? 5 with
 | none => rw [e] at h; cases h
 | some i =>
  rw [e] at h
  simp only [Option.map_some,Option.some.injEq,Prod.mk.injEq] at h
  exact ⟨i,rfl,h.1,h.2.1,h.2.2⟩
theorem und47 : Tryz.prog.underlying 60 = some (.slice 5) := by kernel_rfl
theorem Own3.grown {w w1 w2 : World} {row : Option Nat} (h : Own3 w w1) (g : w1.grownBy w2 row) (hr : ∀ k,row = some k → w.heap.size + 1 ≤ k) : Own3 w w2 := by
 have b : Below (w.heap.size + 1) w1 w2 := (Below.refl _ _).grown g (by have := h.lt; omega) hr
 have l := Nat.lt_succ_self w.heap.size
 exact ⟨h.bel.trans (b.mono (Nat.le_succ _)),Nat.lt_of_lt_of_le h.lt b.size,by rw [b.cell l]; exact h.k0,by rw [b.cell l]; exact h.k1,by rw [b.cell l]; exact h.k2,by rw [b.frozen l]; exact h.f0,by rw [b.frozen l]; exact h.f1,by rw [b.frozen l]; exact h.f2⟩
structure BetI (s : ByteArray) (q : UInt8) (R : Option (Tx × Nat)) (w : World) (xs : Tx) (a : Nat) (v : Value) (wr : World) : Prop where
 own : Own3 w wr
 row : wr.ownsRow (w.heap.size + 1) 5 1 v xs.length (xs.map u8V)
 le : a ≤ s.size
 len : xs.length ≤ a
 val : R = (betL q (s.data.toList.drop a)).map (fun p => (xs ++ p.1,p.2 + a))
theorem BetI.more {s : ByteArray} {q : UInt8} {R : Option (Tx × Nat)} {w wr w2 : World} {xs : Tx} {a b : Nat} {v v2 : Value} {z : Int} (h : BetI s q R w xs a v wr) (c : UInt8) (hz : z = (c.toNat : Int))
  (hr : w2.ownsRow (w.heap.size + 1) 5 1 v2 (xs.length + 1) (xs.map u8V ++ [.int .u8 z])) (hg : (wr.alloc (.cells #[.int .u8 z] 5)).grownBy w2 v.ownBlock)
  (hb : b ≤ s.size) (hab : a < b) (hv : R = (betL q (s.data.toList.drop b)).map (fun p => (xs ++ c :: p.1,p.2 + b))) : BetI s q R w (xs ++ [c]) b v2 w2 := by
 refine ⟨(h.own.step ((Below.refl _ _).alloc (Nat.le_refl _) _)).grown hg (fun k hk => (World.ownsRow.lt h.row k hk).1),?_,hb,by have := h.len; simp; omega,?_⟩
 ·subst hz
  simpa [u8V] using hr
 ·rw [hv]; simp
theorem betV_str {w wr : World} {xs : Tx} {v : Value} (h : wr.ownsRow (w.heap.size + 1) 5 1 v xs.length (xs.map u8V)) : (convert 60 9 v).run Tryz.prog wr = .ok (.string ⟨xs.toArray⟩) wr := by
 have ht := h
 rcases h.2 with ⟨rfl,hn⟩ | ⟨g,cap,cur,rfl,_⟩
 ·have : xs = [] := List.eq_nil_of_length_eq_zero hn
  subst this
  rw [run_convert_bytes_string wr 60 9 5 none 0 0 und47 (by kernel_rfl) (by kernel_rfl)]
  simp [Conv.bytesToString]
  rfl
 ·refine run_convert_bytes_back (P := Tryz.prog) wr 60 9 5 ⟨g,0,none⟩ cap xs und47 (by kernel_rfl) (by kernel_rfl) (fun j hj => ?_)
  exact World.ownsRow.cells ht rfl j _ (by simp [u8V,hj])
def betV (k : Int) (o : Option (Tx × Nat)) : Value := match o with
 | some p => pcV k ⟨p.1.toArray⟩ (p.2 : Int)
 | none => pcV 0 ⟨#[]⟩ (-1)
theorem bet_no (s : ByteArray) (q : UInt8) (k : Int) (w : World) (h : 0 < s.size) (hq : (s[0]'h) ≠ q) :
  Calls Tryz.prog 178 #[.string s,.int .u8 (q.toNat : Int),.int .i64 k] w fun e w' => e = .returned (pcV 0 ⟨#[]⟩ 0) ∧ Below w.heap.size w w' := by
 have hz : (0 : Int) < (s.size : Int) := by omega
 have g : (((s[0]'h).toNat : Int) != (q.toNat : Int)) = true := by
  rw [bne,beq_eq_false_iff_ne.2 (fun e => hq (UInt8.toNat_inj.1 (by omega)))]; rfl
 clear hq
 go_enter Tryz.func178,Tryz.ntmps178
 go_wp2
 refine bodyPost_ret (v := pcV 0 ⟨#[]⟩ 0) (by simp [results,Tryz.results178,go_sem]) rfl ?_
 exact ⟨rfl,(Below.refl _ _).alloc (Nat.le_refl _) _⟩
theorem one_cell (w : World) (z : Int) : ∀ (j : Nat) (u : Value),[Value.int .u8 z][j]? = some u → (w.alloc (.cells #[.int .u8 z] 5)).cell? ((⟨w.heap.size,0,none⟩ : Addr).add j) = some u := by
 intro j u hj
 match j,hj with
 | 0,hj =>
  rw [Addr.add_lit,World.cell?_alloc_mark]
  simpa using hj
set_option maxHeartbeats 1000000 in
set_option maxRecDepth 100000 in
theorem bet_yes (s : ByteArray) (q : UInt8) (k : Int) (w : World) (hs : s.size ≤ 4294967296) (h : 0 < s.size) (hq : (s[0]'h) = q) (R : Option (Tx × Nat)) (hR : R = (betL q (s.data.toList.drop 1)).map (fun p => (p.1,p.2 + 1))) :
  Calls Tryz.prog 178 #[.string s,.int .u8 (q.toNat : Int),.int .i64 k] w fun e w' => e = .returned (betV k R) ∧ Below w.heap.size w w' := by
 obtain ⟨i5,hi5,hz5,hs5,hb5⟩ := i5_parts
 have hz : (0 : Int) < (s.size : Int) := by omega
 have g : (((s[0]'h).toNat : Int) != (q.toNat : Int)) = false := by
  rw [hq]; simp
 have hI : BetI s q R w [] 1 (.slice none 0 0) _ := ⟨Own3.new w,World.ownsRow_nil _ _ _ _,by omega,by simp,by rw [hR]; rfl⟩
 have HI := Lib.hid hI
 clear hI hq hR
 go_enter Tryz.func178,Tryz.ntmps178
 go_wp2
 go_loopw [7,8] (fun u7 u8 wr => ∃ (xs : Tx) (a : Nat),u8 = .int .i64 (a : Int) ∧ BetI s q R w xs a u7 wr) (fun _ u8 _ => s.size - (match u8 with | .int _ k => k.toNat | _ => 0))
 case atStart => exact ⟨[],1,rfl,HI.out⟩
 case round =>
  obtain ⟨xs,a,rfl,hr⟩ := hrel
  obtain ⟨hown,hrow,hle,hlen,hval⟩ := id hr
  obtain ⟨hB,hL,k0,k1,k2,f0,f1,f2⟩ := id hown
  have hconv := betV_str hrow
  have HB := Lib.hid hr
  have HV := Lib.hid hval
  have l0 : (0 : Int) ≤ (a : Int) := by omega
  clear hr hown HI hrow hval g hz
  by_cases ha : a < s.size
  ·have hd := List.drop_eq_getElem_cons (show a < s.data.toList.length by rw [← Lib.size_eq]; exact ha)
   have hda : s.data.toList[a]'(by rw [← Lib.size_eq]; exact ha) = s[a]'ha := rfl
   rw [hda] at hd
   obtain ⟨b,hb⟩ : ∃ b,a + 1 = b := ⟨_,rfl⟩
   have cw : IntKind.i64.wrap ((a : Int) + 1) = (b : Int) := by rw [show (a : Int) + 1 = (b : Int) by omega]; exact IntWalk.i64_in _ (by omega)
   have la : (a : Int) < (s.size : Int) := by omega
   rw [hb] at hd
   have HD := Lib.hid hd
   have HBA := Lib.hid hb
   clear hd hda hb
   by_cases hc : s[a]'ha = q
   ·have g1 : (((s[a]'ha).toNat : Int) == (q.toNat : Int)) = true := by rw [hc]; simp
    have b0 : (0 : Int) ≤ (b : Int) := by omega
    by_cases hbs : b = s.size
    ·have hv : betV k R = pcV k ⟨xs.toArray⟩ (b : Int) := by
      rw [HV.out,HD.out,betL_cons,if_pos hc,List.drop_of_length_le (by rw [← Lib.size_eq]; omega)]
      simp [betV]
      have := HBA.out; omega
     have g2 : ((b : Int) == (s.size : Int)) = true := by rw [beq_iff_eq]; omega
     clear hc
     go_wp2
     refine bodyPost_ret (v := pcV k ⟨xs.toArray⟩ (b : Int)) (by simp [results,Tryz.results178,go_sem,k0,k1,k2]; try omega) rfl ?_
     try rw [hv]
     refine ⟨rfl,((hB.setCell ?_ _).setCell ?_ _).setCell ?_ _⟩ <;> exact Nat.le_refl _
    ·have hbl : b < s.size := by have := HBA.out; omega
     have lb : (b : Int) < (s.size : Int) := by omega
     have g2 : ((b : Int) == (s.size : Int)) = false := by rw [beq_eq_false_iff_ne]; omega
     have hd2 := List.drop_eq_getElem_cons (show b < s.data.toList.length by rw [← Lib.size_eq]; exact hbl)
     have hda2 : s.data.toList[b]'(by rw [← Lib.size_eq]; exact hbl) = s[b]'hbl := rfl
     rw [hda2] at hd2
     by_cases hc2 : s[b]'hbl = q
     ·have g3 : (((s[b]'hbl).toNat : Int) != (q.toNat : Int)) = false := by rw [hc2]; simp
      obtain ⟨d,hdd⟩ : ∃ d,b + 1 = d := ⟨_,rfl⟩
      have cw2 : IntKind.i64.wrap ((b : Int) + 1) = (d : Int) := by rw [show (b : Int) + 1 = (d : Int) by omega]; exact IntWalk.i64_in _ (by omega)
      have hv : R = (betL q (s.data.toList.drop d)).map (fun p => (xs ++ (s[b]'hbl) :: p.1,p.2 + d)) := by
       rw [HV.out,HD.out,betL_cons,if_pos hc,hd2,hdd]
       simp only [hc2,if_true]
       rw [Option.map_map]
       congr 1
       funext p
       simp only [Function.comp]
       have := HBA.out
       rw [show p.2 + 2 + a = p.2 + d by omega]
      have HV2 := Lib.hid hv
      have HDD := Lib.hid hdd
      clear hv hc hc2 hd2 hda2 hdd
      go_wp2_with (at_builtin; go_must (
       refine wpList_append_own_wide _ rfl (.tmp 43) (.tmp 47) 60 rfl (w.heap.size + 1) 5 i5 (.int .u8 0) 1 1 und47 hi5 hz5 hs5 hb5 rfl (by decide) u7 xs.length (xs.map u8V) rfl (HB.out.row.alloc _) ⟨wr.heap.size,0,none⟩ 1 1 [.int .u8 ((s[b]'hbl).toNat : Int)] rfl rfl ?c1 ?c2 ?c3 ?c4 ?c5 ?_
       case c1 => exact one_cell wr _
       case c2 => intro u hu; rw [List.mem_singleton.1 hu]; rfl
       case c3 => unfold maxLen; omega
       case c4 => omega
       case c5 => have := HB.out.own.lt; simp; omega
       intro v9 w9 hown9 hgr9 _))
      have hmore := HB.out.more (b := d) (s[b]'hbl) rfl hown9 hgr9 (by have := HDD.out; omega) (by have := HDD.out; have := HBA.out; omega) HV2.out
      have := HDD.out
      have := HBA.out
      refine ⟨⟨_,d,rfl,hmore⟩,?_⟩
      simp only [Int.toNat_natCast]; omega
     ·have hv : betV k R = pcV k ⟨xs.toArray⟩ (b : Int) := by
       rw [HV.out,HD.out,betL_cons,if_pos hc,hd2]
       simp only [hc2,if_false]
       simp [betV]
       have := HBA.out; omega
      have g3 : (((s[b]'hbl).toNat : Int) != (q.toNat : Int)) = true := by
       rw [bne,beq_eq_false_iff_ne.2 (fun e => hc2 (UInt8.toNat_inj.1 (by omega)))]; rfl
      clear hc hc2 hd2 hda2
      go_wp2
      refine bodyPost_ret (v := pcV k ⟨xs.toArray⟩ (b : Int)) (by simp [results,Tryz.results178,go_sem,k0,k1,k2]; try omega) rfl ?_
      try rw [hv]
      refine ⟨rfl,((hB.setCell ?_ _).setCell ?_ _).setCell ?_ _⟩ <;> exact Nat.le_refl _
   ·have g1 : (((s[a]'ha).toNat : Int) == (q.toNat : Int)) = false := by
     rw [beq_eq_false_iff_ne]; exact fun e => hc (UInt8.toNat_inj.1 (by omega))
    have hv : R = (betL q (s.data.toList.drop b)).map (fun p => (xs ++ (s[a]'ha) :: p.1,p.2 + b)) := by
     rw [HV.out,HD.out,betL_cons,if_neg hc,Option.map_map]
     congr 1
     funext p
     simp only [Function.comp]
     have := HBA.out
     rw [show p.2 + 1 + a = p.2 + b by omega]
    have HV2 := Lib.hid hv
    clear hv hc
    go_wp2_with (at_builtin; go_must (
     refine wpList_append_own_wide _ rfl (.tmp 43) (.tmp 47) 60 rfl (w.heap.size + 1) 5 i5 (.int .u8 0) 1 1 und47 hi5 hz5 hs5 hb5 rfl (by decide) u7 xs.length (xs.map u8V) rfl (HB.out.row.alloc _) ⟨wr.heap.size,0,none⟩ 1 1 [.int .u8 ((s[a]'ha).toNat : Int)] rfl rfl ?c1 ?c2 ?c3 ?c4 ?c5 ?_
     case c1 => exact one_cell wr _
     case c2 => intro u hu; rw [List.mem_singleton.1 hu]; rfl
     case c3 => unfold maxLen; omega
     case c4 => omega
     case c5 => have := HB.out.own.lt; simp; omega
     intro v9 w9 hown9 hgr9 _))
    have hmore := HB.out.more (b := b) (s[a]'ha) rfl hown9 hgr9 (by have := HBA.out; omega) (by have := HBA.out; omega) HV2.out
    have := HBA.out
    refine ⟨⟨_,b,rfl,hmore⟩,?_⟩
    simp only [Int.toNat_natCast]; omega
  ·have la : ¬ ((a : Int) < (s.size : Int)) := by omega
   have hv : betV k R = pcV 0 ⟨#[]⟩ (-1) := by
    rw [HV.out,List.drop_of_length_le (by rw [← Lib.size_eq]; omega)]; rfl
   go_wp2
   refine bodyPost_ret (v := pcV 0 ⟨#[]⟩ (-1)) (by simp [results,Tryz.results178,go_sem,k0,k1,k2]; try omega) rfl ?_
   try rw [hv]
   refine ⟨rfl,((hB.setCell ?_ _).setCell ?_ _).setCell ?_ _⟩ <;> exact Nat.le_refl _
def quoS (q : UInt8) (k : Int) (s : ByteArray) : Value :=
 match s.data.toList with
 | [] => pcV 0 ⟨#[]⟩ 0
 | c :: r => if c = q then betV k ((betL q r).map (fun p => (p.1,p.2 + 1))) else pcV 0 ⟨#[]⟩ 0
theorem bet_any (s : ByteArray) (q : UInt8) (k : Int) (w : World) (hs : s.size ≤ 4294967296) (h : 0 < s.size) :
  Calls Tryz.prog 178 #[.string s,.int .u8 (q.toNat : Int),.int .i64 k] w fun e w' => e = .returned (quoS q k s) ∧ Below w.heap.size w w' := by
 have hd := List.drop_eq_getElem_cons (show 0 < s.data.toList.length by rw [← Lib.size_eq]; exact h)
 rw [List.drop_zero] at hd
 have hda : s.data.toList[0]'(by rw [← Lib.size_eq]; exact h) = s[0]'h := rfl
 rw [hda] at hd
 by_cases hq : s[0]'h = q
 ·have e : quoS q k s = betV k ((betL q (s.data.toList.drop 1)).map (fun p => (p.1,p.2 + 1))) := by
   unfold quoS; rw [hd]; simp only [hq,if_true,List.drop_succ_cons,List.drop_zero]
  rw [e]
  exact bet_yes s q k w hs h hq _ rfl
 ·have e : quoS q k s = pcV 0 ⟨#[]⟩ 0 := by
   unfold quoS; rw [hd]; simp only [hq,if_false]
  rw [e]
  exact bet_no s q k w h hq
theorem betV_agg (k : Int) (o : Option (Tx × Nat)) : ∃ a t n,betV k o = pcV a t n := by
 cases o with
 | none => exact ⟨_,_,_,rfl⟩
 | some p => exact ⟨_,_,_,rfl⟩
theorem quoS_agg (q : UInt8) (k : Int) (s : ByteArray) : ∃ a t n,quoS q k s = pcV a t n := by
 unfold quoS
 split
 ·exact ⟨_,_,_,rfl⟩
 ·split
  ·exact betV_agg _ _
  ·exact ⟨_,_,_,rfl⟩
theorem quoted_any (s : ByteArray) (w : World) (hs : s.size ≤ 4294967296) (h : 0 < s.size) :
  Calls Tryz.prog 133 #[.string s] w fun e w' => e = .returned (quoS 34 2 s) ∧ Below w.heap.size w w' := by
 have hb := fun w => bet_any s 34 2 w hs h
 obtain ⟨a,t,n,e⟩ := quoS_agg 34 2 s
 rw [e] at hb ⊢
 have hb : ∀ w,Calls Tryz.prog 178 #[.string s,.int .u8 34,.int .i64 2] w fun e w' => e = .returned (pcV a t n) ∧ Below w.heap.size w w' := hb
 have HB := Lib.hid hb
 clear hb e
 go_enter Tryz.func133,Tryz.ntmps133
 go_wp2_with (go_at_call 178; (with_reducible refine (HB.out _).mono ?_); rintro e w1 ⟨rfl,hb1⟩; have F1 := (Own3.new w).step hb1; clear hb1; obtain ⟨hB,hL,k0,k1,k2,f0,f1,f2⟩ := id F1)
 refine bodyPost_ret (v := pcV a t n) (by simp [results,Tryz.results133,go_sem,k0,k1,k2]) rfl ?_
 refine ⟨rfl,((hB.setCell ?_ _).setCell ?_ _).setCell ?_ _⟩ <;> exact Nat.le_refl _
theorem str_any (s : ByteArray) (w : World) (hs : s.size ≤ 4294967296) (h : 0 < s.size) :
  Calls Tryz.prog 134 #[.string s] w fun e w' => e = .returned (quoS 39 3 s) ∧ Below w.heap.size w w' := by
 have hb := fun w => bet_any s 39 3 w hs h
 obtain ⟨a,t,n,e⟩ := quoS_agg 39 3 s
 rw [e] at hb ⊢
 have hb : ∀ w,Calls Tryz.prog 178 #[.string s,.int .u8 39,.int .i64 3] w fun e w' => e = .returned (pcV a t n) ∧ Below w.heap.size w w' := hb
 have HB := Lib.hid hb
 clear hb e
 go_enter Tryz.func134,Tryz.ntmps134
 go_wp2_with (go_at_call 178; (with_reducible refine (HB.out _).mono ?_); rintro e w1 ⟨rfl,hb1⟩; have F1 := (Own3.new w).step hb1; clear hb1; obtain ⟨hB,hL,k0,k1,k2,f0,f1,f2⟩ := id F1)
 refine bodyPost_ret (v := pcV a t n) (by simp [results,Tryz.results134,go_sem,k0,k1,k2]) rfl ?_
 refine ⟨rfl,((hB.setCell ?_ _).setCell ?_ _).setCell ?_ _⟩ <;> exact Nat.le_refl _

def isTagL (l : Tx) : Bool := l.isEmpty || (decide (0 < rowL letB l) && decide (rowL tagB l = l.length))
theorem isTag_any (s : ByteArray) (w : World) : Calls Tryz.prog 206 #[.string s] w fun e w' => e = .returned (.bool (isTagL s.data.toList)) ∧ Below w.heap.size w w' := by
 have hr := fun w => row_letter letN letB true (Lib.hid kin_let) s w (Lib.hid (weak_ let_any))
 have hq := fun w => row_tag tagN tagB true (Lib.hid kin_tag) s w (Lib.hid (weak_ tag_any))
 have e0 : isTagL s.data.toList = (s.toList.isEmpty || (decide ((0 : Int) < (rowL letB s.data.toList : Int)) && ((rowL tagB s.data.toList : Int) == (s.size : Int)))) := by
  unfold isTagL
  rw [Lib.toList_data,← Lib.size_eq]
  congr 1
  rw [Bool.eq_iff_iff]
  simp only [Bool.and_eq_true,decide_eq_true_eq,beq_iff_eq]
  omega
 rw [e0]
 clear e0
 generalize rowL letB s.data.toList = n at *
 generalize rowL tagB s.data.toList = m at *
 have HR := Lib.hid hr
 have HQ := Lib.hid hq
 clear hr hq
 cases h0 : s.toList.isEmpty with
 | true =>
  go_enter Tryz.func206,Tryz.ntmps206
  go_wp2
  go_ret
  exact ⟨rfl,Below.refl _ _⟩
 | false =>
  by_cases hn : (0 : Int) < (n : Int)
  ·rw [decide_eq_true hn]
   cases hb : ((m : Int) == (s.size : Int)) with
   | true =>
    go_enter Tryz.func206,Tryz.ntmps206
    go_wp2_with (first
     | (go_at_call 171; (with_reducible refine (HR.out _).mono ?_); rintro e w1 ⟨rfl,hb1⟩)
     | (go_at_call 171; (with_reducible refine (HQ.out _).mono ?_); rintro e w2 ⟨rfl,hb2⟩))
    go_ret
    exact ⟨rfl,hb1.trans (hb2.mono hb1.size)⟩
   | false =>
    go_enter Tryz.func206,Tryz.ntmps206
    go_wp2_with (first
     | (go_at_call 171; (with_reducible refine (HR.out _).mono ?_); rintro e w1 ⟨rfl,hb1⟩)
     | (go_at_call 171; (with_reducible refine (HQ.out _).mono ?_); rintro e w2 ⟨rfl,hb2⟩))
    go_ret
    exact ⟨rfl,hb1.trans (hb2.mono hb1.size)⟩
  ·rw [decide_eq_false hn]
   go_enter Tryz.func206,Tryz.ntmps206
   go_wp2_with (first
    | (go_at_call 171; (with_reducible refine (HR.out _).mono ?_); rintro e w1 ⟨rfl,hb1⟩))
   go_ret
   exact ⟨rfl,hb1⟩
theorem index_ge (s sub : Tx) : -1 ≤ Lib.index s sub := by
 induction s with
 | nil => unfold Lib.index; split <;> omega
 | cons b l ih =>
  unfold Lib.index
  split
  ·omega
  ·split <;> omega
theorem index_len (s sub : Tx) (h : 0 ≤ Lib.index s sub) : (Lib.index s sub).toNat + sub.length ≤ s.length := by
 induction s with
 | nil =>
  unfold Lib.index at h ⊢
  by_cases e : sub.isEmpty
  ·rw [if_pos e]; simp at e; subst e; simp
  ·rw [if_neg e] at h; omega
 | cons b l ih =>
  unfold Lib.index at h ⊢
  by_cases e : sub.isPrefixOf (b :: l)
  ·rw [if_pos e]
   have := (List.isPrefixOf_iff_prefix.1 e).length_le
   simpa using this
  ·rw [if_neg e] at h ⊢
   by_cases e2 : (Lib.index l sub == -1) = true
   ·rw [if_pos e2] at h; omega
   ·rw [if_neg e2] at h ⊢
    have g := index_ge l sub
    have n : Lib.index l sub ≠ -1 := by simpa using e2
    have := ih (by omega)
    rw [List.length_cons]; omega
theorem cut_len (s sep : Tx) (h : (Lib.cut s sep).2.2 = true) : (Lib.cut s sep).1.length + sep.length ≤ s.length := by
 unfold Lib.cut at h ⊢
 by_cases e : 0 ≤ Lib.index s sep
 ·rw [if_pos e]
  have := index_len s sep e
  simp; omega
 ·rw [if_neg e] at h; cases h
theorem mark_core (s r t t2 : ByteArray) (b ends ok : Bool) (m : Int) (w : World) (hm : Wd m w) (hs : s.size ≤ 281474976710656)
  (hc : ∀ w,Calls Tryz.prog 182 #[.string s,.string dolT] w fun e w' => e = .returned (.tuple #[.string r,.bool b]) ∧ w' = w)
  (hk : ∀ w,Wd m w → Calls Tryz.prog 174 #[.string r,.string dolT] w fun e w' => e = .returned (.tuple #[.string t,.string t2,.bool ends]) ∧ ∃ n,w' = w.drewN n)
  (ht : ∀ w,Calls Tryz.prog 206 #[.string t] w fun e w' => e = .returned (.bool ok) ∧ Below w.heap.size w w')
  (hle : b = true → ends = true → t.size + 2 ≤ s.size) :
  Calls Tryz.prog 179 #[.string s] w fun e w' => e = .returned (.string (if (b && ends && ok) = true then s.extract 0 (t.size + 2) else ⟨#[]⟩)) ∧ Below w.heap.size w w' := by
 have HC := Lib.hid hc
 have HK := Lib.hid hk
 have HT := Lib.hid ht
 clear hc hk ht
 cases b with
 | false =>
  rw [if_neg (by simp)]
  clear hle
  go_enter Tryz.func179,Tryz.ntmps179
  go_wp2_with (first
   | (go_at_call 182; (with_reducible refine (HC.out _).mono ?_); rintro e w1 ⟨rfl,hw⟩; obtain rfl := hw.symm)
   | (go_at_call 174; (with_reducible refine (HK.out _ hm).mono ?_); rintro e w2 ⟨rfl,nq,rfl⟩))
  go_ret
  exact ⟨rfl,below_drewN_ (Below.refl _ _) _⟩
 | true =>
 cases ends with
 | false =>
  rw [if_neg (by simp)]
  clear hle
  go_enter Tryz.func179,Tryz.ntmps179
  go_wp2_with (first
   | (go_at_call 182; (with_reducible refine (HC.out _).mono ?_); rintro e w1 ⟨rfl,hw⟩; obtain rfl := hw.symm)
   | (go_at_call 174; (with_reducible refine (HK.out _ hm).mono ?_); rintro e w2 ⟨rfl,nq,rfl⟩))
  go_ret
  exact ⟨rfl,below_drewN_ (Below.refl _ _) _⟩
 | true =>
 cases ok with
 | false =>
  rw [if_neg (by simp)]
  clear hle
  go_enter Tryz.func179,Tryz.ntmps179
  go_wp2_with (first
   | (go_at_call 182; (with_reducible refine (HC.out _).mono ?_); rintro e w1 ⟨rfl,hw⟩; obtain rfl := hw.symm)
   | (go_at_call 174; (with_reducible refine (HK.out _ hm).mono ?_); rintro e w2 ⟨rfl,nq,rfl⟩)
   | (go_at_call 206; (with_reducible refine (HT.out _).mono ?_); rintro e w3 ⟨rfl,hb3⟩))
  go_ret
  exact ⟨rfl,(below_drewN_ (Below.refl _ _) _).trans (hb3.mono (by simp))⟩
 | true =>
  rw [if_pos (show (true && true && true) = true from rfl)]
  have hl := hle rfl rfl
  clear hle
  obtain ⟨n,hn⟩ : ∃ n,t.size + 2 = n := ⟨_,rfl⟩
  have e1 : IntKind.i64.wrap (1 + (t.size : Int)) = 1 + (t.size : Int) := IntWalk.i64_in _ (by omega)
  have e2 : IntKind.i64.wrap (1 + (t.size : Int) + 1) = (n : Int) := by rw [show 1 + (t.size : Int) + 1 = (n : Int) by omega]; exact IntWalk.i64_in _ (by omega)
  have c0 : (0 : Int) ≤ (n : Int) := by omega
  have c1 : (n : Int) ≤ (s.size : Int) := by omega
  rw [hn]
  clear hn hl hs
  go_enter Tryz.func179,Tryz.ntmps179
  go_wp2_with (first
   | (go_at_call 182; (with_reducible refine (HC.out _).mono ?_); rintro e w1 ⟨rfl,hw⟩; obtain rfl := hw.symm)
   | (go_at_call 174; (with_reducible refine (HK.out _ hm).mono ?_); rintro e w2 ⟨rfl,nq,rfl⟩)
   | (go_at_call 206; (with_reducible refine (HT.out _).mono ?_); rintro e w3 ⟨rfl,hb3⟩))
  go_ret
  exact ⟨rfl,(below_drewN_ (Below.refl _ _) _).trans (hb3.mono (by simp))⟩
theorem dol_core (s mk t t2 : ByteArray) (ends : Bool) (m : Int) (w : World) (hm : Wd m w) (hs : s.size ≤ 4294967296) (hle : mk.size ≤ s.size) (hle2 : ends = true → t.size ≤ s.size)
  (hmk : ∀ w,Wd m w → Calls Tryz.prog 179 #[.string s] w fun e w' => e = .returned (.string mk) ∧ Below w.heap.size w w')
  (hk : ∀ w,Wd m w → Calls Tryz.prog 174 #[.string (s.extract mk.size s.size),.string mk] w fun e w' => e = .returned (.tuple #[.string t,.string t2,.bool ends]) ∧ ∃ n,w' = w.drewN n) :
  Calls Tryz.prog 135 #[.string s] w fun e w' => e = .returned (if mk.toList.isEmpty = true then pcV 0 ⟨#[]⟩ 0 else if ends = false then pcV 0 ⟨#[]⟩ (-1) else pcV 3 t ((mk.size : Int) + t.size + mk.size)) ∧ Below w.heap.size w w' := by
 have HW0 := Lib.hid (hm.below (Own3.new w).bel)
 have HM := Lib.hid hmk
 have HK := Lib.hid hk
 clear hmk hk hm
 cases he : mk.toList.isEmpty with
 | true =>
  rw [if_pos rfl]
  go_enter Tryz.func135,Tryz.ntmps135
  go_wp2_with (first
   | (go_at_call 179; (with_reducible refine (HM.out _ HW0.out).mono ?_); rintro e w1 ⟨rfl,hb1⟩; have F1 := (Own3.new w).step hb1; have HW1 := Lib.hid (HW0.out.below hb1); clear hb1; obtain ⟨hB,hL,k0,k1,k2,f0,f1,f2⟩ := id F1))
  refine bodyPost_ret (v := pcV 0 ⟨#[]⟩ 0) (by simp [results,Tryz.results135,go_sem,k0,k1,k2]) rfl ?_
  refine ⟨rfl,((hB.setCell ?_ _).setCell ?_ _).setCell ?_ _⟩ <;> exact Nat.le_refl _
 | false =>
  rw [if_neg (by simp)]
  have c0 : (0 : Int) ≤ (mk.size : Int) := by omega
  have c1 : (mk.size : Int) ≤ (s.size : Int) := by omega
  cases ends with
  | false =>
  rw [if_pos rfl]
  go_enter Tryz.func135,Tryz.ntmps135
  go_wp2_with (first
   | (go_at_call 179; (with_reducible refine (HM.out _ HW0.out).mono ?_); rintro e w1 ⟨rfl,hb1⟩; have F1 := (Own3.new w).step hb1; have HW1 := Lib.hid (HW0.out.below hb1); clear hb1; obtain ⟨hB,hL,k0,k1,k2,f0,f1,f2⟩ := id F1)
   | (go_at_call 174; (with_reducible refine (HK.out _ HW1.out).mono ?_); rintro e w2 ⟨rfl,nq,rfl⟩; have F2 := F1.drewN nq; clear hB hL k0 k1 k2 f0 f1 f2; obtain ⟨hB,hL,k0,k1,k2,f0,f1,f2⟩ := id F2))
  refine bodyPost_ret (v := pcV 0 ⟨#[]⟩ (-1)) (by simp [results,Tryz.results135,go_sem,k0,k1,k2]) rfl ?_
  refine ⟨rfl,((hB.setCell ?_ _).setCell ?_ _).setCell ?_ _⟩ <;> exact Nat.le_refl _
  | true =>
  rw [if_neg (by simp)]
  have ht := hle2 rfl
  have hc := fun w => clone_any t w (by omega)
  have HC := Lib.hid hc
  clear hc hle2
  have e1 : IntKind.i64.wrap ((mk.size : Int) + (t.size : Int)) = (mk.size : Int) + (t.size : Int) := IntWalk.i64_in _ (by omega)
  have e2 : IntKind.i64.wrap ((mk.size : Int) + (t.size : Int) + (mk.size : Int)) = (mk.size : Int) + (t.size : Int) + (mk.size : Int) := IntWalk.i64_in _ (by omega)
  go_enter Tryz.func135,Tryz.ntmps135
  go_wp2_with (first
   | (go_at_call 179; (with_reducible refine (HM.out _ HW0.out).mono ?_); rintro e w1 ⟨rfl,hb1⟩; have F1 := (Own3.new w).step hb1; have HW1 := Lib.hid (HW0.out.below hb1); clear hb1; obtain ⟨hB,hL,k0,k1,k2,f0,f1,f2⟩ := id F1)
   | (go_at_call 174; (with_reducible refine (HK.out _ HW1.out).mono ?_); rintro e w2 ⟨rfl,nq,rfl⟩; have F2 := F1.drewN nq; clear hB hL k0 k1 k2 f0 f1 f2; obtain ⟨hB,hL,k0,k1,k2,f0,f1,f2⟩ := id F2)
   | (go_at_call 54; (with_reducible refine (HC.out _).mono ?_); rintro e w3 ⟨rfl,hb3⟩; have F3 := F2.step hb3; clear hb3 hB hL k0 k1 k2 f0 f1 f2; obtain ⟨hB,hL,k0,k1,k2,f0,f1,f2⟩ := id F3))
  refine bodyPost_ret (v := pcV 3 t ((mk.size : Int) + t.size + mk.size)) (by simp [results,Tryz.results135,go_sem,k0,k1,k2]) rfl ?_
  refine ⟨rfl,((hB.setCell ?_ _).setCell ?_ _).setCell ?_ _⟩ <;> exact Nat.le_refl _

def cutD (s : ByteArray) : Tx × Tx × Bool := Lib.cut (dolR s).data.toList [36]
def markA (s : ByteArray) : ByteArray := if (hpB s dolT && (cutD s).2.2 && isTagL (cutD s).1) = true then s.extract 0 ((cutD s).1.length + 2) else ⟨#[]⟩
theorem arr_size (l : Tx) : (⟨l.toArray⟩ : ByteArray).size = l.length := by rw [Lib.size_eq]
theorem dolR_size (s : ByteArray) (h : hpB s dolT = true) : (dolR s).size + 1 = s.size := by
 have hle : 1 ≤ s.size := by unfold hpB at h; simp at h; exact h.1
 unfold dolR; rw [if_pos h,ByteArray.size_extract]; omega
theorem dolR_le (s : ByteArray) : (dolR s).size ≤ s.size := by
 unfold dolR; split
 ·rw [ByteArray.size_extract]; omega
 ·exact Nat.le_refl _
theorem mark_any (s : ByteArray) (m : Int) (w : World) (hs : s.size < 4294967281) (hm : Wd m w) :
  Calls Tryz.prog 179 #[.string s] w fun e w' => e = .returned (.string (markA s)) ∧ Below w.heap.size w w' := by
 have h := mark_core s (dolR s) ⟨(cutD s).1.toArray⟩ ⟨(cutD s).2.1.toArray⟩ (hpB s dolT) (cutD s).2.2 (isTagL (cutD s).1) m w hm (by omega) (fun w => cutp_any s dolT w)
  (fun w hw => Tryz.strings_Cut (dolR s) dolT m w (by have := dolR_le s; omega) hw)
  (fun w => isTag_any ⟨(cutD s).1.toArray⟩ w)
  (fun h1 h2 => by
   have a := dolR_size s h1
   have b := cut_len (dolR s).data.toList [36] h2
   rw [← Lib.size_eq] at b
   have b : (cutD s).1.length + 1 ≤ (dolR s).size := b
   rw [arr_size]; omega)
 rw [arr_size] at h
 exact h
theorem markA_le (s : ByteArray) : (markA s).size ≤ s.size := by
 unfold markA; split
 ·rw [ByteArray.size_extract]; omega
 ·exact Nat.zero_le _
def cutM (s : ByteArray) : Tx × Tx × Bool := Lib.cut (s.extract (markA s).size s.size).data.toList (markA s).data.toList
def dolS (s : ByteArray) : Value :=
 if (markA s).toList.isEmpty = true then pcV 0 ⟨#[]⟩ 0 else if (cutM s).2.2 = false then pcV 0 ⟨#[]⟩ (-1) else pcV 3 ⟨(cutM s).1.toArray⟩ (((markA s).size : Int) + (⟨(cutM s).1.toArray⟩ : ByteArray).size + (markA s).size)
theorem ext_le (s : ByteArray) (a : Nat) : (s.extract a s.size).size ≤ s.size := by rw [ByteArray.size_extract]; omega
theorem cutM_len (s : ByteArray) (h : (cutM s).2.2 = true) : (⟨(cutM s).1.toArray⟩ : ByteArray).size ≤ s.size := by
 have b := cut_len _ _ h
 rw [arr_size]
 have c : (s.extract (markA s).size s.size).data.toList.length ≤ s.size := by rw [← Lib.size_eq]; exact ext_le s _
 exact Nat.le_trans (Nat.le_trans (Nat.le_add_right _ _) b) c
theorem cutM_call (s : ByteArray) (m : Int) (hs : s.size < 4294967281) (w : World) (hw : Wd m w) : Calls Tryz.prog 174 #[.string (s.extract (markA s).size s.size),.string (markA s)] w fun e w' => e = .returned (.tuple #[.string ⟨(cutM s).1.toArray⟩,.string ⟨(cutM s).2.1.toArray⟩,.bool (cutM s).2.2]) ∧ ∃ n,w' = w.drewN n := by
 have hC : Lib.cut (s.extract (markA s).size s.size).data.toList (markA s).data.toList = cutM s := rfl
 generalize cutM s = C at *
 generalize markA s = M at *
 subst hC
 exact Tryz.strings_Cut (s.extract M.size s.size) M m w (Nat.lt_of_le_of_lt (ext_le s _) hs) hw
theorem dolS_eq (s M : ByteArray) (C : Tx × Tx × Bool) (hM : markA s = M) (hC : cutM s = C) : dolS s = if M.toList.isEmpty = true then pcV 0 ⟨#[]⟩ 0 else if C.2.2 = false then pcV 0 ⟨#[]⟩ (-1) else pcV 3 ⟨C.1.toArray⟩ ((M.size : Int) + (⟨C.1.toArray⟩ : ByteArray).size + M.size) := by
 subst hM hC
 rfl
theorem dol_any (s : ByteArray) (m : Int) (w : World) (hs : s.size < 4294967281) (hm : Wd m w) :
  Calls Tryz.prog 135 #[.string s] w fun e w' => e = .returned (dolS s) ∧ Below w.heap.size w w' := by
 have hs2 : s.size ≤ 4294967296 := by omega
 have hmk := fun w hw => mark_any s m w hs hw
 have hk := fun w hw => cutM_call s m hs w hw
 have hl := cutM_len s
 have hml := markA_le s
 rw [dolS_eq s _ _ rfl rfl]
 exact dol_core s (markA s) ⟨(cutM s).1.toArray⟩ ⟨(cutM s).2.1.toArray⟩ (cutM s).2.2 m w hm hs2 hml hl hmk hk

abbrev Pc : Type := Int × ByteArray × Int
def pc0 : Pc := (0,⟨#[]⟩,0)
def pcW (p : Pc) : Value := pcV p.1 p.2.1 p.2.2
def lineP (s : ByteArray) : Pc := (0,⟨#[]⟩,if hpB s dashT = true then ((lineA s).size : Int) else 0)
def remP (s : ByteArray) : Pc := if hpB s opnT = true then (0,⟨#[]⟩,remI ((remL 1 (s.data.toList.drop 2)).map (· + 2))) else pc0
def wordP (s : ByteArray) : Pc := if rowL letB s.data.toList = 0 then pc0 else (1,smallA (s.extract 0 (rowL wordB s.data.toList)),(rowL wordB s.data.toList : Nat))
def betP (k : Int) (o : Option (Tx × Nat)) : Pc := match o with
 | some p => (k,⟨p.1.toArray⟩,(p.2 : Int))
 | none => (0,⟨#[]⟩,-1)
def quoP (q : UInt8) (k : Int) (s : ByteArray) : Pc := match s.data.toList with
 | [] => pc0
 | c :: r => if c = q then betP k ((betL q r).map (fun p => (p.1,p.2 + 1))) else pc0
def dolP (s : ByteArray) : Pc := if (markA s).toList.isEmpty = true then pc0 else if (cutM s).2.2 = false then (0,⟨#[]⟩,-1) else (3,⟨(cutM s).1.toArray⟩,((markA s).size : Int) + (⟨(cutM s).1.toArray⟩ : ByteArray).size + (markA s).size)
def numP (s : ByteArray) : Pc := if rowL digB s.data.toList = 0 then pc0 else (4,s.extract 0 (rowL numB s.data.toList),(rowL numB s.data.toList : Nat))
def parP (s : ByteArray) : Pc := if hpB s dolT = false ∨ parN s = 0 then pc0 else (5,s.extract 0 (parN s + 1),((parN s + 1 : Nat) : Int))
def signP (s : ByteArray) : Pc := match s.data.toList with
 | [] => pc0
 | c :: _ => if signI c < 0 then pc0 else (5,s.extract 0 1,1)
def rdP (i : Nat) (s : ByteArray) : Pc := match i with
 | 0 => (0,⟨#[]⟩,(rowL fiveQ s.data.toList : Nat))
 | 1 => lineP s
 | 2 => remP s
 | 3 => wordP s
 | 4 => quoP 34 2 s
 | 5 => quoP 39 3 s
 | 6 => dolP s
 | 7 => numP s
 | 8 => parP s
 | _ => signP s
def rdF (i : Nat) : FuncId := match i with
 | 0 => 129 | 1 => 130 | 2 => 131 | 3 => 132 | 4 => 133 | 5 => 134 | 6 => 135 | 7 => 136 | 8 => 137 | _ => 138
theorem rd_call (i : Nat) (hi : i < 10) (s : ByteArray) (h : 0 < s.size) (hs : s.size < 4294967281) (m : Int) (w : World) (hm : Wd m w) :
  Calls Tryz.prog (rdF i) #[.string s] w fun e w' => e = .returned (pcW (rdP i s)) ∧ Below w.heap.size w w' := by
 have hs2 : s.size ≤ 281474976710656 := Nat.le_trans (Nat.le_of_lt hs) (by decide)
 have hs3 : s.size ≤ 4294967296 := Nat.le_trans (Nat.le_of_lt hs) (by decide)
 match i,hi with
 | 0,_ => exact gap_any s w
 | 1,_ => exact line_any s m w hs hm
 | 2,_ =>
  show Calls Tryz.prog 131 #[.string s] w fun e w' => e = .returned (pcW (remP s)) ∧ Below w.heap.size w w'
  unfold remP
  cases hb : hpB s opnT with
  | true => rw [if_pos rfl]; exact remark_yes s w hs2 hb _ rfl
  | false => rw [if_neg (by simp)]; exact remark_no s w hb
 | 3,_ =>
  show Calls Tryz.prog 132 #[.string s] w fun e w' => e = .returned (pcW (wordP s)) ∧ Below w.heap.size w w'
  unfold wordP
  by_cases hb : rowL letB s.data.toList = 0
  ·rw [if_pos hb]; exact word_no s w hb
  ·rw [if_neg hb]; exact word_yes s w hs2 hb
 | 4,_ =>
  have e : pcW (rdP 4 s) = quoS 34 2 s := by
   show pcW (quoP 34 2 s) = _
   unfold quoP quoS
   cases s.data.toList with
   | nil => rfl
   | cons c r =>
    simp only
    split
    ·cases betL 34 r <;> rfl
    ·rfl
  rw [e]; exact quoted_any s w hs3 h
 | 5,_ =>
  have e : pcW (rdP 5 s) = quoS 39 3 s := by
   show pcW (quoP 39 3 s) = _
   unfold quoP quoS
   cases s.data.toList with
   | nil => rfl
   | cons c r =>
    simp only
    split
    ·cases betL 39 r <;> rfl
    ·rfl
  rw [e]; exact str_any s w hs3 h
 | 6,_ =>
  have e : pcW (rdP 6 s) = dolS s := by
   show pcW (dolP s) = _
   unfold dolP dolS
   split
   ·rfl
   ·split <;> rfl
  rw [e]; exact dol_any s m w hs hm
 | 7,_ =>
  show Calls Tryz.prog 136 #[.string s] w fun e w' => e = .returned (pcW (numP s)) ∧ Below w.heap.size w w'
  unfold numP
  by_cases hb : rowL digB s.data.toList = 0
  ·rw [if_pos hb]; exact num_no s w hb
  ·rw [if_neg hb]; exact num_yes s w hs2 hb
 | 8,_ =>
  have p := param_any s w hs2
  have e : pcW (rdP 8 s) = if hpB s dolT = false ∨ parN s = 0 then pcV 0 ⟨#[]⟩ 0 else pcV 5 (s.extract 0 (parN s + 1)) ((parN s + 1 : Nat) : Int) := by
   show pcW (parP s) = _
   unfold parP
   split <;> rfl
  rw [e]; exact p
 | 9,_ =>
  have p := sign_any s h w
  have hd := List.drop_eq_getElem_cons (show 0 < s.data.toList.length by rw [← Lib.size_eq]; exact h)
  rw [List.drop_zero] at hd
  have hda : s.data.toList[0]'(by rw [← Lib.size_eq]; exact h) = s[0]'h := rfl
  rw [hda] at hd
  have e : pcW (rdP 9 s) = if signI (s[0]'h) < 0 then pcV 0 ⟨#[]⟩ 0 else pcV 5 (s.extract 0 1) 1 := by
   show pcW (signP s) = _
   unfold signP
   rw [hd]
   simp only
   split <;> rfl
  rw [e]; exact p
theorem rd_enter (i : Nat) (hi : i < 10) (args : Array Value) (w : World) : Sem.run Tryz.prog (callFunc (rdF i) args) w = .ok (.enter (rdF i) args) w := by
 match i,hi with
 | 0,_ => show Sem.run Tryz.prog (callFunc 129 args) w = _; go_simp; rfl
 | 1,_ => show Sem.run Tryz.prog (callFunc 130 args) w = _; go_simp; rfl
 | 2,_ => show Sem.run Tryz.prog (callFunc 131 args) w = _; go_simp; rfl
 | 3,_ => show Sem.run Tryz.prog (callFunc 132 args) w = _; go_simp; rfl
 | 4,_ => show Sem.run Tryz.prog (callFunc 133 args) w = _; go_simp; rfl
 | 5,_ => show Sem.run Tryz.prog (callFunc 134 args) w = _; go_simp; rfl
 | 6,_ => show Sem.run Tryz.prog (callFunc 135 args) w = _; go_simp; rfl
 | 7,_ => show Sem.run Tryz.prog (callFunc 136 args) w = _; go_simp; rfl
 | 8,_ => show Sem.run Tryz.prog (callFunc 137 args) w = _; go_simp; rfl
 | 9,_ => show Sem.run Tryz.prog (callFunc 138 args) w = _; go_simp; rfl
def rdRow : Array Value := ((List.range 10).map (fun i => Value.func (.func (rdF i)) #[] #[])).toArray
theorem readers_any (w : World) : Calls Tryz.prog 100 #[] w fun e w' => e = .returned (.slice (some ⟨w.heap.size,0,none⟩) 10 10) ∧ w' = w.alloc (.cells rdRow 139) := by
 go_enter Tryz.func100,Tryz.ntmps100
 go_wp2
 go_ret
 exact ⟨rfl,rfl⟩

def Sized (z : Int) (n : Nat) : Prop := z = 0 ∨ z = -1 ∨ (1 ≤ z ∧ z ≤ (n : Int))
theorem sized_nat (k n : Nat) (h : k ≤ n) : Sized (k : Int) n := by unfold Sized; omega
theorem sized_row (p : UInt8 → Bool) (s : ByteArray) : Sized (rowL p s.data.toList : Nat) s.size := sized_nat _ _ (by rw [Lib.size_eq]; exact rowL_le p _)
theorem cut_le (s sep : Tx) : (Lib.cut s sep).1.length ≤ s.length := by
 unfold Lib.cut
 split
 ·simp; omega
 ·exact Nat.le_refl _
theorem remL_le (d : Nat) (l : Tx) : ∀ n,remL d l = some n → n ≤ l.length := by
 fun_induction remL d l with
 | case1 l => intro n h; simp at h; omega
 | case2 d => intro n h; simp at h
 | case3 d c r hc ih =>
  intro n h
  rw [Option.map_eq_some_iff] at h
  obtain ⟨k,hk,rfl⟩ := h
  have := ih k hk
  have h2 := congrArg List.length hc
  rw [List.length_drop] at this
  simp at h2 ⊢
  omega
 | case4 d c r h1 hc ih =>
  intro n h
  rw [Option.map_eq_some_iff] at h
  obtain ⟨k,hk,rfl⟩ := h
  have := ih k hk
  have h2 := congrArg List.length hc
  rw [List.length_drop] at this
  simp at h2 ⊢
  omega
 | case5 d c r h1 h2 ih =>
  intro n h
  rw [Option.map_eq_some_iff] at h
  obtain ⟨k,hk,rfl⟩ := h
  have := ih k hk
  simp; omega
theorem betL_le (q : UInt8) (l : Tx) : ∀ p,betL q l = some p → p.2 ≤ l.length := by
 intro p
 induction hn : l.length using Nat.strongRecOn generalizing l p with
 | _ n ih =>
  intro h
  cases l with
  | nil => cases h
  | cons c r =>
   rw [betL_cons] at h
   split at h
   ·cases r with
    | nil => simp at h; subst h; simp at hn ⊢; omega
    | cons d r2 =>
     simp only at h
     split at h
     ·rw [Option.map_eq_some_iff] at h
      obtain ⟨k,hk,rfl⟩ := h
      have := ih r2.length (by simp at hn; omega) r2 k rfl hk
      simp at hn ⊢; omega
     ·simp at h; subst h; simp at hn ⊢; omega
   ·rw [Option.map_eq_some_iff] at h
    obtain ⟨k,hk,rfl⟩ := h
    have := ih r.length (by simp at hn; omega) r k rfl hk
    simp at hn ⊢; omega
theorem sized_quo (q : UInt8) (k : Int) (s : ByteArray) : Sized (quoP q k s).2.2 s.size := by
 rw [Lib.size_eq]
 unfold quoP
 cases s.data.toList with
 | nil => exact .inl rfl
 | cons c r =>
  simp only
  split
  ·cases hb : betL q r with
   | none => exact .inr (.inl rfl)
   | some p =>
    have := betL_le q r p hb
    refine sized_nat (p.2 + 1) _ ?_
    rw [List.length_cons]; omega
  ·exact .inl rfl
theorem cut_dol (s M : ByteArray) (C : Tx × Tx × Bool) (hC : Lib.cut (s.extract M.size s.size).data.toList M.data.toList = C) (hb : C.2.2 = true) : C.1.length + M.size ≤ s.size - M.size := by
 have c : (s.extract M.size s.size).data.toList.length = s.size - M.size := by rw [ext_list,List.length_drop,← Lib.size_eq]
 have b := cut_len (s.extract M.size s.size).data.toList M.data.toList (by rw [hC]; exact hb)
 rw [c,hC,← Lib.size_eq] at b
 exact b
theorem sized_dol (s : ByteArray) : Sized (dolP s).2.2 s.size := by
 unfold dolP
 split
 ·exact .inl rfl
 ·split
  ·exact .inr (.inl rfl)
  ·rename_i h1 h2
   have hb : (cutM s).2.2 = true := by simpa using h2
   have e := cut_dol s (markA s) (cutM s) rfl hb
   have hm := markA_le s
   refine sized_nat ((markA s).size + (⟨(cutM s).1.toArray⟩ : ByteArray).size + (markA s).size) _ ?_
   rw [arr_size (cutM s).1]
   generalize (cutM s).1.length = x at *
   generalize (markA s).size = y at *
   omega
theorem rd_sized (i : Nat) (s : ByteArray) (h : 0 < s.size) : Sized (rdP i s).2.2 s.size := by
 match i with
 | 0 => exact sized_row _ s
 | 1 =>
  show Sized (lineP s).2.2 s.size
  unfold lineP
  simp only
  split
  ·refine sized_nat _ _ ?_
   unfold lineA
   rw [arr_size,Lib.size_eq]
   exact cut_le _ _
  ·exact .inl rfl
 | 2 =>
  show Sized (remP s).2.2 s.size
  unfold remP
  split
  ·rename_i hb
   have h2 : 2 ≤ s.size := by unfold hpB at hb; simp at hb; exact hb.1
   simp only
   cases hr : remL 1 (s.data.toList.drop 2) with
   | none => exact .inr (.inl rfl)
   | some n =>
    have := remL_le _ _ n hr
    rw [List.length_drop,← Lib.size_eq] at this
    exact sized_nat (n + 2) _ (by omega)
  ·exact .inl rfl
 | 3 =>
  show Sized (wordP s).2.2 s.size
  unfold wordP
  split
  ·exact .inl rfl
  ·exact sized_row _ s
 | 4 => exact sized_quo _ _ s
 | 5 => exact sized_quo _ _ s
 | 6 => exact sized_dol s
 | 7 =>
  show Sized (numP s).2.2 s.size
  unfold numP
  split
  ·exact .inl rfl
  ·exact sized_row _ s
 | 8 =>
  show Sized (parP s).2.2 s.size
  unfold parP
  split
  ·exact .inl rfl
  ·rename_i hb
   have h1 : hpB s dolT = true := by
    cases hc : hpB s dolT with
    | true => rfl
    | false => exact absurd (.inl hc) hb
   have a := dolR_size s h1
   have b : parN s ≤ (dolR s).size := by rw [Lib.size_eq]; exact rowL_le _ _
   refine sized_nat (parN s + 1) _ ?_
   generalize parN s = x at *
   generalize (dolR s).size = y at *
   omega
 | n + 9 =>
  show Sized (signP s).2.2 s.size
  unfold signP
  split
  ·exact .inl rfl
  ·split
   ·exact .inl rfl
   ·exact sized_nat 1 _ h

abbrev Tok : Type := Int × ByteArray × Int
def tokCells (t : Tok) : List Value := [.int .i64 t.1,.string t.2.1,.int .i64 t.2.2]
def tokRow (l : List Tok) : List Value := l.flatMap tokCells
def findR : Nat → ByteArray → Option Pc
 | 0,_ => none
 | k + 1,s => if (rdP (9 - k) s).2.2 = 0 then findR k s else some (rdP (9 - k) s)
theorem findR_at (i : Nat) (hi : i < 10) (s : ByteArray) : findR (10 - i) s = if (rdP i s).2.2 = 0 then findR (10 - (i + 1)) s else some (rdP i s) := by
 have e1 : 10 - i = (9 - i) + 1 := by omega
 have e2 : 9 - (9 - i) = i := by omega
 have e3 : 10 - (i + 1) = 9 - i := by omega
 rw [e1,findR,e2,e3]
def scanN : Nat → ByteArray → Nat → List Tok → List Tok × Int × Int
 | 0,_,_,acc => (acc,0,0)
 | f + 1,s,a,acc =>
  if s.size ≤ a then (acc,0,0) else match findR 10 (s.extract a s.size) with
  | none => ([],7,(a : Int))
  | some p => if p.2.2 = -1 then ([],6,(a : Int)) else scanN f s (a + p.2.2.toNat) (if p.1 = 0 then acc else acc ++ [(p.1,p.2.1,(a : Int))])
structure ScI (m : Int) (w : World) (l : List Tok) (v : Value) (wr : World) : Prop where
 bel : Below w.heap.size w wr
 wd : Wd m wr
 lt : w.heap.size < wr.heap.size
 rdr : wr.heap[w.heap.size]? = some (.cells rdRow 139 (0,0))
 row : wr.ownsRow (w.heap.size + 1) 125 3 v l.length (tokRow l)
 glt : 1 < w.heap.size
theorem ownsRow_below {B : Nat} {e : TypeId} {z n : Nat} {v : Value} {xs : List Value} {w w2 : World} (h : w.ownsRow B e z v n xs) (b : Below w.heap.size w w2) : w2.ownsRow B e z v n xs := by
 refine ⟨h.1,?_⟩
 rcases h.2 with h1 | ⟨g,cap,cur,h1,h2,h3,h4⟩
 ·exact .inl h1
 ·refine .inr ⟨g,cap,cur,h1,h2,?_,h4⟩
  rw [b.block g (Array.getElem?_eq_some_iff.1 h3).1]
  exact h3
theorem ScI.start {m : Int} {w : World} (h : Wd m w) : ScI m w [] (.slice none 0 0) (w.alloc (.cells rdRow 139)) := by
 have b : Below w.heap.size w (w.alloc (.cells rdRow 139)) := (Below.refl _ _).alloc (Nat.le_refl _) _
 exact ⟨b,h.below b,by simp,by show (w.heap.push _)[w.heap.size]? = _; simp,World.ownsRow_nil _ _ _ _,h.lt⟩
theorem ScI.step {m : Int} {w wr w2 : World} {l : List Tok} {v : Value} (h : ScI m w l v wr) (b : Below wr.heap.size wr w2) : ScI m w l v w2 :=
 ⟨h.bel.trans (b.mono (Nat.le_of_lt h.lt)),h.wd.below b,Nat.lt_of_lt_of_le h.lt b.size,by rw [b.block _ h.lt]; exact h.rdr,ownsRow_below h.row b,h.glt⟩
theorem ScI.more {m : Int} {w wr w2 : World} {l : List Tok} {v v2 : Value} (h : ScI m w l v wr) (t : Tok) (g : wr.grownBy w2 v.ownBlock)
  (r : w2.ownsRow (w.heap.size + 1) 125 3 v2 (l.length + 1) (tokRow l ++ tokCells t)) : ScI m w (l ++ [t]) v2 w2 := by
 have b : Below (w.heap.size + 1) wr w2 := (Below.refl _ _).grown g (by have := h.lt; omega) (fun k hk => (World.ownsRow.lt h.row k hk).1)
 have hw : 1 < w.heap.size + 1 := Nat.lt_succ_of_lt h.glt
 refine ⟨h.bel.trans (b.mono (Nat.le_succ _)),?_,Nat.lt_of_lt_of_le h.lt b.size,?_,?_,h.glt⟩
 ·unfold Wd
  rw [b.cell (p := ⟨1,0,none⟩) hw]
  exact h.wd
 ·rw [b.block _ (Nat.lt_succ_self _)]; exact h.rdr
 ·rw [List.length_append,show tokRow (l ++ [t]) = tokRow l ++ tokCells t by simp [tokRow]]
  exact r
theorem ScI.reader {m : Int} {w wr : World} {l : List Tok} {v : Value} (h : ScI m w l v wr) (i : Nat) (hi : i < 10) : wr.cell? ⟨w.heap.size,i,none⟩ = some (.func (.func (rdF i)) #[] #[]) := by
 have e : rdRow[i]? = some (.func (.func (rdF i)) #[] #[]) := by simp [rdRow,hi]
 unfold World.cell?
 rw [h.rdr]
 simpa using e

def TR (w : World) (v : Value) (l : List Tok) : Prop :=
 (∃ A cap,v = .slice A 0 cap ∧ l = []) ∨
 ∃ h off cap,v = .slice (some ⟨h,off,none⟩) l.length cap ∧ l.length ≤ cap ∧ ∀ (i : Nat) (t : Tok),l[i]? = some t →
  w.cell? ⟨h,off + i * 3,none⟩ = some (.int .i64 t.1) ∧ w.cell? ⟨h,off + i * 3 + 1,none⟩ = some (.string t.2.1) ∧ w.cell? ⟨h,off + i * 3 + 2,none⟩ = some (.int .i64 t.2.2)
theorem tokRow_get (l : List Tok) : ∀ (i : Nat) (t : Tok),l[i]? = some t → (tokRow l)[i * 3]? = some (.int .i64 t.1) ∧ (tokRow l)[i * 3 + 1]? = some (.string t.2.1) ∧ (tokRow l)[i * 3 + 2]? = some (.int .i64 t.2.2) := by
 induction l with
 | nil => intro i t h; simp at h
 | cons x r ih =>
  intro i t h
  cases i with
  | zero => simp at h; subst h; exact ⟨rfl,rfl,rfl⟩
  | succ i =>
   have h' : r[i]? = some t := by simpa using h
   obtain ⟨a,b,c⟩ := ih i t h'
   have e : tokRow (x :: r) = Value.int .i64 x.1 :: Value.string x.2.1 :: Value.int .i64 x.2.2 :: tokRow r := rfl
   rw [e,show (i + 1) * 3 = i * 3 + 1 + 1 + 1 by omega]
   exact ⟨by simpa using a,by simpa using b,by simpa using c⟩
theorem TR.own {w : World} {B : Nat} {v : Value} {l : List Tok} (h : w.ownsRow B 125 3 v l.length (tokRow l)) : TR w v l := by
 rcases h.2 with ⟨rfl,hz⟩ | ⟨g,cap,cur,rfl,hb,hh,hc,hm,hs,ht⟩
 ·exact .inl ⟨none,0,rfl,List.eq_nil_of_length_eq_zero hz⟩
 ·refine .inr ⟨g,0,cap,rfl,hc,fun i t hi => ?_⟩
  obtain ⟨a,b,c⟩ := tokRow_get l i t hi
  have hcell := h.cells (g := g) rfl
  have e1 := hcell _ _ a
  have e2 := hcell _ _ b
  have e3 := hcell _ _ c
  rw [Addr.add_lit,Nat.zero_add] at e1 e2 e3
  rw [Nat.zero_add]
  exact ⟨e1,e2,e3⟩
theorem TR.keep {w w' : World} {v : Value} {l : List Tok} (h : TR w v l) (hk : ∀ p : Addr,(w.cell? p).isSome = true → w'.cell? p = w.cell? p) : TR w' v l := by
 rcases h with h | ⟨h,off,cap,e,hc,hm⟩
 ·exact .inl h
 ·refine .inr ⟨h,off,cap,e,hc,fun i t hi => ?_⟩
  obtain ⟨a,b,c⟩ := hm i t hi
  exact ⟨(hk _ (by rw [a]; rfl)).trans a,(hk _ (by rw [b]; rfl)).trans b,(hk _ (by rw [c]; rfl)).trans c⟩
theorem TR.below {w w' : World} {v : Value} {l : List Tok} (h : TR w v l) (hb : Below w.heap.size w w') : TR w' v l :=
 h.keep fun p hp => by
  obtain ⟨u,hu⟩ := Option.isSome_iff_exists.1 hp
  exact hb.cell (World.block_lt_of_cell? w p hu)
theorem TR.form {w : World} {v : Value} {l : List Tok} (h : TR w v l) : ∃ a cap,v = .slice a l.length cap := by
 rcases h with ⟨A,cap,rfl,rfl⟩ | ⟨_,_,_,rfl,_⟩
 ·exact ⟨_,_,rfl⟩
 ·exact ⟨_,_,rfl⟩
def Alike (pl : Bool) (a b : List Tok) : Prop := a.length = b.length ∧ ∀ (i : Nat) (x y : Tok),a[i]? = some x → b[i]? = some y → x.1 = y.1 ∧ x.2.1 = y.2.1 ∧ (pl = true → x.2.2 = y.2.2)
theorem Alike.refl (pl : Bool) (a : List Tok) : Alike pl a a := ⟨rfl,fun i x y h1 h2 => by rw [h1] at h2; cases h2; exact ⟨rfl,rfl,fun _ => rfl⟩⟩



def dblL (q : UInt8) (l : Tx) : Tx := l.flatMap fun c => if c = q then [q,q] else [c]
theorem dbl_size (q : UInt8) (l : Tx) : (dblL q l).length ≤ 2 * l.length := by
 induction l with
 | nil => simp [dblL]
 | cons c r ih =>
  have e : dblL q (c :: r) = (if c = q then [q,q] else [c]) ++ dblL q r := by simp [dblL]
  rw [e,List.length_append,List.length_cons]
  have : (if c = q then [q,q] else [c]).length ≤ 2 := by split <;> simp
  omega
def quoL (q : UInt8) (l : Tx) : Tx := [q] ++ dblL q l ++ [q]
def shownL (t : Tok) : Tx := if t.1 = 2 then quoL 34 t.2.1.data.toList else if t.1 = 3 then quoL 39 t.2.1.data.toList else t.2.1.data.toList
theorem quo_size (q : UInt8) (l : Tx) : (quoL q l).length ≤ 2 * l.length + 2 := by
 have := dbl_size q l
 simp only [quoL,List.length_append,List.length_singleton]
 omega
theorem shown_size (t : Tok) : (shownL t).length ≤ 2 * t.2.1.size + 2 := by
 have h : t.2.1.data.toList.length = t.2.1.size := rfl
 unfold shownL
 split
 ·have := quo_size 34 t.2.1.data.toList; omega
 ·split
  ·have := quo_size 39 t.2.1.data.toList; omega
  ·omega
def tailL (l : List Tok) : Tx := l.flatMap fun t => 32 :: shownL t
def showL : List Tok → Tx
 | [] => []
 | t :: r => shownL t ++ tailL r
theorem show_size (l : List Tok) (z : Nat) (h : ∀ t ∈ l,t.2.1.size ≤ z) : (showL l).length ≤ l.length * (2 * z + 3) := by
 have ht : ∀ r : List Tok,(∀ t ∈ r,t.2.1.size ≤ z) → (tailL r).length ≤ r.length * (2 * z + 3) := by
  intro r
  induction r with
  | nil => intro _; simp [tailL]
  | cons x r ih =>
   intro hr
   have e : tailL (x :: r) = 32 :: shownL x ++ tailL r := by simp [tailL]
   have h1 := shown_size x
   have h2 := hr x (by simp)
   have h3 := ih fun t h => hr t (by simp [h])
   rw [e,List.length_append,List.length_cons,List.length_cons,Nat.succ_mul]
   omega
 cases l with
 | nil => simp [showL]
 | cons x r =>
  have h1 := shown_size x
  have h2 := h x (by simp)
  have h3 := ht r fun t h' => h t (by simp [h'])
  rw [showL,List.length_append,List.length_cons,Nat.succ_mul]
  omega
end Go.Proofs.YtjmmninopagpjaaGreatDoor
