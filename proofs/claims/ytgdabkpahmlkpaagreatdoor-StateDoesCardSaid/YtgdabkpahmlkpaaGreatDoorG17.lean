/- Tet Teu Dtx -/
import Derived.Test.YtgdabkpahmlkpaaGreatDoorG15
import Derived.Test.YtgdabkpahmlkpaaGreatDoorG16
import Derived.Test.YtgdabkpahmlkpaaGreatDoorG13
import Derived.Deep.RegionHeld3
set_option linter.unusedSimpArgs false
set_option linter.unusedVariables false
namespace Go.Proofs.YtgdabkpahmlkpaaGreatDoor
open Go.ChangeShapes Go.WideShapes Go.ChangeAt Go.RowKit
set_option maxRecDepth 100000
set_option linter.unusedVariables false
set_option linter.unusedSimpArgs false

theorem rkw_eq (s : ByteArray) : decide (readsL (kwL s) = [s.data.toList]) = !kwB s := by
 rw [kw_reads]
 by_cases hk : kwB s = true
 ·rw [if_pos hk,hk]; rfl
 ·rw [if_neg hk]; simp [hk]
theorem one_own {w : World} {g : Nat} {s : ByteArray} (h : w.cell? ⟨g,0,none⟩ = some (.string s)) : SRT w (.slice (some ⟨g,0,none⟩) 1 1) [s.data.toList] := by
 refine .inr ⟨g,0,1,rfl,Nat.le_refl _,fun i x hi => ?_⟩
 cases i with
 | zero =>
  simp at hi; subst hi
  rw [Nat.add_zero,h]
 | succ i => simp at hi
set_option maxHeartbeats 4000000 in
theorem docname_any (s : ByteArray) (w : World) (hs : s.size ≤ 1000000) :
  Calls Tryz.prog 47 #[.string s] w fun e w' => e = .returned (.bool (nameB s)) ∧ Below w.heap.size w w' := by
 have HS : Hid (Calls Tryz.prog 37 #[.string s] w fun e w' => ∃ v,e = .returned (.tuple #[v,.int .i64 (scanA s).2.1,.int .i64 (scanA s).2.2]) ∧ TR w' v (scanA s).1 ∧ Below w.heap.size w w') := Lib.hid (rscan_any s w)
 have HRD : Hid (∀ W,Calls Tryz.prog 87 #[.slice (some ⟨W.heap.size,0,none⟩) 2 2] (W.alloc (.cells #[.int .i64 1,.string ⟨#[102,114,111,109]⟩,.int .i64 0,.int .i64 1,.string s,.int .i64 0] 118)) fun e w' => ∃ v,e = .returned v ∧ PRT w' v (readsL (kwL s)) ∧ Below W.heap.size W w') := Lib.hid (fun W => by
  have hbl : (W.alloc (.cells #[.int .i64 1,.string ⟨#[102,114,111,109]⟩,.int .i64 0,.int .i64 1,.string s,.int .i64 0] 118)).heap[W.heap.size]? = some (.cells (tokRow (kwL s)).toArray 118 (0,0)) := by
   show (W.heap.push _)[W.heap.size]? = _
   rw [Array.getElem?_push_size]
   rfl
  have hb := (Below.refl W.heap.size W).alloc (Nat.le_refl _) (.cells #[.int .i64 1,.string ⟨#[102,114,111,109]⟩,.int .i64 0,.int .i64 1,.string s,.int .i64 0] 118)
  refine (rreads_any _ (kwL s) _ (TR.block hbl) (by simp [kwL]) (by
   intro t ht
   simp only [kwL,List.mem_cons,List.not_mem_nil,or_false] at ht
   rcases ht with rfl | rfl
   ·show (⟨#[102,114,111,109]⟩ : ByteArray).size ≤ _; decide
   ·show s.size ≤ _; omega)).mono ?_
  rintro e w' ⟨v,h1,h2,h3⟩
  exact ⟨v,h1,h2,hb.trans (h3.mono hb.size)⟩)
 have hlen : (readsL (kwL s)).length ≤ 2000000000 := by rw [kw_reads]; split <;> simp
 have HTX := Lib.hid (fun v1 v2 W h1 h2 => rtexts_any v1 v2 (readsL (kwL s)) [s.data.toList] W h1 h2 hlen (by simp))
 simp only [rkw_eq] at HTX
 have HTX2 : Hid (∀ v W,PRT W v (readsL (kwL s)) → Calls Tryz.prog 32 #[v,.slice (some ⟨W.heap.size,0,none⟩) 1 1] (W.alloc (.cells #[.string s] 9)) fun r w' => r = .returned (.bool !kwB s) ∧ Below W.heap.size W w') := Lib.hid (fun v W hP => by
  have hb := (Below.refl W.heap.size W).alloc (Nat.le_refl _) (.cells #[.string s] 9)
  refine (HTX.out v _ _ (hP.below hb).sr (one_own (by rw [World.cell?_alloc_new]; rfl))).mono ?_
  rintro r w' ⟨h1,n,rfl⟩
  exact ⟨h1,hb.trans (belN _ _ _)⟩)
 clear HTX
 have hok : (scanA s).1 ≠ [] → (scanA s).2.1 = 0 := scan_ok s
 have hq : selfB s = match (scanA s).1 with | [t] => t.1 == 1 && t.2.1.data.toList == s.data.toList | _ => false := rfl
 have hnm : nameB s = (decide (s.size ≤ 30) && selfB s && !kwB s && !fourL.contains s.data.toList) := rfl
 generalize readsL (kwL s) = rk at *
 generalize kwB s = kw at *
 generalize (scanA s) = r at *
 obtain ⟨l,er,at_⟩ := r
 simp only at HS hq hok
 rw [hq] at hnm
 clear hq hlen hs
 obtain ⟨N,hN⟩ : ∃ N,nameB s = N := ⟨_,rfl⟩
 rw [hN] at hnm ⊢
 clear hN
 have z1 : (⟨#[105,110,115,101,114,116]⟩ : ByteArray).toList = [105,110,115,101,114,116] := by rw [Lib.toList_data]
 have z2 : (⟨#[117,112,100,97,116,101]⟩ : ByteArray).toList = [117,112,100,97,116,101] := by rw [Lib.toList_data]
 have z3 : (⟨#[100,101,108,101,116,101]⟩ : ByteArray).toList = [100,101,108,101,116,101] := by rw [Lib.toList_data]
 have z4 : (⟨#[109,101,114,103,101]⟩ : ByteArray).toList = [109,101,114,103,101] := by rw [Lib.toList_data]
 by_cases a1 : s.data.toList = [105,110,115,101,114,116]
 ·have e1 : (s.toList == [105,110,115,101,114,116]) = true := by rw [Lib.toList_data,beq_iff_eq]; exact a1
  have hNf : N = false := by rw [hnm,a1,show fourL.contains [105,110,115,101,114,116] = true by decide]; simp
  subst hNf
  clear hnm a1 hok
  go_enter Tryz.func47,Tryz.ntmps47
  go_wp2_with fail
  refine HS.out.mono ?_
  rintro e w2 ⟨v,rfl,hT,hb⟩
  have HB := Lib.hid hb
  clear hb
  obtain ⟨a,cap,rfl⟩ := hT.form; clear hT
  go_wp2_with fail
  refine (HRD.out _).mono ?_
  rintro e w3 ⟨v3,rfl,hP,hb3⟩
  have HP := Lib.hid hP
  have HB3 := Lib.hid (HB.out.trans (hb3.mono HB.out.size))
  clear hP hb3
  go_wp2
  go_ret
  exact ⟨rfl,HB3.out⟩
 have e1 : (s.toList == [105,110,115,101,114,116]) = false := by rw [Lib.toList_data,beq_eq_false_iff_ne]; exact a1
 by_cases a2 : s.data.toList = [117,112,100,97,116,101]
 ·have e2 : (s.toList == [117,112,100,97,116,101]) = true := by rw [Lib.toList_data,beq_iff_eq]; exact a2
  have hNf : N = false := by rw [hnm,a2,show fourL.contains [117,112,100,97,116,101] = true by decide]; simp
  subst hNf
  clear hnm a2 hok
  go_enter Tryz.func47,Tryz.ntmps47
  go_wp2_with fail
  refine HS.out.mono ?_
  rintro e w2 ⟨v,rfl,hT,hb⟩
  have HB := Lib.hid hb
  clear hb
  obtain ⟨a,cap,rfl⟩ := hT.form; clear hT
  go_wp2_with fail
  refine (HRD.out _).mono ?_
  rintro e w3 ⟨v3,rfl,hP,hb3⟩
  have HP := Lib.hid hP
  have HB3 := Lib.hid (HB.out.trans (hb3.mono HB.out.size))
  clear hP hb3
  go_wp2
  go_ret
  exact ⟨rfl,HB3.out⟩
 have e2 : (s.toList == [117,112,100,97,116,101]) = false := by rw [Lib.toList_data,beq_eq_false_iff_ne]; exact a2
 by_cases a3 : s.data.toList = [100,101,108,101,116,101]
 ·have e3 : (s.toList == [100,101,108,101,116,101]) = true := by rw [Lib.toList_data,beq_iff_eq]; exact a3
  have hNf : N = false := by rw [hnm,a3,show fourL.contains [100,101,108,101,116,101] = true by decide]; simp
  subst hNf
  clear hnm a3 hok
  go_enter Tryz.func47,Tryz.ntmps47
  go_wp2_with fail
  refine HS.out.mono ?_
  rintro e w2 ⟨v,rfl,hT,hb⟩
  have HB := Lib.hid hb
  clear hb
  obtain ⟨a,cap,rfl⟩ := hT.form; clear hT
  go_wp2_with fail
  refine (HRD.out _).mono ?_
  rintro e w3 ⟨v3,rfl,hP,hb3⟩
  have HP := Lib.hid hP
  have HB3 := Lib.hid (HB.out.trans (hb3.mono HB.out.size))
  clear hP hb3
  go_wp2
  go_ret
  exact ⟨rfl,HB3.out⟩
 have e3 : (s.toList == [100,101,108,101,116,101]) = false := by rw [Lib.toList_data,beq_eq_false_iff_ne]; exact a3
 by_cases a4 : s.data.toList = [109,101,114,103,101]
 ·have e4 : (s.toList == [109,101,114,103,101]) = true := by rw [Lib.toList_data,beq_iff_eq]; exact a4
  have hNf : N = false := by rw [hnm,a4,show fourL.contains [109,101,114,103,101] = true by decide]; simp
  subst hNf
  clear hnm a4 hok
  go_enter Tryz.func47,Tryz.ntmps47
  go_wp2_with fail
  refine HS.out.mono ?_
  rintro e w2 ⟨v,rfl,hT,hb⟩
  have HB := Lib.hid hb
  clear hb
  obtain ⟨a,cap,rfl⟩ := hT.form; clear hT
  go_wp2_with fail
  refine (HRD.out _).mono ?_
  rintro e w3 ⟨v3,rfl,hP,hb3⟩
  have HP := Lib.hid hP
  have HB3 := Lib.hid (HB.out.trans (hb3.mono HB.out.size))
  clear hP hb3
  go_wp2
  go_ret
  exact ⟨rfl,HB3.out⟩
 have e4 : (s.toList == [109,101,114,103,101]) = false := by rw [Lib.toList_data,beq_eq_false_iff_ne]; exact a4
 have hf4 : fourL.contains s.data.toList = false := by
  cases hc : fourL.contains s.data.toList with
  | false => rfl
  | true =>
   have := List.contains_iff_mem.1 hc
   simp only [fourL,List.mem_cons,List.not_mem_nil,or_false] at this
   rcases this with h | h | h | h
   ·exact absurd h a1
   ·exact absurd h a2
   ·exact absurd h a3
   ·exact absurd h a4
 rw [hf4] at hnm
 simp only [Bool.not_false,Bool.and_true] at hnm
 clear hf4 a1 a2 a3 a4
 by_cases h30 : s.size ≤ 30
 ·have l30 : (s.size : Int) ≤ 30 := by omega
  rw [decide_eq_true h30,Bool.true_and] at hnm
  rcases l with _ | ⟨t,_ | ⟨u,l2⟩⟩
  ·skip
   have hNf : N = false := by rw [hnm]; rfl
   subst hNf
   clear hnm hok h30
   by_cases he : er = 0
   ·subst he
    go_enter Tryz.func47,Tryz.ntmps47
    go_wp2_with fail
    refine HS.out.mono ?_
    rintro e w2 ⟨v,rfl,hT,hb⟩
    have HB := Lib.hid hb
    clear hb
    obtain ⟨a,cap,rfl⟩ := hT.form; clear hT
    go_wp2_with fail
    refine (HRD.out _).mono ?_
    rintro e w3 ⟨v3,rfl,hP,hb3⟩
    have HP := Lib.hid hP
    have HB3 := Lib.hid (HB.out.trans (hb3.mono HB.out.size))
    clear hP hb3
    go_wp2
    go_ret
    exact ⟨rfl,HB3.out⟩
   ·have e1 : decide (er = 0) = false := decide_eq_false he
    have e2 : (er == 0) = false := by rw [beq_eq_false_iff_ne]; exact he
    go_enter Tryz.func47,Tryz.ntmps47
    go_wp2_with fail
    refine HS.out.mono ?_
    rintro e w2 ⟨v,rfl,hT,hb⟩
    have HB := Lib.hid hb
    clear hb
    obtain ⟨a,cap,rfl⟩ := hT.form; clear hT
    go_wp2_with fail
    refine (HRD.out _).mono ?_
    rintro e w3 ⟨v3,rfl,hP,hb3⟩
    have HP := Lib.hid hP
    have HB3 := Lib.hid (HB.out.trans (hb3.mono HB.out.size))
    clear hP hb3
    go_wp2
    go_ret
    exact ⟨rfl,HB3.out⟩
  ·skip
   obtain ⟨k,u,p⟩ := t
   have her : er = 0 := hok (by simp)
   subst her
   by_cases hk : k = 1
   ·subst hk
    by_cases hu : u.data.toList = s.data.toList
    ·have hus : u = s := by apply ByteArray.ext; exact Array.ext' hu
     subst hus
     have hQ : (!kw) = N := by rw [hnm]; simp
     subst hQ
     clear hok hnm h30 hu
     go_enter Tryz.func47,Tryz.ntmps47
     go_wp2_with fail
     refine HS.out.mono ?_
     rintro e w2 ⟨v,rfl,hT,hb⟩
     have HB := Lib.hid hb
     clear hb
     obtain ⟨g,off,cap,rfl,hcap,hx⟩ := hT.inv 1 rfl (by omega); have hx0 := hx 0 _ rfl; rw [Nat.zero_mul,Nat.add_zero] at hx0; obtain ⟨x0,x1,x2⟩ := hx0; have hcp : (0 : Int) < (cap : Int) := (by omega); clear hT hx
     go_wp2_with fail
     refine (HRD.out _).mono ?_
     rintro e w3 ⟨v3,rfl,hP,hb3⟩
     have HP := Lib.hid hP
     have HB3 := Lib.hid (HB.out.trans (hb3.mono HB.out.size))
     have hgl : g < w2.heap.size := World.block_lt_of_cell? _ _ x0; have y0 : w3.cell? ⟨g,off,none⟩ = some (.int .i64 1) := (hb3.cell (p := ⟨g,off,none⟩) hgl).trans x0; have y1 : w3.cell? ⟨g,off + 1,none⟩ = some (.string u) := (hb3.cell (p := ⟨g,off + 1,none⟩) hgl).trans x1
     clear hP hb3
     go_wp2_with fail
     refine (HTX2.out _ _ HP.out).mono ?_
     rintro e w4 ⟨rfl,hb4⟩
     have HB4 := Lib.hid (HB3.out.trans (hb4.mono HB3.out.size))
     clear hb4
     go_wp2
     go_ret
     exact ⟨rfl,HB4.out⟩
    ·have hNf : N = false := by
      have hub : (u.data.toList == s.data.toList) = false := by rw [beq_eq_false_iff_ne]; exact hu
      rw [hnm]
      show (((1 : Int) == 1 && u.data.toList == s.data.toList) && !kw) = false
      rw [hub,Bool.and_false,Bool.false_and]
     subst hNf
     have ue : (u.toList == s.toList) = false := by rw [Lib.toList_data,Lib.toList_data,beq_eq_false_iff_ne]; exact hu
     have une : ¬ (u = s) := fun h => hu (by rw [h])
     have ue2 : decide (u = s) = false := decide_eq_false une
     clear hok hnm h30 hu
     go_enter Tryz.func47,Tryz.ntmps47
     go_wp2_with fail
     refine HS.out.mono ?_
     rintro e w2 ⟨v,rfl,hT,hb⟩
     have HB := Lib.hid hb
     clear hb
     obtain ⟨g,off,cap,rfl,hcap,hx⟩ := hT.inv 1 rfl (by omega); have hx0 := hx 0 _ rfl; rw [Nat.zero_mul,Nat.add_zero] at hx0; obtain ⟨x0,x1,x2⟩ := hx0; have hcp : (0 : Int) < (cap : Int) := (by omega); clear hT hx
     go_wp2_with fail
     refine (HRD.out _).mono ?_
     rintro e w3 ⟨v3,rfl,hP,hb3⟩
     have HP := Lib.hid hP
     have HB3 := Lib.hid (HB.out.trans (hb3.mono HB.out.size))
     have hgl : g < w2.heap.size := World.block_lt_of_cell? _ _ x0; have y0 : w3.cell? ⟨g,off,none⟩ = some (.int .i64 1) := (hb3.cell (p := ⟨g,off,none⟩) hgl).trans x0; have y1 : w3.cell? ⟨g,off + 1,none⟩ = some (.string u) := (hb3.cell (p := ⟨g,off + 1,none⟩) hgl).trans x1
     clear hP hb3
     go_wp2
     go_ret
     exact ⟨rfl,HB3.out⟩
   ·have hNf : N = false := by
     have hkb : (k == 1) = false := by rw [beq_eq_false_iff_ne]; exact hk
     rw [hnm]
     show ((k == 1 && u.data.toList == s.data.toList) && !kw) = false
     rw [hkb,Bool.false_and,Bool.false_and]
    subst hNf
    have k1 : (k == 1) = false := by rw [beq_eq_false_iff_ne]; exact hk
    have k2 : decide (k = 1) = false := decide_eq_false hk
    clear hok hnm h30
    go_enter Tryz.func47,Tryz.ntmps47
    go_wp2_with fail
    refine HS.out.mono ?_
    rintro e w2 ⟨v,rfl,hT,hb⟩
    have HB := Lib.hid hb
    clear hb
    obtain ⟨g,off,cap,rfl,hcap,hx⟩ := hT.inv 1 rfl (by omega); have hx0 := hx 0 _ rfl; rw [Nat.zero_mul,Nat.add_zero] at hx0; obtain ⟨x0,x1,x2⟩ := hx0; have hcp : (0 : Int) < (cap : Int) := (by omega); clear hT hx
    go_wp2_with fail
    refine (HRD.out _).mono ?_
    rintro e w3 ⟨v3,rfl,hP,hb3⟩
    have HP := Lib.hid hP
    have HB3 := Lib.hid (HB.out.trans (hb3.mono HB.out.size))
    have hgl : g < w2.heap.size := World.block_lt_of_cell? _ _ x0; have y0 : w3.cell? ⟨g,off,none⟩ = some (.int .i64 k) := (hb3.cell (p := ⟨g,off,none⟩) hgl).trans x0; have y1 : w3.cell? ⟨g,off + 1,none⟩ = some (.string u) := (hb3.cell (p := ⟨g,off + 1,none⟩) hgl).trans x1
    clear hP hb3
    go_wp2
    go_ret
    exact ⟨rfl,HB3.out⟩
  ·skip
   have hNf : N = false := by rw [hnm]; rfl
   subst hNf
   have her : er = 0 := hok (by simp)
   subst her
   have hn : ((t :: u :: l2).length : Int) ≠ 1 := by simp; omega
   clear hnm hok h30
   go_enter Tryz.func47,Tryz.ntmps47
   go_wp2_with fail
   refine HS.out.mono ?_
   rintro e w2 ⟨v,rfl,hT,hb⟩
   have HB := Lib.hid hb
   clear hb
   obtain ⟨a,cap,rfl⟩ := hT.form; clear hT; obtain ⟨z,hz⟩ : ∃ z,(t :: u :: l2).length = z := ⟨_,rfl⟩; rw [hz]; rw [hz] at hn; have hn2 : decide ((z : Int) = 1) = false := (by rw [decide_eq_false_iff_not]; exact hn); have hn3 : ((z : Int) == 1) = false := (by rw [beq_eq_false_iff_ne]; exact hn); clear hz
   go_wp2_with fail
   refine (HRD.out _).mono ?_
   rintro e w3 ⟨v3,rfl,hP,hb3⟩
   have HP := Lib.hid hP
   have HB3 := Lib.hid (HB.out.trans (hb3.mono HB.out.size))
   clear hP hb3
   go_wp2
   all_goals
    go_ret
    exact ⟨rfl,HB3.out⟩
 ·have l30 : ¬ ((s.size : Int) ≤ 30) := by omega
  have hNf : N = false := by rw [hnm,decide_eq_false h30,Bool.false_and,Bool.false_and]
  subst hNf
  clear hnm hok h30
  go_enter Tryz.func47,Tryz.ntmps47
  go_wp2_with fail
  refine HS.out.mono ?_
  rintro e w2 ⟨v,rfl,hT,hb⟩
  have HB := Lib.hid hb
  clear hb
  obtain ⟨a,cap,rfl⟩ := hT.form; clear hT
  go_wp2_with fail
  refine (HRD.out _).mono ?_
  rintro e w3 ⟨v3,rfl,hP,hb3⟩
  have HP := Lib.hid hP
  have HB3 := Lib.hid (HB.out.trans (hb3.mono HB.out.size))
  clear hP hb3
  go_wp2
  all_goals
   go_ret
   exact ⟨rfl,HB3.out⟩
theorem conv_dig (W : World) (h : Nat) (v : Int) (c : UInt8) (hv : v = (c.toNat : Int)) (hc : W.cell? ⟨h,0,none⟩ = some (.int .u8 v)) : (convert 70 9 (.slice (some ⟨h,0,none⟩) 1 1)).run Tryz.prog W = .ok (.string (bb [c])) W := by
 subst hv
 refine run_convert_bytes_back (P := Tryz.prog) W 70 9 5 ⟨h,0,none⟩ 1 [c] Tryz.underlying70 Tryz.underlying5 Tryz.underlying9 ?_
 intro j hj
 cases j with
 | zero => rw [Addr.add_lit]; exact hc
 | succ j => simp at hj
theorem dig_val (d : Nat) (h : d < 10) : (48 : Int) + (d : Int) = ((UInt8.ofNat (48 + d)).toNat : Int) := by
 rw [UInt8.toNat_ofNat']
 omega
set_option maxHeartbeats 600000 in
theorem rDigits_any (k : Nat) (hk : k < 4611686018427387904) (w : World) : Calls Tryz.prog 48 #[.int .i64 (k : Int)] w fun e w' => e = .returned (.string (bb (Lib.decDigits k))) ∧ Below w.heap.size w w' := by
 induction hn : k using Nat.strongRecOn generalizing k w with
 | ind n ih =>
  subst hn
  have l0 : ¬ ((k : Int) < 0) := by omega
  by_cases h10 : k < 10
  ·have l10 : (k : Int) < 10 := by omega
   have hd : Lib.decDigits k = [UInt8.ofNat (48 + k)] := Lib.decDigits_one h10
   rw [hd]
   have kc := fun (W : World) => conv_dig (W.alloc (.cells #[.int .u8 (48 + (k : Int))] 5)) W.heap.size (48 + (k : Int)) (UInt8.ofNat (48 + k)) (dig_val k h10) (by rw [World.cell?_alloc_new]; rfl)
   have HB := Lib.hid ((Below.refl w.heap.size w).alloc (Nat.le_refl _) (.cells #[.int .u8 (48 + (k : Int))] 5))
   clear ih hd
   go_enter Tryz.func48,Tryz.ntmps48
   go_wp2
   go_ret
   exact ⟨rfl,HB.out⟩
  ·have l10 : ¬ ((k : Int) < 10) := by omega
   have hd : Lib.decDigits k = Lib.decDigits (k / 10) ++ [UInt8.ofNat (48 + k % 10)] := by rw [Lib.decDigits,dif_neg h10]
   rw [hd]
   have HI : Hid (∀ W,Calls Tryz.prog 48 #[.int .i64 ((k / 10 : Nat) : Int)] W fun e w' => e = .returned (.string (bb (Lib.decDigits (k / 10)))) ∧ Below W.heap.size W w') := Lib.hid (fun W => ih (k / 10) (by omega) (k / 10) (by omega) W rfl)
   have hdl := dec_len (k / 10) 19 (by decide) (by omega)
   clear ih hd
   obtain ⟨D,hD⟩ : ∃ D,Lib.decDigits (k / 10) = D := ⟨_,rfl⟩
   rw [hD] at HI hdl ⊢
   clear hD
   have hdl2 : ¬ (9223372036854775807 < D.length + 1) := by omega
   have l17 : (k : Int).tdiv 10 = ((k / 10 : Nat) : Int) := by rw [Int.tdiv_eq_ediv_of_nonneg (by omega)]; omega
   have l20 : (k : Int).tmod 10 = ((k % 10 : Nat) : Int) := by rw [Int.tmod_eq_emod_of_nonneg (by omega)]; omega
   have hq : k % 10 < 10 := by omega
   have hq2 : k / 10 < 4611686018427387904 := by omega
   obtain ⟨r,hr⟩ : ∃ r,k % 10 = r := ⟨_,rfl⟩
   rw [hr] at l20 hq ⊢
   clear hr
   obtain ⟨q,hq0⟩ : ∃ q,k / 10 = q := ⟨_,rfl⟩
   rw [hq0] at l17 hq2 HI
   clear hq0
   have r1 : (0 : Int) ≤ (r : Int) := by omega
   have r2 : (r : Int) < 10 := by omega
   have wq : IntKind.i64.wrap (q : Int) = (q : Int) := IntWalk.i64_in _ (by omega)
   have wr : IntKind.i64.wrap (48 + (r : Int)) = 48 + (r : Int) := IntWalk.i64_in _ (by omega)
   have wr8 : IntKind.u8.wrap (48 + (r : Int)) = 48 + (r : Int) := by simp [IntKind.wrap,IntKind.bits,IntKind.signed]; omega
   have HBB := Lib.hid (show bb (D ++ [UInt8.ofNat (48 + r)]) = bb D ++ bb [UInt8.ofNat (48 + r)] from by simp only [bb]; rfl)
   have HV := Lib.hid (dig_val r hq)
   clear hq
   obtain ⟨c,hc⟩ : ∃ c,UInt8.ofNat (48 + r) = c := ⟨_,rfl⟩
   have HC := Lib.hid hc
   rw [hc] at HBB ⊢
   clear hc
   go_enter Tryz.func48,Tryz.ntmps48
   go_wp2
   refine wp_region_held_drew (S := (fun w' => Below w.heap.size w w')) (by kernel_rfl) ?_ (fun hS => ?_)
   ·exact (Below.refl _ _).drew
   try dsimp only at hS
   refine tkY 0 ?_ rfl hS ?_ ?_;rotate_left
   ·intro wz hSz;go_simp;(try simp only [l17,l20,wq,wr,wr8]);all_goals with_reducible rfl
   (try simp only [Act.put,pu]);refine tkY 1 ?_ rfl hS ?_ ?_;rotate_left
   ·intro wz hSz;go_simp;(try simp only [l17,l20,wq,wr,wr8]);all_goals with_reducible rfl
   (try simp only [Act.put,pu]);refine tkY 3 ?_ rfl hS ?_ ?_;rotate_left
   ·intro wz hSz;go_simp;(try simp only [l17,l20,wq,wr,wr8]);all_goals with_reducible rfl
   (try simp only [Act.put,pu]);refine tkY 4 ?_ rfl hS ?_ ?_;rotate_left
   ·intro wz hSz;go_simp;(try simp only [l17,l20,wq,wr,wr8]);all_goals with_reducible rfl
   (try simp only [Act.put,pu]);refine tkY 5 ?_ rfl hS ?_ ?_;rotate_left
   ·intro wz hSz;go_simp;(try simp only [l17,l20,wq,wr,wr8]);all_goals with_reducible rfl
   (try simp only [Act.put,pu]);refine tkY 6 ?_ rfl hS ?_ ?_;rotate_left
   ·intro wz hSz;go_simp;(try simp only [l17,l20,wq,wr,wr8]);all_goals with_reducible rfl
   try simp only [Act.put,pu]
   clear l17 l20
   refine wpAnyH_ready (rs := [2,7]) (by kernel_rfl) (by simp) (AllReadyH.cons rfl (fun K hK => ?_) (AllReadyH.cons rfl (fun K hK => ?_) AllReadyH.nil))
   ·go_simp
    refine (HI.out _).mono ?_; rintro e w5 ⟨rfl,hb5⟩
    refine hK.out _ _ ?_ (fun hSn => ?_)
    ·exact hS.trans (hb5.mono hS.size)
    clear hK K hS
    have hS := hSn
    clear hSn
    try dsimp only at hS
    try simp only [Act.put,pu]
    clear hb5
    have kc := conv_dig (w5.alloc (.cells #[.int .u8 (48 + (r : Int))] 5)) w5.heap.size (48 + (r : Int)) (UInt8.ofNat (48 + r)) HV.out (by rw [World.cell?_alloc_new]; rfl)
    rw [HC.out] at kc
    refine wpAnyH_ready (rs := [7]) (by kernel_rfl) (by simp) (AllReadyH.cons rfl (fun K hK => ?_) AllReadyH.nil)
    go_simp
    refine hK.out _ _ ?_ (fun hSn => ?_)
    ·exact hS.alloc hS.size _
    clear hK K hS
    have hS := hSn
    clear hSn
    try dsimp only at hS
    try simp only [Act.put,pu]
    refine wpAnyH_ready (rs := [8]) (by kernel_rfl) (by simp) (AllReadyH.cons rfl (fun K hK => ?_) AllReadyH.nil)
    go_simp
    refine hK.out _ _ ?_ (fun hSn => ?_)
    ·exact hS
    clear hK K hS
    have hS := hSn
    clear hSn
    try dsimp only at hS
    (try simp only [Act.put,pu]);refine tkY 9 ?_ rfl hS ?_ ?_;rotate_left
    ·intro wz hSz;go_simp;all_goals with_reducible rfl
    (try simp only [Act.put,pu]);refine tkY 10 ?_ rfl hS ?_ ?_;rotate_left
    ·intro wz hSz;go_simp;all_goals with_reducible rfl
    try simp only [Act.put,pu]
    refine wpAnyH_done (by kernel_rfl) ?_ _
    go_wp2
    go_ret
    exact ⟨by rw [HBB.out]; rfl,hS⟩
   ·go_simp
    refine hK.out _ _ ?_ (fun hSn => ?_)
    ·exact by first | exact hS.alloc hS.size _ | exact ((Below.refl w.heap.size w).alloc (Nat.le_refl _) _).drew
    clear hK K hS
    have hS := hSn
    clear hSn
    try dsimp only at hS
    try simp only [Act.put,pu]
    obtain ⟨W1,hW1⟩ : ∃ W1,(w.alloc (.cells #[.int .u8 (48 + (r : Int))] 5)).drew = W1 := ⟨_,rfl⟩
    have c1 : W1.cell? ⟨w.heap.size,0,none⟩ = some (.int .u8 (48 + (r : Int))) := by rw [← hW1]; show (w.alloc (.cells #[.int .u8 (48 + (r : Int))] 5)).cell? _ = _; rw [World.cell?_alloc_new]; rfl
    have z1 : w.heap.size < W1.heap.size := by rw [← hW1]; show _ < (w.heap.push _).size; simp
    rw [hW1] at hS ⊢
    clear hW1
    refine wpAnyH_ready (rs := [2,8]) (by kernel_rfl) (by simp) (AllReadyH.cons rfl (fun K hK => ?_) (AllReadyH.cons rfl (fun K hK => ?_) AllReadyH.nil))
    ·go_simp
     refine (HI.out _).mono ?_; rintro e w5 ⟨rfl,hb5⟩
     have c5 : w5.cell? ⟨w.heap.size,0,none⟩ = some (.int .u8 (48 + (r : Int))) := (hb5.cell (p := ⟨w.heap.size,0,none⟩) z1).trans c1
     refine hK.out _ _ ?_ (fun hSn => ?_)
     ·exact hS.trans (hb5.mono hS.size)
     clear hK K hS
     have hS := hSn
     clear hSn
     try dsimp only at hS
     try simp only [Act.put,pu]
     clear hb5 c1 z1
     have kc := conv_dig w5 w.heap.size (48 + (r : Int)) (UInt8.ofNat (48 + r)) HV.out (c5)
     rw [HC.out] at kc
     refine wpAnyH_ready (rs := [8]) (by kernel_rfl) (by simp) (AllReadyH.cons rfl (fun K hK => ?_) AllReadyH.nil)
     go_simp
     refine hK.out _ _ ?_ (fun hSn => ?_)
     ·exact hS
     clear hK K hS
     have hS := hSn
     clear hSn
     try dsimp only at hS
     (try simp only [Act.put,pu]);refine tkY 9 ?_ rfl hS ?_ ?_;rotate_left
     ·intro wz hSz;go_simp;all_goals with_reducible rfl
     (try simp only [Act.put,pu]);refine tkY 10 ?_ rfl hS ?_ ?_;rotate_left
     ·intro wz hSz;go_simp;all_goals with_reducible rfl
     try simp only [Act.put,pu]
     refine wpAnyH_done (by kernel_rfl) ?_ _
     go_wp2
     go_ret
     exact ⟨by rw [HBB.out]; rfl,hS⟩
    ·have kc := conv_dig W1 w.heap.size (48 + (r : Int)) (UInt8.ofNat (48 + r)) HV.out (c1)
     rw [HC.out] at kc
     clear c1 z1
     go_simp
     refine hK.out _ _ ?_ (fun hSn => ?_)
     ·exact hS
     clear hK K hS
     have hS := hSn
     clear hSn
     try dsimp only at hS
     try simp only [Act.put,pu]
     refine wpAnyH_ready (rs := [2]) (by kernel_rfl) (by simp) (AllReadyH.cons rfl (fun K hK => ?_) AllReadyH.nil)
     go_simp
     refine (HI.out _).mono ?_; rintro e w5 ⟨rfl,hb5⟩
     refine hK.out _ _ ?_ (fun hSn => ?_)
     ·exact hS.trans (hb5.mono hS.size)
     clear hK K hS
     have hS := hSn
     clear hSn
     try dsimp only at hS
     try simp only [Act.put,pu]
     clear hb5
     refine tkY 9 ?_ rfl hS ?_ ?_;rotate_left
     ·intro wz hSz;go_simp;all_goals with_reducible rfl
     (try simp only [Act.put,pu]);refine tkY 10 ?_ rfl hS ?_ ?_;rotate_left
     ·intro wz hSz;go_simp;all_goals with_reducible rfl
     try simp only [Act.put,pu]
     refine wpAnyH_done (by kernel_rfl) ?_ _
     go_wp2
     go_ret
     exact ⟨by rw [HBB.out]; rfl,hS⟩
theorem rDigits_int (n : Int) (h0 : 0 ≤ n) (h1 : n < 4611686018427387904) (w : World) : Calls Tryz.prog 48 #[.int .i64 n] w fun e w' => e = .returned (.string (bb (Lib.itoa n))) ∧ Below w.heap.size w w' := by
 obtain ⟨k,rfl⟩ := Int.eq_ofNat_of_zero_le h0
 rw [Lib.itoa_nonneg]
 exact rDigits_any k (by omega) w

theorem docnameB (s : ByteArray) (b : Bool) (hb : nameB s = b) (hs : s.size ≤ 1000000) (w : World) :
  Calls Tryz.prog 47 #[.string s] w fun e w' => e = .returned (.bool b) ∧ Below w.heap.size w w' := by
 subst hb; exact docname_any s w hs
theorem rinnB (n : Int) (b : Bool) (hb : inN n = b) (w : World) : Calls Tryz.prog 44 #[.int .i64 n] w fun e w' => e = .returned (.bool b) ∧ Below w.heap.size w w' := by
 subst hb
 refine (rinn_any n w).mono ?_
 rintro e w' ⟨he,rfl⟩
 exact ⟨he,Below.refl _ _⟩
theorem rdigB (n : Int) (hb : inN n = true) (w : World) : Calls Tryz.prog 48 #[.int .i64 n] w fun e w' => e = .returned (.string (bb (Lib.itoa n))) ∧ Below w.heap.size w w' := by
 have := of_decide_eq_true hb
 exact rDigits_int n this.1 (by omega) w
theorem bbApp (a b : Tx) : bb (a ++ b) = bb a ++ bb b := by
 apply ByteArray.ext
 simp [bb]
theorem addEmp (a : ByteArray) : a ++ (⟨#[]⟩ : ByteArray) = a := by
 apply ByteArray.ext
 simp
theorem bbData (n : ByteArray) : bb n.data.toList = n := by
 apply ByteArray.ext
 simp [bb]
set_option maxHeartbeats 2000000 in
theorem dt_name (kd : Int) (n : ByteArray) (K V : Int) (kb : Bool) (w : World) (hs : n.size ≤ 1000000) (h1 : nameB n = false) :
  Calls Tryz.prog 15 #[.agg #[.int .i64 kd,.string n,.int .i64 K,.int .i64 V,.bool kb]] w fun e w' => e = .returned (.string ⟨#[]⟩) ∧ Below w.heap.size w w' := by
 have HB0 := Lib.hid (Below.refl w.heap.size w)
 have HM0 := Lib.hid (Below.refl w.heap.size w)
 have HSZ := Lib.hid hs
 clear hs
 go_enter Tryz.func15,Tryz.ntmps15
 go_wp2_with fail
 obtain ⟨W0,hW0⟩ : ∃ W0,w.alloc (.cells #[.int .i64 kd,.string n,.int .i64 K,.int .i64 V,.bool kb] 24) = W0 := ⟨_,rfl⟩
 have hb0 : Below w.heap.size w W0 := by rw [← hW0]; exact (Below.refl _ _).alloc (Nat.le_refl _) _
 have HB1 := Lib.hid hb0
 have hk0 : Blk W0 w.heap.size 24 (cmCells (kd,n,K,V,kb)) := by rw [← hW0]; exact Blk.new _ _ _
 have HK := Lib.hid hk0
 rw [hW0]
 clear hW0 hk0 hb0 HM0
 obtain ⟨y0,y1,y2,y3,y4⟩ := cm_results (kd,n,K,V,kb) HK.out
 simp only at y0 y1 y2 y3 y4
 go_wp2_with fail
 refine (docnameB n false h1 HSZ.out _).mono ?_
 rintro e w2 ⟨rfl,hb2⟩
 have HB2 := Lib.hid (HB1.out.trans (hb2.mono HB1.out.size))
 have HK := Lib.hid (HK.out.below hb2 (Blk.lt HK.out))
 clear hb2 y0 y1 y2 y3 y4
 go_wp2
 go_ret
 exact ⟨rfl,HB2.out⟩
set_option maxHeartbeats 2000000 in
theorem dt_k (kd : Int) (n : ByteArray) (K V : Int) (kb : Bool) (w : World) (hs : n.size ≤ 1000000) (h1 : nameB n = true) (h2 : inN K = false) :
  Calls Tryz.prog 15 #[.agg #[.int .i64 kd,.string n,.int .i64 K,.int .i64 V,.bool kb]] w fun e w' => e = .returned (.string ⟨#[]⟩) ∧ Below w.heap.size w w' := by
 have HB0 := Lib.hid (Below.refl w.heap.size w)
 have HM0 := Lib.hid (Below.refl w.heap.size w)
 have HSZ := Lib.hid hs
 clear hs
 go_enter Tryz.func15,Tryz.ntmps15
 go_wp2_with fail
 obtain ⟨W0,hW0⟩ : ∃ W0,w.alloc (.cells #[.int .i64 kd,.string n,.int .i64 K,.int .i64 V,.bool kb] 24) = W0 := ⟨_,rfl⟩
 have hb0 : Below w.heap.size w W0 := by rw [← hW0]; exact (Below.refl _ _).alloc (Nat.le_refl _) _
 have HB1 := Lib.hid hb0
 have hk0 : Blk W0 w.heap.size 24 (cmCells (kd,n,K,V,kb)) := by rw [← hW0]; exact Blk.new _ _ _
 have HK := Lib.hid hk0
 rw [hW0]
 clear hW0 hk0 hb0 HM0
 obtain ⟨y0,y1,y2,y3,y4⟩ := cm_results (kd,n,K,V,kb) HK.out
 simp only at y0 y1 y2 y3 y4
 go_wp2_with fail
 refine (docnameB n true h1 HSZ.out _).mono ?_
 rintro e w2 ⟨rfl,hb2⟩
 have HB2 := Lib.hid (HB1.out.trans (hb2.mono HB1.out.size))
 have HK := Lib.hid (HK.out.below hb2 (Blk.lt HK.out))
 clear hb2 y0 y1 y2 y3 y4
 obtain ⟨y0,y1,y2,y3,y4⟩ := cm_results (kd,n,K,V,kb) HK.out
 simp only at y0 y1 y2 y3 y4
 go_wp2_with fail
 refine (rinnB K false h2 _).mono ?_
 rintro e w3 ⟨rfl,hb3⟩
 have HB3 := Lib.hid (HB2.out.trans (hb3.mono HB2.out.size))
 have HK := Lib.hid (HK.out.below hb3 (Blk.lt HK.out))
 clear hb3 y0 y1 y2 y3 y4
 go_wp2
 go_ret
 exact ⟨rfl,HB3.out⟩
set_option maxHeartbeats 2000000 in
theorem dt_v (kd : Int) (n : ByteArray) (K V : Int) (kb : Bool) (w : World) (hs : n.size ≤ 1000000) (h1 : nameB n = true) (h2 : inN K = true) (h3 : inN V = false) :
  Calls Tryz.prog 15 #[.agg #[.int .i64 kd,.string n,.int .i64 K,.int .i64 V,.bool kb]] w fun e w' => e = .returned (.string ⟨#[]⟩) ∧ Below w.heap.size w w' := by
 have HB0 := Lib.hid (Below.refl w.heap.size w)
 have HM0 := Lib.hid (Below.refl w.heap.size w)
 have HSZ := Lib.hid hs
 clear hs
 go_enter Tryz.func15,Tryz.ntmps15
 go_wp2_with fail
 obtain ⟨W0,hW0⟩ : ∃ W0,w.alloc (.cells #[.int .i64 kd,.string n,.int .i64 K,.int .i64 V,.bool kb] 24) = W0 := ⟨_,rfl⟩
 have hb0 : Below w.heap.size w W0 := by rw [← hW0]; exact (Below.refl _ _).alloc (Nat.le_refl _) _
 have HB1 := Lib.hid hb0
 have hk0 : Blk W0 w.heap.size 24 (cmCells (kd,n,K,V,kb)) := by rw [← hW0]; exact Blk.new _ _ _
 have HK := Lib.hid hk0
 rw [hW0]
 clear hW0 hk0 hb0 HM0
 obtain ⟨y0,y1,y2,y3,y4⟩ := cm_results (kd,n,K,V,kb) HK.out
 simp only at y0 y1 y2 y3 y4
 go_wp2_with fail
 refine (docnameB n true h1 HSZ.out _).mono ?_
 rintro e w2 ⟨rfl,hb2⟩
 have HB2 := Lib.hid (HB1.out.trans (hb2.mono HB1.out.size))
 have HK := Lib.hid (HK.out.below hb2 (Blk.lt HK.out))
 clear hb2 y0 y1 y2 y3 y4
 obtain ⟨y0,y1,y2,y3,y4⟩ := cm_results (kd,n,K,V,kb) HK.out
 simp only at y0 y1 y2 y3 y4
 go_wp2_with fail
 refine (rinnB K true h2 _).mono ?_
 rintro e w3 ⟨rfl,hb3⟩
 have HB3 := Lib.hid (HB2.out.trans (hb3.mono HB2.out.size))
 have HK := Lib.hid (HK.out.below hb3 (Blk.lt HK.out))
 clear hb3 y0 y1 y2 y3 y4
 obtain ⟨y0,y1,y2,y3,y4⟩ := cm_results (kd,n,K,V,kb) HK.out
 simp only at y0 y1 y2 y3 y4
 go_wp2_with fail
 refine (rinnB V false h3 _).mono ?_
 rintro e w4 ⟨rfl,hb4⟩
 have HB4 := Lib.hid (HB3.out.trans (hb4.mono HB3.out.size))
 have HK := Lib.hid (HK.out.below hb4 (Blk.lt HK.out))
 clear hb4 y0 y1 y2 y3 y4
 go_wp2
 go_ret
 exact ⟨rfl,HB4.out⟩
set_option maxHeartbeats 2000000 in
theorem dt_nk (kd : Int) (n : ByteArray) (K V : Int) (w : World) (hs : n.size ≤ 1000000) (h1 : nameB n = true) (h2 : inN K = true) (h3 : inN V = true) (h4 : K ≠ 0) :
  Calls Tryz.prog 15 #[.agg #[.int .i64 kd,.string n,.int .i64 K,.int .i64 V,.bool false]] w fun e w' => e = .returned (.string ⟨#[]⟩) ∧ Below w.heap.size w w' := by
 have k0 : (K != 0) = true := by rw [bne_iff_ne]; exact h4
 have k1 : decide (K ≠ 0) = true := decide_eq_true h4
 have HB0 := Lib.hid (Below.refl w.heap.size w)
 have HM0 := Lib.hid (Below.refl w.heap.size w)
 have HSZ := Lib.hid hs
 clear hs
 go_enter Tryz.func15,Tryz.ntmps15
 go_wp2_with fail
 obtain ⟨W0,hW0⟩ : ∃ W0,w.alloc (.cells #[.int .i64 kd,.string n,.int .i64 K,.int .i64 V,.bool false] 24) = W0 := ⟨_,rfl⟩
 have hb0 : Below w.heap.size w W0 := by rw [← hW0]; exact (Below.refl _ _).alloc (Nat.le_refl _) _
 have HB1 := Lib.hid hb0
 have hk0 : Blk W0 w.heap.size 24 (cmCells (kd,n,K,V,false)) := by rw [← hW0]; exact Blk.new _ _ _
 have HK := Lib.hid hk0
 rw [hW0]
 clear hW0 hk0 hb0 HM0
 obtain ⟨y0,y1,y2,y3,y4⟩ := cm_results (kd,n,K,V,false) HK.out
 simp only at y0 y1 y2 y3 y4
 go_wp2_with fail
 refine (docnameB n true h1 HSZ.out _).mono ?_
 rintro e w2 ⟨rfl,hb2⟩
 have HB2 := Lib.hid (HB1.out.trans (hb2.mono HB1.out.size))
 have HK := Lib.hid (HK.out.below hb2 (Blk.lt HK.out))
 clear hb2 y0 y1 y2 y3 y4
 obtain ⟨y0,y1,y2,y3,y4⟩ := cm_results (kd,n,K,V,false) HK.out
 simp only at y0 y1 y2 y3 y4
 go_wp2_with fail
 refine (rinnB K true h2 _).mono ?_
 rintro e w3 ⟨rfl,hb3⟩
 have HB3 := Lib.hid (HB2.out.trans (hb3.mono HB2.out.size))
 have HK := Lib.hid (HK.out.below hb3 (Blk.lt HK.out))
 clear hb3 y0 y1 y2 y3 y4
 obtain ⟨y0,y1,y2,y3,y4⟩ := cm_results (kd,n,K,V,false) HK.out
 simp only at y0 y1 y2 y3 y4
 go_wp2_with fail
 refine (rinnB V true h3 _).mono ?_
 rintro e w4 ⟨rfl,hb4⟩
 have HB4 := Lib.hid (HB3.out.trans (hb4.mono HB3.out.size))
 have HK := Lib.hid (HK.out.below hb4 (Blk.lt HK.out))
 clear hb4 y0 y1 y2 y3 y4
 obtain ⟨y0,y1,y2,y3,y4⟩ := cm_results (kd,n,K,V,false) HK.out
 simp only at y0 y1 y2 y3 y4
 go_wp2
 go_ret
 exact ⟨rfl,HB4.out⟩
set_option maxHeartbeats 2000000 in
theorem dt_nv (kd : Int) (n : ByteArray) (K V : Int) (w : World) (hs : n.size ≤ 1000000) (h1 : nameB n = true) (h2 : inN K = true) (h3 : inN V = true) (h4 : V ≠ 0) (h5 : kd ≠ 2) :
  Calls Tryz.prog 15 #[.agg #[.int .i64 kd,.string n,.int .i64 K,.int .i64 V,.bool true]] w fun e w' => e = .returned (.string ⟨#[]⟩) ∧ Below w.heap.size w w' := by
 have v0 : (V != 0) = true := by rw [bne_iff_ne]; exact h4
 have d2 : (kd != 2) = true := by rw [bne_iff_ne]; exact h5
 have HB0 := Lib.hid (Below.refl w.heap.size w)
 have HM0 := Lib.hid (Below.refl w.heap.size w)
 have HSZ := Lib.hid hs
 clear hs
 go_enter Tryz.func15,Tryz.ntmps15
 go_wp2_with fail
 obtain ⟨W0,hW0⟩ : ∃ W0,w.alloc (.cells #[.int .i64 kd,.string n,.int .i64 K,.int .i64 V,.bool true] 24) = W0 := ⟨_,rfl⟩
 have hb0 : Below w.heap.size w W0 := by rw [← hW0]; exact (Below.refl _ _).alloc (Nat.le_refl _) _
 have HB1 := Lib.hid hb0
 have hk0 : Blk W0 w.heap.size 24 (cmCells (kd,n,K,V,true)) := by rw [← hW0]; exact Blk.new _ _ _
 have HK := Lib.hid hk0
 rw [hW0]
 clear hW0 hk0 hb0 HM0
 obtain ⟨y0,y1,y2,y3,y4⟩ := cm_results (kd,n,K,V,true) HK.out
 simp only at y0 y1 y2 y3 y4
 go_wp2_with fail
 refine (docnameB n true h1 HSZ.out _).mono ?_
 rintro e w2 ⟨rfl,hb2⟩
 have HB2 := Lib.hid (HB1.out.trans (hb2.mono HB1.out.size))
 have HK := Lib.hid (HK.out.below hb2 (Blk.lt HK.out))
 clear hb2 y0 y1 y2 y3 y4
 obtain ⟨y0,y1,y2,y3,y4⟩ := cm_results (kd,n,K,V,true) HK.out
 simp only at y0 y1 y2 y3 y4
 go_wp2_with fail
 refine (rinnB K true h2 _).mono ?_
 rintro e w3 ⟨rfl,hb3⟩
 have HB3 := Lib.hid (HB2.out.trans (hb3.mono HB2.out.size))
 have HK := Lib.hid (HK.out.below hb3 (Blk.lt HK.out))
 clear hb3 y0 y1 y2 y3 y4
 obtain ⟨y0,y1,y2,y3,y4⟩ := cm_results (kd,n,K,V,true) HK.out
 simp only at y0 y1 y2 y3 y4
 go_wp2_with fail
 refine (rinnB V true h3 _).mono ?_
 rintro e w4 ⟨rfl,hb4⟩
 have HB4 := Lib.hid (HB3.out.trans (hb4.mono HB3.out.size))
 have HK := Lib.hid (HK.out.below hb4 (Blk.lt HK.out))
 clear hb4 y0 y1 y2 y3 y4
 obtain ⟨y0,y1,y2,y3,y4⟩ := cm_results (kd,n,K,V,true) HK.out
 simp only at y0 y1 y2 y3 y4
 go_wp2
 go_ret
 exact ⟨rfl,HB4.out⟩
set_option maxHeartbeats 2000000 in
theorem dt_nv0 (kd : Int) (n : ByteArray) (V : Int) (w : World) (hs : n.size ≤ 1000000) (h1 : nameB n = true) (h2 : inN 0 = true) (h3 : inN V = true) (h4 : V ≠ 0) (h5 : kd ≠ 2) :
  Calls Tryz.prog 15 #[.agg #[.int .i64 kd,.string n,.int .i64 0,.int .i64 V,.bool false]] w fun e w' => e = .returned (.string ⟨#[]⟩) ∧ Below w.heap.size w w' := by
 have v0 : (V != 0) = true := by rw [bne_iff_ne]; exact h4
 have d2 : (kd != 2) = true := by rw [bne_iff_ne]; exact h5
 have HB0 := Lib.hid (Below.refl w.heap.size w)
 have HM0 := Lib.hid (Below.refl w.heap.size w)
 have HSZ := Lib.hid hs
 clear hs
 go_enter Tryz.func15,Tryz.ntmps15
 go_wp2_with fail
 obtain ⟨W0,hW0⟩ : ∃ W0,w.alloc (.cells #[.int .i64 kd,.string n,.int .i64 0,.int .i64 V,.bool false] 24) = W0 := ⟨_,rfl⟩
 have hb0 : Below w.heap.size w W0 := by rw [← hW0]; exact (Below.refl _ _).alloc (Nat.le_refl _) _
 have HB1 := Lib.hid hb0
 have hk0 : Blk W0 w.heap.size 24 (cmCells (kd,n,0,V,false)) := by rw [← hW0]; exact Blk.new _ _ _
 have HK := Lib.hid hk0
 rw [hW0]
 clear hW0 hk0 hb0 HM0
 obtain ⟨y0,y1,y2,y3,y4⟩ := cm_results (kd,n,0,V,false) HK.out
 simp only at y0 y1 y2 y3 y4
 go_wp2_with fail
 refine (docnameB n true h1 HSZ.out _).mono ?_
 rintro e w2 ⟨rfl,hb2⟩
 have HB2 := Lib.hid (HB1.out.trans (hb2.mono HB1.out.size))
 have HK := Lib.hid (HK.out.below hb2 (Blk.lt HK.out))
 clear hb2 y0 y1 y2 y3 y4
 obtain ⟨y0,y1,y2,y3,y4⟩ := cm_results (kd,n,0,V,false) HK.out
 simp only at y0 y1 y2 y3 y4
 go_wp2_with fail
 refine (rinnB 0 true h2 _).mono ?_
 rintro e w3 ⟨rfl,hb3⟩
 have HB3 := Lib.hid (HB2.out.trans (hb3.mono HB2.out.size))
 have HK := Lib.hid (HK.out.below hb3 (Blk.lt HK.out))
 clear hb3 y0 y1 y2 y3 y4
 obtain ⟨y0,y1,y2,y3,y4⟩ := cm_results (kd,n,0,V,false) HK.out
 simp only at y0 y1 y2 y3 y4
 go_wp2_with fail
 refine (rinnB V true h3 _).mono ?_
 rintro e w4 ⟨rfl,hb4⟩
 have HB4 := Lib.hid (HB3.out.trans (hb4.mono HB3.out.size))
 have HK := Lib.hid (HK.out.below hb4 (Blk.lt HK.out))
 clear hb4 y0 y1 y2 y3 y4
 obtain ⟨y0,y1,y2,y3,y4⟩ := cm_results (kd,n,0,V,false) HK.out
 simp only at y0 y1 y2 y3 y4
 go_wp2
 go_ret
 exact ⟨rfl,HB4.out⟩
set_option maxHeartbeats 2000000 in
theorem dg_get (n : ByteArray) (K : Int) (w : World) (hs : n.size ≤ 1000000) (h1 : nameB n = true) (h2 : inN K = true) (h3 : inN 0 = true) :
  Calls Tryz.prog 15 #[.agg #[.int .i64 1,.string n,.int .i64 K,.int .i64 0,.bool true]] w fun e w' => e = .returned (.string (⟨#[115,101,108,101,99,116,32,42,32,102,114,111,109,32]⟩ ++ n ++ (⟨#[32,119,104,101,114,101,32,107,32,61,32]⟩ ++ bb (Lib.itoa K)))) ∧ Below w.heap.size w w' := by
 have lz : (Lib.itoa K).length ≤ 6 := by obtain ⟨_,_,_,_,_,_,lz⟩ := itoa_in K h2; exact lz
 have q0 : ¬ (9223372036854775807 < 11 + (Lib.itoa K).length) := by omega
 have q1 : ¬ (9223372036854775807 < 14 + n.size) := by omega
 have q2 : ¬ (9223372036854775807 < 14 + n.size + (11 + (Lib.itoa K).length)) := by omega
 clear lz
 have HB0 := Lib.hid (Below.refl w.heap.size w)
 have HM0 := Lib.hid (Below.refl w.heap.size w)
 have HSZ := Lib.hid hs
 clear hs
 go_enter Tryz.func15,Tryz.ntmps15
 go_wp2_with fail
 obtain ⟨W0,hW0⟩ : ∃ W0,w.alloc (.cells #[.int .i64 1,.string n,.int .i64 K,.int .i64 0,.bool true] 24) = W0 := ⟨_,rfl⟩
 have hb0 : Below w.heap.size w W0 := by rw [← hW0]; exact (Below.refl _ _).alloc (Nat.le_refl _) _
 have HB1 := Lib.hid hb0
 have hk0 : Blk W0 w.heap.size 24 (cmCells (1,n,K,0,true)) := by rw [← hW0]; exact Blk.new _ _ _
 have HK := Lib.hid hk0
 rw [hW0]
 clear hW0 hk0 hb0 HM0
 obtain ⟨y0,y1,y2,y3,y4⟩ := cm_results (1,n,K,0,true) HK.out
 simp only at y0 y1 y2 y3 y4
 go_wp2_with fail
 refine (docnameB n true h1 HSZ.out _).mono ?_
 rintro e w2 ⟨rfl,hb2⟩
 have HB2 := Lib.hid (HB1.out.trans (hb2.mono HB1.out.size))
 have HK := Lib.hid (HK.out.below hb2 (Blk.lt HK.out))
 clear hb2 y0 y1 y2 y3 y4
 obtain ⟨y0,y1,y2,y3,y4⟩ := cm_results (1,n,K,0,true) HK.out
 simp only at y0 y1 y2 y3 y4
 go_wp2_with fail
 refine (rinnB K true h2 _).mono ?_
 rintro e w3 ⟨rfl,hb3⟩
 have HB3 := Lib.hid (HB2.out.trans (hb3.mono HB2.out.size))
 have HK := Lib.hid (HK.out.below hb3 (Blk.lt HK.out))
 clear hb3 y0 y1 y2 y3 y4
 obtain ⟨y0,y1,y2,y3,y4⟩ := cm_results (1,n,K,0,true) HK.out
 simp only at y0 y1 y2 y3 y4
 go_wp2_with fail
 refine (rinnB 0 true h3 _).mono ?_
 rintro e w4 ⟨rfl,hb4⟩
 have HB4 := Lib.hid (HB3.out.trans (hb4.mono HB3.out.size))
 have HK := Lib.hid (HK.out.below hb4 (Blk.lt HK.out))
 clear hb4 y0 y1 y2 y3 y4
 obtain ⟨y0,y1,y2,y3,y4⟩ := cm_results (1,n,K,0,true) HK.out
 simp only at y0 y1 y2 y3 y4
 go_wp2_with fail
 refine (rdigB K h2 _).mono ?_
 rintro e w5 ⟨rfl,hb5⟩
 have HB5 := Lib.hid (HB4.out.trans (hb5.mono HB4.out.size))
 have HK := Lib.hid (HK.out.below hb5 (Blk.lt HK.out))
 clear hb5 y0 y1 y2 y3 y4
 obtain ⟨y0,y1,y2,y3,y4⟩ := cm_results (1,n,K,0,true) HK.out
 simp only at y0 y1 y2 y3 y4
 go_wp2
 go_ret
 exact ⟨rfl,HB5.out⟩
set_option maxHeartbeats 2000000 in
theorem dg_all (n : ByteArray) (w : World) (hs : n.size ≤ 1000000) (h1 : nameB n = true) (h2 : inN 0 = true) (h3 : inN 0 = true) :
  Calls Tryz.prog 15 #[.agg #[.int .i64 1,.string n,.int .i64 0,.int .i64 0,.bool false]] w fun e w' => e = .returned (.string (⟨#[115,101,108,101,99,116,32,42,32,102,114,111,109,32]⟩ ++ n ++ (⟨#[]⟩ : ByteArray))) ∧ Below w.heap.size w w' := by
 have lz : (Lib.itoa 0).length ≤ 6 := by obtain ⟨_,_,_,_,_,_,lz⟩ := itoa_in 0 h2; exact lz
 have q0 : ¬ (9223372036854775807 < 11 + (Lib.itoa 0).length) := by omega
 have q1 : ¬ (9223372036854775807 < 14 + n.size) := by omega
 have q2 : ¬ (9223372036854775807 < 14 + n.size + (11 + (Lib.itoa 0).length)) := by omega
 clear lz
 have HB0 := Lib.hid (Below.refl w.heap.size w)
 have HM0 := Lib.hid (Below.refl w.heap.size w)
 have HSZ := Lib.hid hs
 clear hs
 go_enter Tryz.func15,Tryz.ntmps15
 go_wp2_with fail
 obtain ⟨W0,hW0⟩ : ∃ W0,w.alloc (.cells #[.int .i64 1,.string n,.int .i64 0,.int .i64 0,.bool false] 24) = W0 := ⟨_,rfl⟩
 have hb0 : Below w.heap.size w W0 := by rw [← hW0]; exact (Below.refl _ _).alloc (Nat.le_refl _) _
 have HB1 := Lib.hid hb0
 have hk0 : Blk W0 w.heap.size 24 (cmCells (1,n,0,0,false)) := by rw [← hW0]; exact Blk.new _ _ _
 have HK := Lib.hid hk0
 rw [hW0]
 clear hW0 hk0 hb0 HM0
 obtain ⟨y0,y1,y2,y3,y4⟩ := cm_results (1,n,0,0,false) HK.out
 simp only at y0 y1 y2 y3 y4
 go_wp2_with fail
 refine (docnameB n true h1 HSZ.out _).mono ?_
 rintro e w2 ⟨rfl,hb2⟩
 have HB2 := Lib.hid (HB1.out.trans (hb2.mono HB1.out.size))
 have HK := Lib.hid (HK.out.below hb2 (Blk.lt HK.out))
 clear hb2 y0 y1 y2 y3 y4
 obtain ⟨y0,y1,y2,y3,y4⟩ := cm_results (1,n,0,0,false) HK.out
 simp only at y0 y1 y2 y3 y4
 go_wp2_with fail
 refine (rinnB 0 true h2 _).mono ?_
 rintro e w3 ⟨rfl,hb3⟩
 have HB3 := Lib.hid (HB2.out.trans (hb3.mono HB2.out.size))
 have HK := Lib.hid (HK.out.below hb3 (Blk.lt HK.out))
 clear hb3 y0 y1 y2 y3 y4
 obtain ⟨y0,y1,y2,y3,y4⟩ := cm_results (1,n,0,0,false) HK.out
 simp only at y0 y1 y2 y3 y4
 go_wp2_with fail
 refine (rinnB 0 true h3 _).mono ?_
 rintro e w4 ⟨rfl,hb4⟩
 have HB4 := Lib.hid (HB3.out.trans (hb4.mono HB3.out.size))
 have HK := Lib.hid (HK.out.below hb4 (Blk.lt HK.out))
 clear hb4 y0 y1 y2 y3 y4
 obtain ⟨y0,y1,y2,y3,y4⟩ := cm_results (1,n,0,0,false) HK.out
 simp only at y0 y1 y2 y3 y4
 go_wp2_with fail
 refine (rdigB 0 h2 _).mono ?_
 rintro e w5 ⟨rfl,hb5⟩
 have HB5 := Lib.hid (HB4.out.trans (hb5.mono HB4.out.size))
 have HK := Lib.hid (HK.out.below hb5 (Blk.lt HK.out))
 clear hb5 y0 y1 y2 y3 y4
 obtain ⟨y0,y1,y2,y3,y4⟩ := cm_results (1,n,0,0,false) HK.out
 simp only at y0 y1 y2 y3 y4
 go_wp2
 go_ret
 exact ⟨rfl,HB5.out⟩
set_option maxHeartbeats 2000000 in
theorem dg_put0 (n : ByteArray) (V : Int) (w : World) (hs : n.size ≤ 1000000) (h1 : nameB n = true) (h2 : inN 0 = true) (h3 : inN V = true) :
  Calls Tryz.prog 15 #[.agg #[.int .i64 2,.string n,.int .i64 0,.int .i64 V,.bool false]] w fun e w' => e = .returned (.string ⟨#[]⟩) ∧ Below w.heap.size w w' := by
 have lz : (Lib.itoa 0).length ≤ 6 := by obtain ⟨_,_,_,_,_,_,lz⟩ := itoa_in 0 h2; exact lz
 have q0 : ¬ (9223372036854775807 < 11 + (Lib.itoa 0).length) := by omega
 have q1 : ¬ (9223372036854775807 < 12 + n.size) := by omega
 have q2 : ¬ (9223372036854775807 < 12 + n.size + (11 + (Lib.itoa 0).length)) := by omega
 clear lz
 have HB0 := Lib.hid (Below.refl w.heap.size w)
 have HM0 := Lib.hid (Below.refl w.heap.size w)
 have HSZ := Lib.hid hs
 clear hs
 go_enter Tryz.func15,Tryz.ntmps15
 go_wp2_with fail
 obtain ⟨W0,hW0⟩ : ∃ W0,w.alloc (.cells #[.int .i64 2,.string n,.int .i64 0,.int .i64 V,.bool false] 24) = W0 := ⟨_,rfl⟩
 have hb0 : Below w.heap.size w W0 := by rw [← hW0]; exact (Below.refl _ _).alloc (Nat.le_refl _) _
 have HB1 := Lib.hid hb0
 have hk0 : Blk W0 w.heap.size 24 (cmCells (2,n,0,V,false)) := by rw [← hW0]; exact Blk.new _ _ _
 have HK := Lib.hid hk0
 rw [hW0]
 clear hW0 hk0 hb0 HM0
 obtain ⟨y0,y1,y2,y3,y4⟩ := cm_results (2,n,0,V,false) HK.out
 simp only at y0 y1 y2 y3 y4
 go_wp2_with fail
 refine (docnameB n true h1 HSZ.out _).mono ?_
 rintro e w2 ⟨rfl,hb2⟩
 have HB2 := Lib.hid (HB1.out.trans (hb2.mono HB1.out.size))
 have HK := Lib.hid (HK.out.below hb2 (Blk.lt HK.out))
 clear hb2 y0 y1 y2 y3 y4
 obtain ⟨y0,y1,y2,y3,y4⟩ := cm_results (2,n,0,V,false) HK.out
 simp only at y0 y1 y2 y3 y4
 go_wp2_with fail
 refine (rinnB 0 true h2 _).mono ?_
 rintro e w3 ⟨rfl,hb3⟩
 have HB3 := Lib.hid (HB2.out.trans (hb3.mono HB2.out.size))
 have HK := Lib.hid (HK.out.below hb3 (Blk.lt HK.out))
 clear hb3 y0 y1 y2 y3 y4
 obtain ⟨y0,y1,y2,y3,y4⟩ := cm_results (2,n,0,V,false) HK.out
 simp only at y0 y1 y2 y3 y4
 go_wp2_with fail
 refine (rinnB V true h3 _).mono ?_
 rintro e w4 ⟨rfl,hb4⟩
 have HB4 := Lib.hid (HB3.out.trans (hb4.mono HB3.out.size))
 have HK := Lib.hid (HK.out.below hb4 (Blk.lt HK.out))
 clear hb4 y0 y1 y2 y3 y4
 obtain ⟨y0,y1,y2,y3,y4⟩ := cm_results (2,n,0,V,false) HK.out
 simp only at y0 y1 y2 y3 y4
 go_wp2_with fail
 refine (rdigB 0 h2 _).mono ?_
 rintro e w5 ⟨rfl,hb5⟩
 have HB5 := Lib.hid (HB4.out.trans (hb5.mono HB4.out.size))
 have HK := Lib.hid (HK.out.below hb5 (Blk.lt HK.out))
 clear hb5 y0 y1 y2 y3 y4
 obtain ⟨y0,y1,y2,y3,y4⟩ := cm_results (2,n,0,V,false) HK.out
 simp only at y0 y1 y2 y3 y4
 go_wp2
 go_ret
 exact ⟨rfl,HB5.out⟩
set_option maxHeartbeats 2000000 in
theorem dg_add (n : ByteArray) (K : Int) (w : World) (hs : n.size ≤ 1000000) (h1 : nameB n = true) (h2 : inN K = true) (h3 : inN 0 = true) :
  Calls Tryz.prog 15 #[.agg #[.int .i64 3,.string n,.int .i64 K,.int .i64 0,.bool true]] w fun e w' => e = .returned (.string (⟨#[117,112,100,97,116,101,32]⟩ ++ n ++ ⟨#[32,115,101,116,32,118,32,61,32,118,32,43,32,49]⟩ ++ (⟨#[32,119,104,101,114,101,32,107,32,61,32]⟩ ++ bb (Lib.itoa K)))) ∧ Below w.heap.size w w' := by
 have lz : (Lib.itoa K).length ≤ 6 := by obtain ⟨_,_,_,_,_,_,lz⟩ := itoa_in K h2; exact lz
 have q0 : ¬ (9223372036854775807 < 11 + (Lib.itoa K).length) := by omega
 have q1 : ¬ (9223372036854775807 < 7 + n.size) := by omega
 have q2 : ¬ (9223372036854775807 < 7 + n.size + (11 + (Lib.itoa K).length)) := by omega
 have q3 : ¬ (9223372036854775807 < 7 + n.size + 14) := by omega
 have q4 : ¬ (9223372036854775807 < 7 + n.size + 14 + (11 + (Lib.itoa K).length)) := by omega
 clear lz
 have HB0 := Lib.hid (Below.refl w.heap.size w)
 have HM0 := Lib.hid (Below.refl w.heap.size w)
 have HSZ := Lib.hid hs
 clear hs
 go_enter Tryz.func15,Tryz.ntmps15
 go_wp2_with fail
 obtain ⟨W0,hW0⟩ : ∃ W0,w.alloc (.cells #[.int .i64 3,.string n,.int .i64 K,.int .i64 0,.bool true] 24) = W0 := ⟨_,rfl⟩
 have hb0 : Below w.heap.size w W0 := by rw [← hW0]; exact (Below.refl _ _).alloc (Nat.le_refl _) _
 have HB1 := Lib.hid hb0
 have hk0 : Blk W0 w.heap.size 24 (cmCells (3,n,K,0,true)) := by rw [← hW0]; exact Blk.new _ _ _
 have HK := Lib.hid hk0
 rw [hW0]
 clear hW0 hk0 hb0 HM0
 obtain ⟨y0,y1,y2,y3,y4⟩ := cm_results (3,n,K,0,true) HK.out
 simp only at y0 y1 y2 y3 y4
 go_wp2_with fail
 refine (docnameB n true h1 HSZ.out _).mono ?_
 rintro e w2 ⟨rfl,hb2⟩
 have HB2 := Lib.hid (HB1.out.trans (hb2.mono HB1.out.size))
 have HK := Lib.hid (HK.out.below hb2 (Blk.lt HK.out))
 clear hb2 y0 y1 y2 y3 y4
 obtain ⟨y0,y1,y2,y3,y4⟩ := cm_results (3,n,K,0,true) HK.out
 simp only at y0 y1 y2 y3 y4
 go_wp2_with fail
 refine (rinnB K true h2 _).mono ?_
 rintro e w3 ⟨rfl,hb3⟩
 have HB3 := Lib.hid (HB2.out.trans (hb3.mono HB2.out.size))
 have HK := Lib.hid (HK.out.below hb3 (Blk.lt HK.out))
 clear hb3 y0 y1 y2 y3 y4
 obtain ⟨y0,y1,y2,y3,y4⟩ := cm_results (3,n,K,0,true) HK.out
 simp only at y0 y1 y2 y3 y4
 go_wp2_with fail
 refine (rinnB 0 true h3 _).mono ?_
 rintro e w4 ⟨rfl,hb4⟩
 have HB4 := Lib.hid (HB3.out.trans (hb4.mono HB3.out.size))
 have HK := Lib.hid (HK.out.below hb4 (Blk.lt HK.out))
 clear hb4 y0 y1 y2 y3 y4
 obtain ⟨y0,y1,y2,y3,y4⟩ := cm_results (3,n,K,0,true) HK.out
 simp only at y0 y1 y2 y3 y4
 go_wp2_with fail
 refine (rdigB K h2 _).mono ?_
 rintro e w5 ⟨rfl,hb5⟩
 have HB5 := Lib.hid (HB4.out.trans (hb5.mono HB4.out.size))
 have HK := Lib.hid (HK.out.below hb5 (Blk.lt HK.out))
 clear hb5 y0 y1 y2 y3 y4
 obtain ⟨y0,y1,y2,y3,y4⟩ := cm_results (3,n,K,0,true) HK.out
 simp only at y0 y1 y2 y3 y4
 go_wp2
 go_ret
 exact ⟨rfl,HB5.out⟩
set_option maxHeartbeats 2000000 in
theorem dg_add0 (n : ByteArray) (w : World) (hs : n.size ≤ 1000000) (h1 : nameB n = true) (h2 : inN 0 = true) (h3 : inN 0 = true) :
  Calls Tryz.prog 15 #[.agg #[.int .i64 3,.string n,.int .i64 0,.int .i64 0,.bool false]] w fun e w' => e = .returned (.string ⟨#[]⟩) ∧ Below w.heap.size w w' := by
 have lz : (Lib.itoa 0).length ≤ 6 := by obtain ⟨_,_,_,_,_,_,lz⟩ := itoa_in 0 h2; exact lz
 have q0 : ¬ (9223372036854775807 < 11 + (Lib.itoa 0).length) := by omega
 have q1 : ¬ (9223372036854775807 < 7 + n.size) := by omega
 have q2 : ¬ (9223372036854775807 < 7 + n.size + (11 + (Lib.itoa 0).length)) := by omega
 have q3 : ¬ (9223372036854775807 < 7 + n.size + 14) := by omega
 have q4 : ¬ (9223372036854775807 < 7 + n.size + 14 + (11 + (Lib.itoa 0).length)) := by omega
 clear lz
 have HB0 := Lib.hid (Below.refl w.heap.size w)
 have HM0 := Lib.hid (Below.refl w.heap.size w)
 have HSZ := Lib.hid hs
 clear hs
 go_enter Tryz.func15,Tryz.ntmps15
 go_wp2_with fail
 obtain ⟨W0,hW0⟩ : ∃ W0,w.alloc (.cells #[.int .i64 3,.string n,.int .i64 0,.int .i64 0,.bool false] 24) = W0 := ⟨_,rfl⟩
 have hb0 : Below w.heap.size w W0 := by rw [← hW0]; exact (Below.refl _ _).alloc (Nat.le_refl _) _
 have HB1 := Lib.hid hb0
 have hk0 : Blk W0 w.heap.size 24 (cmCells (3,n,0,0,false)) := by rw [← hW0]; exact Blk.new _ _ _
 have HK := Lib.hid hk0
 rw [hW0]
 clear hW0 hk0 hb0 HM0
 obtain ⟨y0,y1,y2,y3,y4⟩ := cm_results (3,n,0,0,false) HK.out
 simp only at y0 y1 y2 y3 y4
 go_wp2_with fail
 refine (docnameB n true h1 HSZ.out _).mono ?_
 rintro e w2 ⟨rfl,hb2⟩
 have HB2 := Lib.hid (HB1.out.trans (hb2.mono HB1.out.size))
 have HK := Lib.hid (HK.out.below hb2 (Blk.lt HK.out))
 clear hb2 y0 y1 y2 y3 y4
 obtain ⟨y0,y1,y2,y3,y4⟩ := cm_results (3,n,0,0,false) HK.out
 simp only at y0 y1 y2 y3 y4
 go_wp2_with fail
 refine (rinnB 0 true h2 _).mono ?_
 rintro e w3 ⟨rfl,hb3⟩
 have HB3 := Lib.hid (HB2.out.trans (hb3.mono HB2.out.size))
 have HK := Lib.hid (HK.out.below hb3 (Blk.lt HK.out))
 clear hb3 y0 y1 y2 y3 y4
 obtain ⟨y0,y1,y2,y3,y4⟩ := cm_results (3,n,0,0,false) HK.out
 simp only at y0 y1 y2 y3 y4
 go_wp2_with fail
 refine (rinnB 0 true h3 _).mono ?_
 rintro e w4 ⟨rfl,hb4⟩
 have HB4 := Lib.hid (HB3.out.trans (hb4.mono HB3.out.size))
 have HK := Lib.hid (HK.out.below hb4 (Blk.lt HK.out))
 clear hb4 y0 y1 y2 y3 y4
 obtain ⟨y0,y1,y2,y3,y4⟩ := cm_results (3,n,0,0,false) HK.out
 simp only at y0 y1 y2 y3 y4
 go_wp2_with fail
 refine (rdigB 0 h2 _).mono ?_
 rintro e w5 ⟨rfl,hb5⟩
 have HB5 := Lib.hid (HB4.out.trans (hb5.mono HB4.out.size))
 have HK := Lib.hid (HK.out.below hb5 (Blk.lt HK.out))
 clear hb5 y0 y1 y2 y3 y4
 obtain ⟨y0,y1,y2,y3,y4⟩ := cm_results (3,n,0,0,false) HK.out
 simp only at y0 y1 y2 y3 y4
 go_wp2
 go_ret
 exact ⟨rfl,HB5.out⟩
set_option maxHeartbeats 2000000 in
theorem dg_del (n : ByteArray) (K : Int) (w : World) (hs : n.size ≤ 1000000) (h1 : nameB n = true) (h2 : inN K = true) (h3 : inN 0 = true) :
  Calls Tryz.prog 15 #[.agg #[.int .i64 4,.string n,.int .i64 K,.int .i64 0,.bool true]] w fun e w' => e = .returned (.string (⟨#[100,101,108,101,116,101,32,102,114,111,109,32]⟩ ++ n ++ (⟨#[32,119,104,101,114,101,32,107,32,61,32]⟩ ++ bb (Lib.itoa K)))) ∧ Below w.heap.size w w' := by
 have lz : (Lib.itoa K).length ≤ 6 := by obtain ⟨_,_,_,_,_,_,lz⟩ := itoa_in K h2; exact lz
 have q0 : ¬ (9223372036854775807 < 11 + (Lib.itoa K).length) := by omega
 have q1 : ¬ (9223372036854775807 < 12 + n.size) := by omega
 have q2 : ¬ (9223372036854775807 < 12 + n.size + (11 + (Lib.itoa K).length)) := by omega
 clear lz
 have HB0 := Lib.hid (Below.refl w.heap.size w)
 have HM0 := Lib.hid (Below.refl w.heap.size w)
 have HSZ := Lib.hid hs
 clear hs
 go_enter Tryz.func15,Tryz.ntmps15
 go_wp2_with fail
 obtain ⟨W0,hW0⟩ : ∃ W0,w.alloc (.cells #[.int .i64 4,.string n,.int .i64 K,.int .i64 0,.bool true] 24) = W0 := ⟨_,rfl⟩
 have hb0 : Below w.heap.size w W0 := by rw [← hW0]; exact (Below.refl _ _).alloc (Nat.le_refl _) _
 have HB1 := Lib.hid hb0
 have hk0 : Blk W0 w.heap.size 24 (cmCells (4,n,K,0,true)) := by rw [← hW0]; exact Blk.new _ _ _
 have HK := Lib.hid hk0
 rw [hW0]
 clear hW0 hk0 hb0 HM0
 obtain ⟨y0,y1,y2,y3,y4⟩ := cm_results (4,n,K,0,true) HK.out
 simp only at y0 y1 y2 y3 y4
 go_wp2_with fail
 refine (docnameB n true h1 HSZ.out _).mono ?_
 rintro e w2 ⟨rfl,hb2⟩
 have HB2 := Lib.hid (HB1.out.trans (hb2.mono HB1.out.size))
 have HK := Lib.hid (HK.out.below hb2 (Blk.lt HK.out))
 clear hb2 y0 y1 y2 y3 y4
 obtain ⟨y0,y1,y2,y3,y4⟩ := cm_results (4,n,K,0,true) HK.out
 simp only at y0 y1 y2 y3 y4
 go_wp2_with fail
 refine (rinnB K true h2 _).mono ?_
 rintro e w3 ⟨rfl,hb3⟩
 have HB3 := Lib.hid (HB2.out.trans (hb3.mono HB2.out.size))
 have HK := Lib.hid (HK.out.below hb3 (Blk.lt HK.out))
 clear hb3 y0 y1 y2 y3 y4
 obtain ⟨y0,y1,y2,y3,y4⟩ := cm_results (4,n,K,0,true) HK.out
 simp only at y0 y1 y2 y3 y4
 go_wp2_with fail
 refine (rinnB 0 true h3 _).mono ?_
 rintro e w4 ⟨rfl,hb4⟩
 have HB4 := Lib.hid (HB3.out.trans (hb4.mono HB3.out.size))
 have HK := Lib.hid (HK.out.below hb4 (Blk.lt HK.out))
 clear hb4 y0 y1 y2 y3 y4
 obtain ⟨y0,y1,y2,y3,y4⟩ := cm_results (4,n,K,0,true) HK.out
 simp only at y0 y1 y2 y3 y4
 go_wp2_with fail
 refine (rdigB K h2 _).mono ?_
 rintro e w5 ⟨rfl,hb5⟩
 have HB5 := Lib.hid (HB4.out.trans (hb5.mono HB4.out.size))
 have HK := Lib.hid (HK.out.below hb5 (Blk.lt HK.out))
 clear hb5 y0 y1 y2 y3 y4
 obtain ⟨y0,y1,y2,y3,y4⟩ := cm_results (4,n,K,0,true) HK.out
 simp only at y0 y1 y2 y3 y4
 go_wp2
 go_ret
 exact ⟨rfl,HB5.out⟩
set_option maxHeartbeats 2000000 in
theorem dg_dela (n : ByteArray) (w : World) (hs : n.size ≤ 1000000) (h1 : nameB n = true) (h2 : inN 0 = true) (h3 : inN 0 = true) :
  Calls Tryz.prog 15 #[.agg #[.int .i64 4,.string n,.int .i64 0,.int .i64 0,.bool false]] w fun e w' => e = .returned (.string (⟨#[100,101,108,101,116,101,32,102,114,111,109,32]⟩ ++ n ++ (⟨#[]⟩ : ByteArray))) ∧ Below w.heap.size w w' := by
 have lz : (Lib.itoa 0).length ≤ 6 := by obtain ⟨_,_,_,_,_,_,lz⟩ := itoa_in 0 h2; exact lz
 have q0 : ¬ (9223372036854775807 < 11 + (Lib.itoa 0).length) := by omega
 have q1 : ¬ (9223372036854775807 < 12 + n.size) := by omega
 have q2 : ¬ (9223372036854775807 < 12 + n.size + (11 + (Lib.itoa 0).length)) := by omega
 clear lz
 have HB0 := Lib.hid (Below.refl w.heap.size w)
 have HM0 := Lib.hid (Below.refl w.heap.size w)
 have HSZ := Lib.hid hs
 clear hs
 go_enter Tryz.func15,Tryz.ntmps15
 go_wp2_with fail
 obtain ⟨W0,hW0⟩ : ∃ W0,w.alloc (.cells #[.int .i64 4,.string n,.int .i64 0,.int .i64 0,.bool false] 24) = W0 := ⟨_,rfl⟩
 have hb0 : Below w.heap.size w W0 := by rw [← hW0]; exact (Below.refl _ _).alloc (Nat.le_refl _) _
 have HB1 := Lib.hid hb0
 have hk0 : Blk W0 w.heap.size 24 (cmCells (4,n,0,0,false)) := by rw [← hW0]; exact Blk.new _ _ _
 have HK := Lib.hid hk0
 rw [hW0]
 clear hW0 hk0 hb0 HM0
 obtain ⟨y0,y1,y2,y3,y4⟩ := cm_results (4,n,0,0,false) HK.out
 simp only at y0 y1 y2 y3 y4
 go_wp2_with fail
 refine (docnameB n true h1 HSZ.out _).mono ?_
 rintro e w2 ⟨rfl,hb2⟩
 have HB2 := Lib.hid (HB1.out.trans (hb2.mono HB1.out.size))
 have HK := Lib.hid (HK.out.below hb2 (Blk.lt HK.out))
 clear hb2 y0 y1 y2 y3 y4
 obtain ⟨y0,y1,y2,y3,y4⟩ := cm_results (4,n,0,0,false) HK.out
 simp only at y0 y1 y2 y3 y4
 go_wp2_with fail
 refine (rinnB 0 true h2 _).mono ?_
 rintro e w3 ⟨rfl,hb3⟩
 have HB3 := Lib.hid (HB2.out.trans (hb3.mono HB2.out.size))
 have HK := Lib.hid (HK.out.below hb3 (Blk.lt HK.out))
 clear hb3 y0 y1 y2 y3 y4
 obtain ⟨y0,y1,y2,y3,y4⟩ := cm_results (4,n,0,0,false) HK.out
 simp only at y0 y1 y2 y3 y4
 go_wp2_with fail
 refine (rinnB 0 true h3 _).mono ?_
 rintro e w4 ⟨rfl,hb4⟩
 have HB4 := Lib.hid (HB3.out.trans (hb4.mono HB3.out.size))
 have HK := Lib.hid (HK.out.below hb4 (Blk.lt HK.out))
 clear hb4 y0 y1 y2 y3 y4
 obtain ⟨y0,y1,y2,y3,y4⟩ := cm_results (4,n,0,0,false) HK.out
 simp only at y0 y1 y2 y3 y4
 go_wp2_with fail
 refine (rdigB 0 h2 _).mono ?_
 rintro e w5 ⟨rfl,hb5⟩
 have HB5 := Lib.hid (HB4.out.trans (hb5.mono HB4.out.size))
 have HK := Lib.hid (HK.out.below hb5 (Blk.lt HK.out))
 clear hb5 y0 y1 y2 y3 y4
 obtain ⟨y0,y1,y2,y3,y4⟩ := cm_results (4,n,0,0,false) HK.out
 simp only at y0 y1 y2 y3 y4
 go_wp2
 go_ret
 exact ⟨rfl,HB5.out⟩
set_option maxHeartbeats 2000000 in
theorem dg_new (n : ByteArray) (w : World) (hs : n.size ≤ 1000000) (h1 : nameB n = true) (h2 : inN 0 = true) (h3 : inN 0 = true) :
  Calls Tryz.prog 15 #[.agg #[.int .i64 5,.string n,.int .i64 0,.int .i64 0,.bool false]] w fun e w' => e = .returned (.string (⟨#[99,114,101,97,116,101,32,116,97,98,108,101,32]⟩ ++ n)) ∧ Below w.heap.size w w' := by
 have lz : (Lib.itoa 0).length ≤ 6 := by obtain ⟨_,_,_,_,_,_,lz⟩ := itoa_in 0 h2; exact lz
 have q0 : ¬ (9223372036854775807 < 11 + (Lib.itoa 0).length) := by omega
 have q1 : ¬ (9223372036854775807 < 13 + n.size) := by omega
 have q2 : ¬ (9223372036854775807 < 13 + n.size + (11 + (Lib.itoa 0).length)) := by omega
 clear lz
 have HB0 := Lib.hid (Below.refl w.heap.size w)
 have HM0 := Lib.hid (Below.refl w.heap.size w)
 have HSZ := Lib.hid hs
 clear hs
 go_enter Tryz.func15,Tryz.ntmps15
 go_wp2_with fail
 obtain ⟨W0,hW0⟩ : ∃ W0,w.alloc (.cells #[.int .i64 5,.string n,.int .i64 0,.int .i64 0,.bool false] 24) = W0 := ⟨_,rfl⟩
 have hb0 : Below w.heap.size w W0 := by rw [← hW0]; exact (Below.refl _ _).alloc (Nat.le_refl _) _
 have HB1 := Lib.hid hb0
 have hk0 : Blk W0 w.heap.size 24 (cmCells (5,n,0,0,false)) := by rw [← hW0]; exact Blk.new _ _ _
 have HK := Lib.hid hk0
 rw [hW0]
 clear hW0 hk0 hb0 HM0
 obtain ⟨y0,y1,y2,y3,y4⟩ := cm_results (5,n,0,0,false) HK.out
 simp only at y0 y1 y2 y3 y4
 go_wp2_with fail
 refine (docnameB n true h1 HSZ.out _).mono ?_
 rintro e w2 ⟨rfl,hb2⟩
 have HB2 := Lib.hid (HB1.out.trans (hb2.mono HB1.out.size))
 have HK := Lib.hid (HK.out.below hb2 (Blk.lt HK.out))
 clear hb2 y0 y1 y2 y3 y4
 obtain ⟨y0,y1,y2,y3,y4⟩ := cm_results (5,n,0,0,false) HK.out
 simp only at y0 y1 y2 y3 y4
 go_wp2_with fail
 refine (rinnB 0 true h2 _).mono ?_
 rintro e w3 ⟨rfl,hb3⟩
 have HB3 := Lib.hid (HB2.out.trans (hb3.mono HB2.out.size))
 have HK := Lib.hid (HK.out.below hb3 (Blk.lt HK.out))
 clear hb3 y0 y1 y2 y3 y4
 obtain ⟨y0,y1,y2,y3,y4⟩ := cm_results (5,n,0,0,false) HK.out
 simp only at y0 y1 y2 y3 y4
 go_wp2_with fail
 refine (rinnB 0 true h3 _).mono ?_
 rintro e w4 ⟨rfl,hb4⟩
 have HB4 := Lib.hid (HB3.out.trans (hb4.mono HB3.out.size))
 have HK := Lib.hid (HK.out.below hb4 (Blk.lt HK.out))
 clear hb4 y0 y1 y2 y3 y4
 obtain ⟨y0,y1,y2,y3,y4⟩ := cm_results (5,n,0,0,false) HK.out
 simp only at y0 y1 y2 y3 y4
 go_wp2_with fail
 refine (rdigB 0 h2 _).mono ?_
 rintro e w5 ⟨rfl,hb5⟩
 have HB5 := Lib.hid (HB4.out.trans (hb5.mono HB4.out.size))
 have HK := Lib.hid (HK.out.below hb5 (Blk.lt HK.out))
 clear hb5 y0 y1 y2 y3 y4
 obtain ⟨y0,y1,y2,y3,y4⟩ := cm_results (5,n,0,0,false) HK.out
 simp only at y0 y1 y2 y3 y4
 go_wp2
 go_ret
 exact ⟨rfl,HB5.out⟩
set_option maxHeartbeats 2000000 in
theorem dg_newk (n : ByteArray) (K : Int) (w : World) (hs : n.size ≤ 1000000) (h1 : nameB n = true) (h2 : inN K = true) (h3 : inN 0 = true) :
  Calls Tryz.prog 15 #[.agg #[.int .i64 5,.string n,.int .i64 K,.int .i64 0,.bool true]] w fun e w' => e = .returned (.string ⟨#[]⟩) ∧ Below w.heap.size w w' := by
 have lz : (Lib.itoa K).length ≤ 6 := by obtain ⟨_,_,_,_,_,_,lz⟩ := itoa_in K h2; exact lz
 have q0 : ¬ (9223372036854775807 < 11 + (Lib.itoa K).length) := by omega
 have q1 : ¬ (9223372036854775807 < 13 + n.size) := by omega
 have q2 : ¬ (9223372036854775807 < 13 + n.size + (11 + (Lib.itoa K).length)) := by omega
 clear lz
 have HB0 := Lib.hid (Below.refl w.heap.size w)
 have HM0 := Lib.hid (Below.refl w.heap.size w)
 have HSZ := Lib.hid hs
 clear hs
 go_enter Tryz.func15,Tryz.ntmps15
 go_wp2_with fail
 obtain ⟨W0,hW0⟩ : ∃ W0,w.alloc (.cells #[.int .i64 5,.string n,.int .i64 K,.int .i64 0,.bool true] 24) = W0 := ⟨_,rfl⟩
 have hb0 : Below w.heap.size w W0 := by rw [← hW0]; exact (Below.refl _ _).alloc (Nat.le_refl _) _
 have HB1 := Lib.hid hb0
 have hk0 : Blk W0 w.heap.size 24 (cmCells (5,n,K,0,true)) := by rw [← hW0]; exact Blk.new _ _ _
 have HK := Lib.hid hk0
 rw [hW0]
 clear hW0 hk0 hb0 HM0
 obtain ⟨y0,y1,y2,y3,y4⟩ := cm_results (5,n,K,0,true) HK.out
 simp only at y0 y1 y2 y3 y4
 go_wp2_with fail
 refine (docnameB n true h1 HSZ.out _).mono ?_
 rintro e w2 ⟨rfl,hb2⟩
 have HB2 := Lib.hid (HB1.out.trans (hb2.mono HB1.out.size))
 have HK := Lib.hid (HK.out.below hb2 (Blk.lt HK.out))
 clear hb2 y0 y1 y2 y3 y4
 obtain ⟨y0,y1,y2,y3,y4⟩ := cm_results (5,n,K,0,true) HK.out
 simp only at y0 y1 y2 y3 y4
 go_wp2_with fail
 refine (rinnB K true h2 _).mono ?_
 rintro e w3 ⟨rfl,hb3⟩
 have HB3 := Lib.hid (HB2.out.trans (hb3.mono HB2.out.size))
 have HK := Lib.hid (HK.out.below hb3 (Blk.lt HK.out))
 clear hb3 y0 y1 y2 y3 y4
 obtain ⟨y0,y1,y2,y3,y4⟩ := cm_results (5,n,K,0,true) HK.out
 simp only at y0 y1 y2 y3 y4
 go_wp2_with fail
 refine (rinnB 0 true h3 _).mono ?_
 rintro e w4 ⟨rfl,hb4⟩
 have HB4 := Lib.hid (HB3.out.trans (hb4.mono HB3.out.size))
 have HK := Lib.hid (HK.out.below hb4 (Blk.lt HK.out))
 clear hb4 y0 y1 y2 y3 y4
 obtain ⟨y0,y1,y2,y3,y4⟩ := cm_results (5,n,K,0,true) HK.out
 simp only at y0 y1 y2 y3 y4
 go_wp2_with fail
 refine (rdigB K h2 _).mono ?_
 rintro e w5 ⟨rfl,hb5⟩
 have HB5 := Lib.hid (HB4.out.trans (hb5.mono HB4.out.size))
 have HK := Lib.hid (HK.out.below hb5 (Blk.lt HK.out))
 clear hb5 y0 y1 y2 y3 y4
 obtain ⟨y0,y1,y2,y3,y4⟩ := cm_results (5,n,K,0,true) HK.out
 simp only at y0 y1 y2 y3 y4
 go_wp2
 go_ret
 exact ⟨rfl,HB5.out⟩
set_option maxHeartbeats 2000000 in
theorem dg_no (kd : Int) (n : ByteArray) (K : Int) (w : World) (hs : n.size ≤ 1000000) (h1 : nameB n = true) (h2 : inN K = true) (h3 : inN 0 = true) (d1 : kd ≠ 1) (d2 : kd ≠ 2) (d3 : kd ≠ 3) (d4 : kd ≠ 4) (d5 : kd ≠ 5) :
  Calls Tryz.prog 15 #[.agg #[.int .i64 kd,.string n,.int .i64 K,.int .i64 0,.bool true]] w fun e w' => e = .returned (.string ⟨#[]⟩) ∧ Below w.heap.size w w' := by
 have n1 : (kd == 1) = false := beq_eq_false_iff_ne.2 d1
 have n2 : (kd == 2) = false := beq_eq_false_iff_ne.2 d2
 have n3 : (kd == 3) = false := beq_eq_false_iff_ne.2 d3
 have n4 : (kd == 4) = false := beq_eq_false_iff_ne.2 d4
 have n5 : (kd == 5) = false := beq_eq_false_iff_ne.2 d5
 have m2 : (kd != 2) = true := by rw [bne_iff_ne]; exact d2
 have lz : (Lib.itoa K).length ≤ 6 := by obtain ⟨_,_,_,_,_,_,lz⟩ := itoa_in K h2; exact lz
 have q0 : ¬ (9223372036854775807 < 11 + (Lib.itoa K).length) := by omega
 have q1 : ¬ (9223372036854775807 < 14 + n.size) := by omega
 have q2 : ¬ (9223372036854775807 < 14 + n.size + (11 + (Lib.itoa K).length)) := by omega
 clear lz
 have HB0 := Lib.hid (Below.refl w.heap.size w)
 have HM0 := Lib.hid (Below.refl w.heap.size w)
 have HSZ := Lib.hid hs
 clear hs
 go_enter Tryz.func15,Tryz.ntmps15
 go_wp2_with fail
 obtain ⟨W0,hW0⟩ : ∃ W0,w.alloc (.cells #[.int .i64 kd,.string n,.int .i64 K,.int .i64 0,.bool true] 24) = W0 := ⟨_,rfl⟩
 have hb0 : Below w.heap.size w W0 := by rw [← hW0]; exact (Below.refl _ _).alloc (Nat.le_refl _) _
 have HB1 := Lib.hid hb0
 have hk0 : Blk W0 w.heap.size 24 (cmCells (kd,n,K,0,true)) := by rw [← hW0]; exact Blk.new _ _ _
 have HK := Lib.hid hk0
 rw [hW0]
 clear hW0 hk0 hb0 HM0
 obtain ⟨y0,y1,y2,y3,y4⟩ := cm_results (kd,n,K,0,true) HK.out
 simp only at y0 y1 y2 y3 y4
 go_wp2_with fail
 refine (docnameB n true h1 HSZ.out _).mono ?_
 rintro e w2 ⟨rfl,hb2⟩
 have HB2 := Lib.hid (HB1.out.trans (hb2.mono HB1.out.size))
 have HK := Lib.hid (HK.out.below hb2 (Blk.lt HK.out))
 clear hb2 y0 y1 y2 y3 y4
 obtain ⟨y0,y1,y2,y3,y4⟩ := cm_results (kd,n,K,0,true) HK.out
 simp only at y0 y1 y2 y3 y4
 go_wp2_with fail
 refine (rinnB K true h2 _).mono ?_
 rintro e w3 ⟨rfl,hb3⟩
 have HB3 := Lib.hid (HB2.out.trans (hb3.mono HB2.out.size))
 have HK := Lib.hid (HK.out.below hb3 (Blk.lt HK.out))
 clear hb3 y0 y1 y2 y3 y4
 obtain ⟨y0,y1,y2,y3,y4⟩ := cm_results (kd,n,K,0,true) HK.out
 simp only at y0 y1 y2 y3 y4
 go_wp2_with fail
 refine (rinnB 0 true h3 _).mono ?_
 rintro e w4 ⟨rfl,hb4⟩
 have HB4 := Lib.hid (HB3.out.trans (hb4.mono HB3.out.size))
 have HK := Lib.hid (HK.out.below hb4 (Blk.lt HK.out))
 clear hb4 y0 y1 y2 y3 y4
 obtain ⟨y0,y1,y2,y3,y4⟩ := cm_results (kd,n,K,0,true) HK.out
 simp only at y0 y1 y2 y3 y4
 go_wp2_with fail
 refine (rdigB K h2 _).mono ?_
 rintro e w5 ⟨rfl,hb5⟩
 have HB5 := Lib.hid (HB4.out.trans (hb5.mono HB4.out.size))
 have HK := Lib.hid (HK.out.below hb5 (Blk.lt HK.out))
 clear hb5 y0 y1 y2 y3 y4
 obtain ⟨y0,y1,y2,y3,y4⟩ := cm_results (kd,n,K,0,true) HK.out
 simp only at y0 y1 y2 y3 y4
 go_wp2
 go_ret
 exact ⟨rfl,HB5.out⟩
set_option maxHeartbeats 2000000 in
theorem dg_no0 (kd : Int) (n : ByteArray) (w : World) (hs : n.size ≤ 1000000) (h1 : nameB n = true) (h2 : inN 0 = true) (h3 : inN 0 = true) (d1 : kd ≠ 1) (d2 : kd ≠ 2) (d3 : kd ≠ 3) (d4 : kd ≠ 4) (d5 : kd ≠ 5) :
  Calls Tryz.prog 15 #[.agg #[.int .i64 kd,.string n,.int .i64 0,.int .i64 0,.bool false]] w fun e w' => e = .returned (.string ⟨#[]⟩) ∧ Below w.heap.size w w' := by
 have n1 : (kd == 1) = false := beq_eq_false_iff_ne.2 d1
 have n2 : (kd == 2) = false := beq_eq_false_iff_ne.2 d2
 have n3 : (kd == 3) = false := beq_eq_false_iff_ne.2 d3
 have n4 : (kd == 4) = false := beq_eq_false_iff_ne.2 d4
 have n5 : (kd == 5) = false := beq_eq_false_iff_ne.2 d5
 have m2 : (kd != 2) = true := by rw [bne_iff_ne]; exact d2
 have lz : (Lib.itoa 0).length ≤ 6 := by obtain ⟨_,_,_,_,_,_,lz⟩ := itoa_in 0 h2; exact lz
 have q0 : ¬ (9223372036854775807 < 11 + (Lib.itoa 0).length) := by omega
 have q1 : ¬ (9223372036854775807 < 14 + n.size) := by omega
 have q2 : ¬ (9223372036854775807 < 14 + n.size + (11 + (Lib.itoa 0).length)) := by omega
 clear lz
 have HB0 := Lib.hid (Below.refl w.heap.size w)
 have HM0 := Lib.hid (Below.refl w.heap.size w)
 have HSZ := Lib.hid hs
 clear hs
 go_enter Tryz.func15,Tryz.ntmps15
 go_wp2_with fail
 obtain ⟨W0,hW0⟩ : ∃ W0,w.alloc (.cells #[.int .i64 kd,.string n,.int .i64 0,.int .i64 0,.bool false] 24) = W0 := ⟨_,rfl⟩
 have hb0 : Below w.heap.size w W0 := by rw [← hW0]; exact (Below.refl _ _).alloc (Nat.le_refl _) _
 have HB1 := Lib.hid hb0
 have hk0 : Blk W0 w.heap.size 24 (cmCells (kd,n,0,0,false)) := by rw [← hW0]; exact Blk.new _ _ _
 have HK := Lib.hid hk0
 rw [hW0]
 clear hW0 hk0 hb0 HM0
 obtain ⟨y0,y1,y2,y3,y4⟩ := cm_results (kd,n,0,0,false) HK.out
 simp only at y0 y1 y2 y3 y4
 go_wp2_with fail
 refine (docnameB n true h1 HSZ.out _).mono ?_
 rintro e w2 ⟨rfl,hb2⟩
 have HB2 := Lib.hid (HB1.out.trans (hb2.mono HB1.out.size))
 have HK := Lib.hid (HK.out.below hb2 (Blk.lt HK.out))
 clear hb2 y0 y1 y2 y3 y4
 obtain ⟨y0,y1,y2,y3,y4⟩ := cm_results (kd,n,0,0,false) HK.out
 simp only at y0 y1 y2 y3 y4
 go_wp2_with fail
 refine (rinnB 0 true h2 _).mono ?_
 rintro e w3 ⟨rfl,hb3⟩
 have HB3 := Lib.hid (HB2.out.trans (hb3.mono HB2.out.size))
 have HK := Lib.hid (HK.out.below hb3 (Blk.lt HK.out))
 clear hb3 y0 y1 y2 y3 y4
 obtain ⟨y0,y1,y2,y3,y4⟩ := cm_results (kd,n,0,0,false) HK.out
 simp only at y0 y1 y2 y3 y4
 go_wp2_with fail
 refine (rinnB 0 true h3 _).mono ?_
 rintro e w4 ⟨rfl,hb4⟩
 have HB4 := Lib.hid (HB3.out.trans (hb4.mono HB3.out.size))
 have HK := Lib.hid (HK.out.below hb4 (Blk.lt HK.out))
 clear hb4 y0 y1 y2 y3 y4
 obtain ⟨y0,y1,y2,y3,y4⟩ := cm_results (kd,n,0,0,false) HK.out
 simp only at y0 y1 y2 y3 y4
 go_wp2_with fail
 refine (rdigB 0 h2 _).mono ?_
 rintro e w5 ⟨rfl,hb5⟩
 have HB5 := Lib.hid (HB4.out.trans (hb5.mono HB4.out.size))
 have HK := Lib.hid (HK.out.below hb5 (Blk.lt HK.out))
 clear hb5 y0 y1 y2 y3 y4
 obtain ⟨y0,y1,y2,y3,y4⟩ := cm_results (kd,n,0,0,false) HK.out
 simp only at y0 y1 y2 y3 y4
 go_wp2
 go_ret
 exact ⟨rfl,HB5.out⟩
set_option maxHeartbeats 2000000 in
theorem dg_put (n : ByteArray) (K V : Int) (w : World) (hs : n.size ≤ 1000000) (h1 : nameB n = true) (h2 : inN K = true) (h3 : inN V = true) :
  Calls Tryz.prog 15 #[.agg #[.int .i64 2,.string n,.int .i64 K,.int .i64 V,.bool true]] w fun e w' => e = .returned (.string (⟨#[105,110,115,101,114,116,32,105,110,116,111,32]⟩ ++ n ++ ⟨#[32,118,97,108,117,101,115,32,40,32]⟩ ++ bb (Lib.itoa K) ++ ⟨#[32,44,32]⟩ ++ bb (Lib.itoa V) ++ ⟨#[32,41]⟩)) ∧ Below w.heap.size w w' := by
 have lz : (Lib.itoa K).length ≤ 6 := by obtain ⟨_,_,_,_,_,_,lz⟩ := itoa_in K h2; exact lz
 have lv : (Lib.itoa V).length ≤ 6 := by obtain ⟨_,_,_,_,_,_,lz⟩ := itoa_in V h3; exact lz
 have q0 : ¬ (9223372036854775807 < 11 + (Lib.itoa K).length) := by omega
 have q1 : ¬ (9223372036854775807 < 12 + n.size) := by omega
 have q2 : ¬ (9223372036854775807 < 12 + n.size + 10) := by omega
 have q3 : ¬ (9223372036854775807 < 12 + n.size + 10 + (Lib.itoa K).length) := by omega
 have q4 : ¬ (9223372036854775807 < 12 + n.size + 10 + (Lib.itoa K).length + 3) := by omega
 have q5 : ¬ (9223372036854775807 < 12 + n.size + 10 + (Lib.itoa K).length + 3 + (Lib.itoa V).length) := by omega
 have q6 : ¬ (9223372036854775807 < 12 + n.size + 10 + (Lib.itoa K).length + 3 + (Lib.itoa V).length + 2) := by omega
 clear lz lv
 have HB0 := Lib.hid (Below.refl w.heap.size w)
 have HM0 := Lib.hid (Below.refl w.heap.size w)
 have HSZ := Lib.hid hs
 clear hs
 go_enter Tryz.func15,Tryz.ntmps15
 go_wp2_with fail
 obtain ⟨W0,hW0⟩ : ∃ W0,w.alloc (.cells #[.int .i64 2,.string n,.int .i64 K,.int .i64 V,.bool true] 24) = W0 := ⟨_,rfl⟩
 have hb0 : Below w.heap.size w W0 := by rw [← hW0]; exact (Below.refl _ _).alloc (Nat.le_refl _) _
 have HB1 := Lib.hid hb0
 have hk0 : Blk W0 w.heap.size 24 (cmCells (2,n,K,V,true)) := by rw [← hW0]; exact Blk.new _ _ _
 have HK := Lib.hid hk0
 rw [hW0]
 clear hW0 hk0 hb0 HM0
 obtain ⟨y0,y1,y2,y3,y4⟩ := cm_results (2,n,K,V,true) HK.out
 simp only at y0 y1 y2 y3 y4
 go_wp2_with fail
 refine (docnameB n true h1 HSZ.out _).mono ?_
 rintro e w2 ⟨rfl,hb2⟩
 have HB2 := Lib.hid (HB1.out.trans (hb2.mono HB1.out.size))
 have HK := Lib.hid (HK.out.below hb2 (Blk.lt HK.out))
 clear hb2 y0 y1 y2 y3 y4
 obtain ⟨y0,y1,y2,y3,y4⟩ := cm_results (2,n,K,V,true) HK.out
 simp only at y0 y1 y2 y3 y4
 go_wp2_with fail
 refine (rinnB K true h2 _).mono ?_
 rintro e w3 ⟨rfl,hb3⟩
 have HB3 := Lib.hid (HB2.out.trans (hb3.mono HB2.out.size))
 have HK := Lib.hid (HK.out.below hb3 (Blk.lt HK.out))
 clear hb3 y0 y1 y2 y3 y4
 obtain ⟨y0,y1,y2,y3,y4⟩ := cm_results (2,n,K,V,true) HK.out
 simp only at y0 y1 y2 y3 y4
 go_wp2_with fail
 refine (rinnB V true h3 _).mono ?_
 rintro e w4 ⟨rfl,hb4⟩
 have HB4 := Lib.hid (HB3.out.trans (hb4.mono HB3.out.size))
 have HK := Lib.hid (HK.out.below hb4 (Blk.lt HK.out))
 clear hb4 y0 y1 y2 y3 y4
 obtain ⟨y0,y1,y2,y3,y4⟩ := cm_results (2,n,K,V,true) HK.out
 simp only at y0 y1 y2 y3 y4
 go_wp2_with fail
 refine (rdigB K h2 _).mono ?_
 rintro e w5 ⟨rfl,hb5⟩
 have HB5 := Lib.hid (HB4.out.trans (hb5.mono HB4.out.size))
 have HK := Lib.hid (HK.out.below hb5 (Blk.lt HK.out))
 clear hb5 y0 y1 y2 y3 y4
 obtain ⟨y0,y1,y2,y3,y4⟩ := cm_results (2,n,K,V,true) HK.out
 simp only at y0 y1 y2 y3 y4
 go_wp2_with fail
 refine wp_region_held_drew (S := (fun w' => Below w5.heap.size w5 w')) (by kernel_rfl) ?_ (fun hS => ?_)
 ·exact (Below.refl _ _).drew
 try dsimp only at hS
 refine tkY 0 ?_ rfl hS ?_ ?_;rotate_left
 ·intro wz hSz;obtain ⟨x0,x1,x2,x3,x4⟩ := cm_results (2,n,K,V,true) (HK.out.below hSz (Blk.lt HK.out));simp only at x0 x1 x2 x3 x4;go_simp;all_goals with_reducible rfl
 (try simp only [Act.put,pu]);refine tkY 1 ?_ rfl hS ?_ ?_;rotate_left
 ·intro wz hSz;obtain ⟨x0,x1,x2,x3,x4⟩ := cm_results (2,n,K,V,true) (HK.out.below hSz (Blk.lt HK.out));simp only at x0 x1 x2 x3 x4;go_simp;all_goals with_reducible rfl
 (try simp only [Act.put,pu]);refine tkY 2 ?_ rfl hS ?_ ?_;rotate_left
 ·intro wz hSz;obtain ⟨x0,x1,x2,x3,x4⟩ := cm_results (2,n,K,V,true) (HK.out.below hSz (Blk.lt HK.out));simp only at x0 x1 x2 x3 x4;go_simp;all_goals with_reducible rfl
 (try simp only [Act.put,pu]);refine tkY 3 ?_ rfl hS ?_ ?_;rotate_left
 ·intro wz hSz;obtain ⟨x0,x1,x2,x3,x4⟩ := cm_results (2,n,K,V,true) (HK.out.below hSz (Blk.lt HK.out));simp only at x0 x1 x2 x3 x4;go_simp;all_goals with_reducible rfl
 (try simp only [Act.put,pu]);refine tkY 4 ?_ rfl hS ?_ ?_;rotate_left
 ·intro wz hSz;obtain ⟨x0,x1,x2,x3,x4⟩ := cm_results (2,n,K,V,true) (HK.out.below hSz (Blk.lt HK.out));simp only at x0 x1 x2 x3 x4;go_simp;all_goals with_reducible rfl
 (try simp only [Act.put,pu]);refine tkY 5 ?_ rfl hS ?_ ?_;rotate_left
 ·intro wz hSz;obtain ⟨x0,x1,x2,x3,x4⟩ := cm_results (2,n,K,V,true) (HK.out.below hSz (Blk.lt HK.out));simp only at x0 x1 x2 x3 x4;go_simp;all_goals with_reducible rfl
 (try simp only [Act.put,pu]);refine tkY 9 ?_ rfl hS ?_ ?_;rotate_left
 ·intro wz hSz;obtain ⟨x0,x1,x2,x3,x4⟩ := cm_results (2,n,K,V,true) (HK.out.below hSz (Blk.lt HK.out));simp only at x0 x1 x2 x3 x4;go_simp;all_goals with_reducible rfl
 (try simp only [Act.put,pu]);refine tkY 10 ?_ rfl hS ?_ ?_;rotate_left
 ·intro wz hSz;obtain ⟨x0,x1,x2,x3,x4⟩ := cm_results (2,n,K,V,true) (HK.out.below hSz (Blk.lt HK.out));simp only at x0 x1 x2 x3 x4;go_simp;all_goals with_reducible rfl
 try simp only [Act.put,pu]
 refine wpAnyH_ready (rs := [6]) (by kernel_rfl) (by simp) (AllReadyH.cons rfl (fun K hK => ?_) AllReadyH.nil)
 go_simp
 refine (rdigB _ h2 _).mono ?_; rintro e w8 ⟨rfl,hbq⟩
 refine hK.out _ _ ?_ (fun hSn => ?_)
 ·exact hS.trans (hbq.mono hS.size)
 clear hK K hS hbq
 have hS := hSn
 clear hSn
 try dsimp only at hS
 (try simp only [Act.put,pu]);refine tkY 7 ?_ rfl hS ?_ ?_;rotate_left
 ·intro wz hSz;obtain ⟨x0,x1,x2,x3,x4⟩ := cm_results (2,n,K,V,true) (HK.out.below hSz (Blk.lt HK.out));simp only at x0 x1 x2 x3 x4;go_simp;all_goals with_reducible rfl
 (try simp only [Act.put,pu]);refine tkY 8 ?_ rfl hS ?_ ?_;rotate_left
 ·intro wz hSz;obtain ⟨x0,x1,x2,x3,x4⟩ := cm_results (2,n,K,V,true) (HK.out.below hSz (Blk.lt HK.out));simp only at x0 x1 x2 x3 x4;go_simp;all_goals with_reducible rfl
 try simp only [Act.put,pu]
 refine wpAnyH_ready (rs := [11]) (by kernel_rfl) (by simp) (AllReadyH.cons rfl (fun K hK => ?_) AllReadyH.nil)
 go_simp
 refine (rdigB _ h3 _).mono ?_; rintro e w9 ⟨rfl,hbq⟩
 refine hK.out _ _ ?_ (fun hSn => ?_)
 ·exact hS.trans (hbq.mono hS.size)
 clear hK K hS hbq
 have hS := hSn
 clear hSn
 try dsimp only at hS
 (try simp only [Act.put,pu]);refine tkY 12 ?_ rfl hS ?_ ?_;rotate_left
 ·intro wz hSz;obtain ⟨x0,x1,x2,x3,x4⟩ := cm_results (2,n,K,V,true) (HK.out.below hSz (Blk.lt HK.out));simp only at x0 x1 x2 x3 x4;go_simp;all_goals with_reducible rfl
 (try simp only [Act.put,pu]);refine tkY 13 ?_ rfl hS ?_ ?_;rotate_left
 ·intro wz hSz;obtain ⟨x0,x1,x2,x3,x4⟩ := cm_results (2,n,K,V,true) (HK.out.below hSz (Blk.lt HK.out));simp only at x0 x1 x2 x3 x4;go_simp;all_goals with_reducible rfl
 (try simp only [Act.put,pu]);refine tkY 14 ?_ rfl hS ?_ ?_;rotate_left
 ·intro wz hSz;obtain ⟨x0,x1,x2,x3,x4⟩ := cm_results (2,n,K,V,true) (HK.out.below hSz (Blk.lt HK.out));simp only at x0 x1 x2 x3 x4;go_simp;all_goals with_reducible rfl
 try simp only [Act.put,pu]
 refine wpAnyH_done (by kernel_rfl) ?_ _
 go_wp2
 go_ret
 exact ⟨rfl,HB5.out.trans (hS.mono HB5.out.size)⟩
theorem doctext_any (kd : Int) (n : ByteArray) (K V : Int) (kb : Bool) (w : World) (hs : n.size ≤ 1000000) :
  Calls Tryz.prog 15 #[.agg #[.int .i64 kd,.string n,.int .i64 K,.int .i64 V,.bool kb]] w fun e w' => e = .returned (.string (bb (textR (kd,n,K,V,kb)))) ∧ Below w.heap.size w w' := by
 have key : ∀ T : ByteArray,bb (textR (kd,n,K,V,kb)) = T → (Calls Tryz.prog 15 #[.agg #[.int .i64 kd,.string n,.int .i64 K,.int .i64 V,.bool kb]] w fun e w' => e = .returned (.string T) ∧ Below w.heap.size w w') → (Calls Tryz.prog 15 #[.agg #[.int .i64 kd,.string n,.int .i64 K,.int .i64 V,.bool kb]] w fun e w' => e = .returned (.string (bb (textR (kd,n,K,V,kb)))) ∧ Below w.heap.size w w') := fun T h => by rw [h]; exact id
 cases h1 : nameB n with
 | false => exact key _ (by simp [textR,okC,h1,bb]) (dt_name kd n K V kb w hs h1)
 | true =>
  cases h2 : inN K with
  | false => exact key _ (by simp [textR,okC,h1,h2,bb]) (dt_k kd n K V kb w hs h1 h2)
  | true =>
   cases h3 : inN V with
   | false => exact key _ (by simp [textR,okC,h1,h2,h3,bb]) (dt_v kd n K V kb w hs h1 h2 h3)
   | true =>
    cases kb with
    | false =>
     by_cases h4 : K = 0
     ·subst h4
      by_cases d2 : kd = 2
      ·subst d2; exact key _ (by simp [textR,okC,h1,h2,h3,bb]) (dg_put0 n V w hs h1 h2 h3)
      ·by_cases hv : V = 0
       ·subst hv
        by_cases d1 : kd = 1
        ·subst d1; exact key _ (by rw [show textR (1,n,0,0,false) = [115,101,108,101,99,116,32,42,32,102,114,111,109,32] ++ n.data.toList by simp [textR,okC,h1,h2]]; rw [bbApp,bbData]; exact (addEmp _).symm) (dg_all n w hs h1 h2 h3)
        ·by_cases d3 : kd = 3
         ·subst d3; exact key _ (by simp [textR,okC,h1,h2,h3,bb]) (dg_add0 n w hs h1 h2 h3)
         ·by_cases d4 : kd = 4
          ·subst d4; exact key _ (by rw [show textR (4,n,0,0,false) = [100,101,108,101,116,101,32,102,114,111,109,32] ++ n.data.toList by simp [textR,okC,h1,h2]]; rw [bbApp,bbData]; exact (addEmp _).symm) (dg_dela n w hs h1 h2 h3)
          ·by_cases d5 : kd = 5
           ·subst d5; exact key _ (by rw [show textR (5,n,0,0,false) = [99,114,101,97,116,101,32,116,97,98,108,101,32] ++ n.data.toList by simp [textR,okC,h1,h2]]; rw [bbApp,bbData]; all_goals rfl) (dg_new n w hs h1 h2 h3)
           ·exact key _ (by simp [textR,okC,h1,h2,h3,bb,d1,d2,d3,d4,d5]) (dg_no0 kd n w hs h1 h2 h3 d1 d2 d3 d4 d5)
       ·exact key _ (by simp [textR,okC,h1,h2,h3,bb,d2,hv]) (dt_nv0 kd n V w hs h1 h2 h3 hv d2)
     ·exact key _ (by simp [textR,okC,h1,h2,h3,bb,h4]) (dt_nk kd n K V w hs h1 h2 h3 h4)
    | true =>
     by_cases d2 : kd = 2
     ·subst d2
      exact key _ (by rw [show textR (2,n,K,V,true) = [105,110,115,101,114,116,32,105,110,116,111,32] ++ n.data.toList ++ [32,118,97,108,117,101,115,32,40,32] ++ Lib.itoa K ++ [32,44,32] ++ Lib.itoa V ++ [32,41] by simp [textR,okC,h1,h2,h3,digT]]; simp only [bbApp,bbData]; all_goals rfl) (dg_put n K V w hs h1 h2 h3)
     ·by_cases hv : V = 0
      ·subst hv
       by_cases d1 : kd = 1
       ·subst d1; exact key _ (by rw [show textR (1,n,K,0,true) = [115,101,108,101,99,116,32,42,32,102,114,111,109,32] ++ n.data.toList ++ ([32,119,104,101,114,101,32,107,32,61,32] ++ Lib.itoa K) by simp [textR,okC,h1,h2,h3,digT]]; simp only [bbApp,bbData]; all_goals rfl) (dg_get n K w hs h1 h2 h3)
       ·by_cases d3 : kd = 3
        ·subst d3; exact key _ (by rw [show textR (3,n,K,0,true) = [117,112,100,97,116,101,32] ++ n.data.toList ++ [32,115,101,116,32,118,32,61,32,118,32,43,32,49] ++ ([32,119,104,101,114,101,32,107,32,61,32] ++ Lib.itoa K) by simp [textR,okC,h1,h2,h3,digT]]; simp only [bbApp,bbData]; all_goals rfl) (dg_add n K w hs h1 h2 h3)
        ·by_cases d4 : kd = 4
         ·subst d4; exact key _ (by rw [show textR (4,n,K,0,true) = [100,101,108,101,116,101,32,102,114,111,109,32] ++ n.data.toList ++ ([32,119,104,101,114,101,32,107,32,61,32] ++ Lib.itoa K) by simp [textR,okC,h1,h2,h3,digT]]; simp only [bbApp,bbData]; all_goals rfl) (dg_del n K w hs h1 h2 h3)
         ·by_cases d5 : kd = 5
          ·subst d5; exact key _ (by simp [textR,okC,h1,h2,h3,bb]) (dg_newk n K w hs h1 h2 h3)
          ·exact key _ (by simp [textR,okC,h1,h2,h3,bb,d1,d2,d3,d4,d5]) (dg_no kd n K w hs h1 h2 h3 d1 d2 d3 d4 d5)
      ·exact key _ (by simp [textR,okC,h1,h2,h3,bb,d2,hv]) (dt_nv kd n K V w hs h1 h2 h3 hv d2)
end Go.Proofs.YtgdabkpahmlkpaaGreatDoor
