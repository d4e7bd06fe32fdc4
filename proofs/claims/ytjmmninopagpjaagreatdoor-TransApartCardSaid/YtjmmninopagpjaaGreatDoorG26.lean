/- Nmk Nml Nmn Nmo -/
import Derived.Test.YtjmmninopagpjaaGreatDoorG25
import Derived.Test.YtjmmninopagpjaaGreatDoorG16
import Derived.Deep.WholeRow
import Derived.Lib.UnsafeStr
import Derived.Test.YtjmmninopagpjaaGreatDoorG1
set_option linter.unusedSimpArgs false
set_option linter.unusedVariables false
namespace Go.Proofs.YtjmmninopagpjaaGreatDoor
open Go.ChangeShapes Go.WideShapes Go.ChangeAt Go.RowKit
set_option maxRecDepth 100000
set_option linter.unusedVariables false
set_option linter.unusedSimpArgs false



def tenT : Tx := [48,49,50,51,52,53,54,55,56,57]
def ten_bytesT (c : UInt8) : Bool := tenT.contains c == digB c
theorem ten_bytes : ((List.range 256).all fun n => ten_bytesT (UInt8.ofNat n)) = true := by kernel_rfl
theorem ten_dig (c : UInt8) : tenT.contains c = digB c := by
 have := byte_all (f := ten_bytesT) ten_bytes c
 unfold ten_bytesT at this
 exact beq_iff_eq.1 this
theorem all_head (t : ByteArray) (h : 0 < t.size) : t.data.toList.all digB = (digB (t[0]'h) && (t.extract 1 t.size).data.toList.all digB) := by
 have e := byte_at t 0 h
 rw [List.drop_zero] at e
 rw [ext_list,e,List.all_cons]; rfl
theorem all_last (t : ByteArray) (n : Nat) (h : n < t.size) (hn : t.size = n + 1) : t.data.toList.all digB = ((t.extract 0 n).data.toList.all digB && digB (t[n]'h)) := by
 have e : t.data.toList = t.data.toList.take n ++ [t[n]'h] := by
  have h1 := byte_at t n h
  have h2 : t.data.toList.drop (n + 1) = [] := List.drop_eq_nil_of_le (by have : t.size = t.data.toList.length := rfl; omega)
  rw [h2] at h1
  conv => lhs; rw [← List.take_append_drop n t.data.toList]
  rw [h1]
 have h3 : (t.extract 0 n).data.toList = t.data.toList.take n := by
  rw [ByteArray.data_extract,Array.toList_extract,List.extract_eq_take_drop]; simp
 rw [h3]
 conv => lhs; rw [e]
 rw [List.all_append]; simp
def LeftP (s : ByteArray) (w : World) (e : Ending) (w' : World) : Prop := ∃ t : ByteArray,e = .returned (.string t) ∧ (t.size = 0 ↔ s.data.toList.all digB = true) ∧ w = w'
def RightP (s : ByteArray) (w : World) (e : Ending) (w' : World) : Prop := ∃ t : ByteArray,e = .returned (.string t) ∧ t.data.toList.all digB = s.data.toList.all digB ∧ t.size ≤ s.size ∧ w = w'
set_option maxHeartbeats 2000000 in
theorem tleft_any (s : ByteArray) (b : Nat) (w : World) (hs : s.size ≤ 1048576) (hset : ∀ x : UInt8,w.cell? ⟨b,x.toNat,none⟩ = some (.bool (digB x))) :
  Calls Tryz.prog 214 #[.string s,.pointer (some ⟨b,0,none⟩)] w (LeftP s w) := by
 have HS := Lib.hid hset
 clear hset
 go_enter Tryz.func214,Tryz.ntmps214
 go_wp2
 go_loop [0] (fun v => ∃ t : ByteArray,v = .string t ∧ t.size ≤ s.size ∧ Hid (t.data.toList.all digB = s.data.toList.all digB)) (fun v => match v with | .string t => t.size | _ => 0)
 case atStart => exact ⟨s,rfl,Nat.le_refl _,Lib.hid rfl⟩
 case round =>
  obtain ⟨t,rfl,hts,HA⟩ := hrel
  by_cases h0 : 0 < t.size
  ·have hh := all_head t h0
   have hset := HS.out (t[0]'h0)
   cases hd : digB (t[0]'h0) with
   | true =>
    rw [hd] at hset hh
    rw [Bool.true_and] at hh
    have HH := Lib.hid (hh.symm.trans HA.out)
    clear hh hd
    go_wp2_with (go_at_call 239; (with_reducible refine (Tryz.asciiSet_contains b (t[0]'h0) true w hset).mono ?_); rintro e w' ⟨rfl,hw⟩; obtain rfl := hw.symm)
    go_round
    case rel => exact ⟨_,rfl,by rw [ByteArray.size_extract]; omega,HH⟩
    case measure => show (t.extract 1 t.size).size < t.size; rw [ByteArray.size_extract]; omega
   | false =>
    rw [hd] at hset hh
    rw [Bool.false_and] at hh
    have HH := Lib.hid (hh.symm.trans HA.out)
    clear hh hd
    go_wp2_with (go_at_call 239; (with_reducible refine (Tryz.asciiSet_contains b (t[0]'h0) false w hset).mono ?_); rintro e w' ⟨rfl,hw⟩; obtain rfl := hw.symm)
    go_ret
    exact ⟨t,rfl,⟨fun h => by omega,fun h => by rw [← HH.out] at h; cases h⟩,rfl⟩
  ·have hz : t.size = 0 := by omega
   have hnil : t.data.toList = [] := List.eq_nil_of_length_eq_zero hz
   have HN := Lib.hid hnil
   have HZ := Lib.hid hz
   clear hnil hz
   go_wp2
   go_ret
   exact ⟨t,rfl,⟨fun _ => by rw [← HA.out,HN.out]; rfl,fun _ => HZ.out⟩,rfl⟩
set_option maxHeartbeats 2000000 in
theorem tright_any (s : ByteArray) (b : Nat) (w : World) (hs : s.size ≤ 1048576) (hset : ∀ x : UInt8,w.cell? ⟨b,x.toNat,none⟩ = some (.bool (digB x))) :
  Calls Tryz.prog 215 #[.string s,.pointer (some ⟨b,0,none⟩)] w (RightP s w) := by
 have HS := Lib.hid hset
 clear hset
 go_enter Tryz.func215,Tryz.ntmps215
 go_wp2
 go_loop [0] (fun v => ∃ t : ByteArray,v = .string t ∧ t.size ≤ s.size ∧ Hid (t.data.toList.all digB = s.data.toList.all digB)) (fun v => match v with | .string t => t.size | _ => 0)
 case atStart => exact ⟨s,rfl,Nat.le_refl _,Lib.hid rfl⟩
 case round =>
  obtain ⟨t,rfl,hts,HA⟩ := hrel
  by_cases h0 : 0 < t.size
  ·obtain ⟨n,hn⟩ : ∃ n,t.size = n + 1 := ⟨t.size - 1,by omega⟩
   have hnt : n < t.size := by omega
   have hh := all_last t n hnt hn
   have hset := HS.out (t[n]'hnt)
   have cw : IntKind.i64.wrap ((t.size : Int) - 1) = (n : Int) := by rw [show (t.size : Int) - 1 = (n : Int) by omega]; exact IntWalk.i64_in _ (by omega)
   have l1 : (0 : Int) < (t.size : Int) := by omega
   have l2 : (n : Int) < (t.size : Int) := by omega
   have l3 : (0 : Int) ≤ (n : Int) := by omega
   have l4 : (n : Int) ≤ (t.size : Int) := by omega
   have HN := Lib.hid hn
   clear hn
   cases hd : digB (t[n]'hnt) with
   | true =>
    rw [hd] at hset hh
    rw [Bool.and_true] at hh
    have HH := Lib.hid (hh.symm.trans HA.out)
    clear hh hd
    go_wp2_with (go_at_call 239; (with_reducible refine (Tryz.asciiSet_contains b (t[n]'hnt) true w hset).mono ?_); rintro e w' ⟨rfl,hw⟩; obtain rfl := hw.symm)
    go_round
    case rel => exact ⟨_,rfl,by rw [ByteArray.size_extract]; have := HN.out; omega,HH⟩
    case measure => show (t.extract 0 n).size < t.size; rw [ByteArray.size_extract]; have := HN.out; omega
   | false =>
    rw [hd] at hset hh
    rw [Bool.and_false] at hh
    clear hd
    go_wp2_with (go_at_call 239; (with_reducible refine (Tryz.asciiSet_contains b (t[n]'hnt) false w hset).mono ?_); rintro e w' ⟨rfl,hw⟩; obtain rfl := hw.symm)
    go_ret
    exact ⟨t,rfl,HA.out,hts,rfl⟩
  ·go_wp2
   go_ret
   exact ⟨t,rfl,HA.out,hts,rfl⟩

def TrimP (s : ByteArray) (w : World) (e : Ending) (w' : World) : Prop := ∃ t : ByteArray,e = .returned (.string t) ∧ (t.size = 0 ↔ s.data.toList.all digB = true) ∧ Below w.heap.size w w'
theorem ten_set : ∃ C : Array Value,Lib.setCells (⟨#[48,49,50,51,52,53,54,55,56,57]⟩ : ByteArray).data.toList = C ∧ C.size = 256 ∧ (∀ x : UInt8,C[x.toNat]? = some (.bool (digB x))) ∧ C.all (·.oneCell') = true :=
 ⟨_,rfl,Lib.setCells_size _,fun x => by rw [Lib.setCells_at,← ten_dig]; rfl,Lib.setCells_one _⟩
theorem not_empty (s : ByteArray) (h : 0 < s.size) : s.toList.isEmpty = false := by
 rw [Lib.toList_data]
 cases h2 : s.data.toList with
 | nil => have : s.size = s.data.toList.length := rfl
          rw [h2,List.length_nil] at this; omega
 | cons _ _ => rfl
theorem is_empty (s : ByteArray) (h : s.size = 0) : s = ⟨#[]⟩ := by
 apply ByteArray.ext
 apply Array.eq_empty_of_size_eq_zero
 exact h
theorem set_zero : ∀ w : World,(zeroValue 247).run Tryz.prog w = .ok (.agg (Array.replicate 256 (.bool false))) w := by
 have h : (Tryz.prog.info? 247).map (·.zero) = some (some (.agg (Array.replicate 256 (.bool false)))) := by kernel_rfl
 intro w
 cases hi : Tryz.prog.info? 247 with
 | none => rw [hi] at h; cases h
 | some i =>
  rw [hi] at h
  simp only [Option.map_some,Option.some.injEq] at h
  simp [zeroValue,typeInfo,hi,h,Result.andThen]
set_option maxHeartbeats 4000000 in
theorem trim_any (s : ByteArray) (w : World) (hs : s.size ≤ 1048576) (h0 : 0 < s.size) :
  Calls Tryz.prog 187 #[.string s,.string ⟨#[48,49,50,51,52,53,54,55,56,57]⟩] w (TrimP s w) := by
 have hM := Tryz.strings_makeASCIISet set_zero (⟨#[48,49,50,51,52,53,54,55,56,57]⟩ : ByteArray) w (by decide) (by
  intro j b hb
  have hm : b ∈ tenT := List.mem_of_getElem? hb
  have := (ten_dig b).symm.trans (List.contains_iff_mem.2 hm)
  exact Nat.lt_of_le_of_lt (dig_le b this).2 (by decide))
 obtain ⟨C,hC,hCs,hCx,hC1⟩ := ten_set
 rw [hC] at hM
 have hne := not_empty s h0
 have hcellAt : ∀ x : UInt8,((w.alloc (.cells C 247)).alloc (.cells C 247)).cell? ⟨w.heap.size + 1,x.toNat,none⟩ = some (.bool (digB x)) := fun x => by
  rw [World.cell?_alloc_at _ _ _ _ (by simp),hCx]
 have hsc : (storeCells ⟨w.heap.size + 1,0,none⟩ C.toList 0).run Tryz.prog ((w.alloc (.cells C 247)).alloc (.cells Tryz.zeroCells247 247)) = .ok () ((w.alloc (.cells C 247)).alloc (.cells C 247)) := by
  have := run_storeCells_new (P := Tryz.prog) (w.alloc (.cells C 247)) 247 Tryz.zeroCells247 C (by rw [hCs]; kernel_rfl) (by rw [hCs]; kernel_rfl) hC1
  simpa using this
 have HM := Lib.hid hM
 have HC := Lib.hid hcellAt
 have HR := Lib.hid (fun w1 hset => tright_any s (w.heap.size + 1) w1 hs hset)
 clear hM hcellAt hCx hC1 hC
 go_enter Tryz.func187,Tryz.ntmps187
 go_wp2_with (go_at_call 213; (with_reducible refine HM.out.mono ?_); rintro e w1 ⟨rfl,hw1⟩; rw [hw1])
 clear hsc HM
 have hR := HR.out _ HC.out
 have hl := fun t hts => tleft_any t (w.heap.size + 1) ((w.alloc (.cells C 247)).alloc (.cells C 247)) hts HC.out
 have HB := Lib.hid (((Below.refl _ w).alloc (Nat.le_refl _) (.cells C 247)).alloc (by simp) (.cells C 247))
 have HRR := Lib.hid hR
 have HL := Lib.hid hl
 clear hR hl HR HC
 refine HRR.out.mono ?_
 rintro e w2 ⟨t,rfl,ht,hts,hw2⟩
 obtain rfl := hw2
 have hl2 := HL.out t (by omega)
 have HT := Lib.hid ht
 clear ht
 go_wp2_with fail
 refine hl2.mono ?_
 rintro e w3 ⟨u,rfl,hu,hw3⟩
 obtain rfl := hw3
 go_wp2
 go_ret
 exact ⟨u,rfl,by rw [hu,HT.out],HB.out⟩
theorem dec_from (l : Tx) : ∀ acc : Nat,l.all digB = true → Lib.decFrom acc l = some (l.foldl (fun n c => 10 * n + (c.toNat - 48)) acc) := by
 induction l with
 | nil => intro acc _; rfl
 | cons c r ih =>
  intro acc h
  rw [List.all_cons,Bool.and_eq_true] at h
  have hd := dig_le c h.1
  have e : Lib.digitVal c = some (c.toNat - 48) := if_pos hd
  rw [List.foldl_cons,← ih _ h.2]
  show (match Lib.digitVal c with | some d => Lib.decFrom (acc * 10 + d) r | none => none) = _
  rw [e,Nat.mul_comm 10 acc]
theorem atoi_val (l : Tx) (hne : l ≠ []) (h : l.all digB = true) : Lib.atoi l = some (valL l : Int) := by
 have hd := dec_from l 0 h
 cases l with
 | nil => exact absurd rfl hne
 | cons c r =>
  have hc : digB c = true := by rw [List.all_cons,Bool.and_eq_true] at h; exact h.1
  have h45 : (c == 45) = false := by rw [beq_eq_false_iff_ne]; rintro rfl; exact absurd hc (by decide)
  have h43 : (c == 43) = false := by rw [beq_eq_false_iff_ne]; rintro rfl; exact absurd hc (by decide)
  show (if (c == 45) = true then _ else if (c == 43) = true then _ else (Lib.decNat (c :: r)).map fun (m : Nat) => (m : Int)) = _
  rw [h45,h43,if_neg (by decide),if_neg (by decide)]
  have e : Lib.decNat (c :: r) = Lib.decFrom 0 (c :: r) := rfl
  rw [e,hd]; rfl
def StrNo (w : World) (e : Ending) (w' : World) : Prop := ∃ t : ByteArray,e = .returned (.string t) ∧ t.toList.isEmpty = false ∧ Below w.heap.size w w'
theorem trim_yes (s : ByteArray) (w : World) (hs : s.size ≤ 1048576) (h0 : 0 < s.size) (h : s.data.toList.all digB = true) :
  Calls Tryz.prog 187 #[.string s,.string ⟨#[48,49,50,51,52,53,54,55,56,57]⟩] w fun e w' => e = .returned (.string ⟨#[]⟩) ∧ Below w.heap.size w w' :=
 (trim_any s w hs h0).mono fun e w' ⟨t,he,ht,hb⟩ => ⟨by rw [he,is_empty t (ht.2 h)],hb⟩
theorem trim_no (s : ByteArray) (w : World) (hs : s.size ≤ 1048576) (h0 : 0 < s.size) (h : s.data.toList.all digB = false) :
  Calls Tryz.prog 187 #[.string s,.string ⟨#[48,49,50,51,52,53,54,55,56,57]⟩] w (StrNo w) :=
 (trim_any s w hs h0).mono fun e w' ⟨t,he,ht,hb⟩ => ⟨t,he,not_empty t (Nat.pos_of_ne_zero fun h2 => by rw [ht.1 h2] at h; cases h),hb⟩
theorem atoi_any (s : ByteArray) (w : World) (h0 : 0 < s.size) (hs : s.size ≤ 9) (h : s.data.toList.all digB = true) :
  Calls Tryz.prog 188 #[.string s] w fun e w' => e = .returned (.tuple #[.int .i64 (valL s.data.toList : Int),.nilIface]) ∧ Below w.heap.size w w' := by
 refine (Tryz.strconv_Atoi s _ (by omega) (atoi_val _ (fun hnil => (by
  have e : s.size = s.data.toList.length := rfl
  rw [hnil,List.length_nil] at e; omega)) h) w).mono fun e w' ⟨he,t,hw⟩ => ⟨he,?_⟩
 rw [hw]
 exact Lib.below_freeze ((Below.drew (Below.refl _ w)).alloc (Nat.le_refl _) _) (p := ⟨w.heap.size,_,none⟩) (Nat.le_refl _) 1
end Go.Proofs.YtjmmninopagpjaaGreatDoor
