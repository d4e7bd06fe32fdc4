/- What package lexer's remark answers. Condition: a text's length. -/
import Derived.Test.YtgnpkpboilnijaaGreatDoorG4
import Derived.WalkMore
import Derived.BigQuiet
import Derived.IntWalk
import Derived.Deep.QuietTactic
set_option linter.unusedSimpArgs false
set_option linter.unusedVariables false
namespace Go.Proofs.YtgnpkpboilnijaaGreatDoor
open Go.ChangeShapes Go.WideShapes Go.ChangeAt Go.RowKit
set_option maxRecDepth 100000
set_option linter.unusedVariables false
set_option linter.unusedSimpArgs false

theorem take2_ext (s : ByteArray) (k : Nat) : (s.extract 0 k).toList = s.data.toList.take k := by
  rw [Lib.toList_data, ByteArray.data_extract, Array.toList_extract]
  simp only [List.extract_eq_take_drop, List.drop_zero, Nat.sub_zero]
theorem hpB_two (s : ByteArray) (x y : UInt8) : hpB s ⟨#[x, y]⟩ = decide (s.data.toList.take 2 = [x, y]) := by
  unfold hpB
  have e1 : (⟨#[x, y]⟩ : ByteArray).size = 2 := rfl
  have e2 : (⟨#[x, y]⟩ : ByteArray).toList = [x, y] := by rw [Lib.toList_data]
  rw [e1, e2, take2_ext]
  by_cases h : s.data.toList.take 2 = [x, y]
  · have h2 : 2 ≤ s.size := by
      have := congrArg List.length h
      rw [List.length_take, ← Lib.size_eq] at this
      simp only [List.length_cons, List.length_nil] at this; omega
    rw [decide_eq_true h, decide_eq_true h2, h]; simp
  · rw [decide_eq_false h]
    simp [h]
theorem ext_list (s : ByteArray) (a : Nat) : (s.extract a s.size).data.toList = s.data.toList.drop a := by
  rw [ByteArray.data_extract, Array.toList_extract, List.extract_eq_take_drop]
  refine List.take_of_length_le ?_
  rw [List.length_drop, ← Lib.size_eq]
  exact Nat.le_refl _
/-- how many bytes go up to the end of the last of d remarks that are open; nothing: they don't end -/
def remL : Nat → Tx → Option Nat
  | 0, _ => some 0
  | d + 1, [] => none
  | d + 1, c :: r =>
    if (c :: r).take 2 = [47, 42] then (remL (d + 2) (r.drop 1)).map (· + 2)
    else if (c :: r).take 2 = [42, 47] then (remL d (r.drop 1)).map (· + 2)
    else (remL (d + 1) r).map (· + 1)
termination_by _ l => l.length
decreasing_by all_goals (simp; try omega)
def remI (o : Option Nat) : Int := match o with | some n => (n : Int) | none => -1
structure RemI (s : ByteArray) (R : Option Nat) (w : World) (d a : Nat) (wr : World) : Prop where
  own : Own3 w wr
  le : a ≤ s.size
  deep : d ≤ a
  val : R = (remL d (s.data.toList.drop a)).map (· + a)
theorem map_add (o : Option Nat) (a b c : Nat) (h : a + b = c) : (o.map (· + a)).map (· + b) = o.map (· + c) := by
  cases o with
  | none => rfl
  | some n => simp; omega
theorem drop_cons_ (l : Tx) (a : Nat) (h : a < l.length) : ∃ c, l.drop a = c :: l.drop (a + 1) := ⟨l[a], List.drop_eq_getElem_cons h⟩
theorem RemI.open_ {s : ByteArray} {R : Option Nat} {w wr : World} {d a : Nat} (h : RemI s R w (d + 1) a wr) (h2 : (s.data.toList.drop a).take 2 = [47, 42]) : RemI s R w (d + 2) (a + 2) wr := by
  have hl : a + 2 ≤ s.size := by
    have := congrArg List.length h2
    rw [List.length_take, List.length_drop, ← Lib.size_eq] at this
    simp only [List.length_cons, List.length_nil] at this; omega
  obtain ⟨c, hc⟩ := drop_cons_ s.data.toList a (by rw [← Lib.size_eq]; omega)
  refine ⟨h.own, hl, by have := h.deep; omega, ?_⟩
  rw [h.val, hc, remL, ← hc, if_pos h2, map_add _ _ _ (a + 2) (by omega), List.drop_drop]
theorem RemI.shut_ {s : ByteArray} {R : Option Nat} {w wr : World} {d a : Nat} (h : RemI s R w (d + 1) a wr) (h2 : (s.data.toList.drop a).take 2 = [42, 47]) : RemI s R w d (a + 2) wr := by
  have hl : a + 2 ≤ s.size := by
    have := congrArg List.length h2
    rw [List.length_take, List.length_drop, ← Lib.size_eq] at this
    simp only [List.length_cons, List.length_nil] at this; omega
  obtain ⟨c, hc⟩ := drop_cons_ s.data.toList a (by rw [← Lib.size_eq]; omega)
  refine ⟨h.own, hl, by have := h.deep; omega, ?_⟩
  rw [h.val, hc, remL, ← hc, if_neg (by rw [h2]; decide), if_pos h2, map_add _ _ _ (a + 2) (by omega), List.drop_drop]
theorem RemI.on_ {s : ByteArray} {R : Option Nat} {w wr : World} {d a : Nat} (h : RemI s R w (d + 1) a wr) (hl : a < s.size) (h1 : (s.data.toList.drop a).take 2 ≠ [47, 42]) (h2 : (s.data.toList.drop a).take 2 ≠ [42, 47]) : RemI s R w (d + 1) (a + 1) wr := by
  obtain ⟨c, hc⟩ := drop_cons_ s.data.toList a (by rw [← Lib.size_eq]; omega)
  refine ⟨h.own, by omega, by have := h.deep; omega, ?_⟩
  rw [h.val, hc, remL, ← hc, if_neg h1, if_neg h2, map_add _ _ _ (a + 1) (by omega)]
abbrev opnT : ByteArray := ⟨#[47, 42]⟩
abbrev shtT : ByteArray := ⟨#[42, 47]⟩
theorem remark_no (s : ByteArray) (w : World) (h : hpB s opnT = false) :
    Calls Tryz.prog 57 #[.string s] w fun e w' => e = .returned (pcV 0 ⟨#[]⟩ 0) ∧ Below w.heap.size w w' := by
  have hp := fun w => hp_any s opnT w
  rw [h] at hp
  have HP := Lib.hid hp
  clear hp h
  go_enter Tryz.func57, Tryz.ntmps57
  go_wp2_with (first
    | (go_at_call 82; (with_reducible refine (HP.out _).mono ?_); rintro e w1 ⟨rfl, hw⟩; obtain rfl := hw.symm))
  refine bodyPost_ret (v := pcV 0 ⟨#[]⟩ 0) (by simp [results, Tryz.results57, go_sem]) rfl ?_
  exact ⟨rfl, (Below.refl _ _).alloc (Nat.le_refl _) _⟩
set_option maxRecDepth 100000 in
theorem remark_yes (s : ByteArray) (w : World) (hs : s.size ≤ 281474976710656) (h : hpB s opnT = true) (R : Option Nat) (hR : R = (remL 1 (s.data.toList.drop 2)).map (· + 2)) :
    Calls Tryz.prog 57 #[.string s] w fun e w' => e = .returned (pcV 0 ⟨#[]⟩ (remI R)) ∧ Below w.heap.size w w' := by
  have hp := fun w => hp_any s opnT w
  have h2 : 2 ≤ s.size := by unfold hpB at h; simp at h; exact h.1
  have hI : RemI s R w 1 2 _ := ⟨Own3.new w, h2, by omega, hR⟩
  rw [h] at hp
  have HP := Lib.hid hp
  have HI := Lib.hid hI
  clear hp h hR hI
  go_enter Tryz.func57, Tryz.ntmps57
  go_wp2_with (first
    | (go_at_call 82; (with_reducible refine (HP.out _).mono ?_); rintro e w1 ⟨rfl, hw⟩; obtain rfl := hw.symm))
  go_loopw [3, 4] (fun u3 u4 wr => ∃ d a : Nat, u3 = .int .i64 (d : Int) ∧ u4 = .int .i64 (a : Int) ∧ RemI s R w d a wr) (fun _ u4 _ => s.size - (match u4 with | .int _ k => k.toNat | _ => 0))
  case atStart => exact ⟨1, 2, rfl, rfl, HI.out⟩
  case round =>
    obtain ⟨d, a, rfl, rfl, hr⟩ := hrel
    obtain ⟨hown, hle, hdp, hval⟩ := id hr
    obtain ⟨hB, hL, k0, k1, k2, f0, f1, f2⟩ := id hown
    have HR := Lib.hid hr
    clear hr hown HI hw
    have l0 : (0 : Int) ≤ (a : Int) := by omega
    have l1 : (a : Int) ≤ (s.size : Int) := by omega
    match d, HR, hval, hdp with
    | 0, HR, hval, hdp =>
      have hv : remI R = (a : Int) := by rw [hval, remL]; simp [remI]
      clear hval
      go_wp2
      refine bodyPost_ret (v := pcV 0 ⟨#[]⟩ (a : Int)) (by simp [results, Tryz.results57, go_sem, k0, k1, k2]) rfl ?_
      rw [hv]
      refine ⟨rfl, ((hB.setCell ?_ _).setCell ?_ _).setCell ?_ _⟩ <;> exact Nat.le_refl _
    | d + 1, HR, hval, hdp =>
      obtain ⟨z, hz⟩ : ∃ z : Int, ((d + 1 : Nat) : Int) = z := ⟨_, rfl⟩
      rw [hz]
      have z0 : (0 : Int) < z := by omega
      have z1 : z ≤ 281474976710656 := by omega
      have HZ := Lib.hid hz
      have HV := Lib.hid hval
      clear hz hval hdp
      by_cases he : a = s.size
      · have q1 : ((a : Int) == (s.size : Int)) = true := by rw [beq_iff_eq]; omega
        have hv : remI R = -1 := by
          rw [HV.out, he, List.drop_of_length_le (by rw [Lib.size_eq]; exact Nat.le_refl _), remL]; rfl
        go_wp2
        refine bodyPost_ret (v := pcV 0 ⟨#[]⟩ (-1)) (by simp [results, Tryz.results57, go_sem, k0, k1, k2]) rfl ?_
        rw [hv]
        refine ⟨rfl, ((hB.setCell ?_ _).setCell ?_ _).setCell ?_ _⟩ <;> exact Nat.le_refl _
      · have q1 : ((a : Int) == (s.size : Int)) = false := by rw [beq_eq_false_iff_ne]; omega
        have ho := fun w => hp_any (s.extract a s.size) opnT w
        have hc := fun w => hp_any (s.extract a s.size) shtT w
        simp only [hpB_two, ext_list] at ho hc
        by_cases h1 : (s.data.toList.drop a).take 2 = [47, 42]
        · simp only [h1, decide_true] at ho
          have HO := Lib.hid ho
          clear ho hc
          go_wp2_with (go_at_call 82; (with_reducible refine (HO.out _).mono ?_); rintro e w1 ⟨rfl, hw⟩; obtain rfl := hw.symm)
          have hq := HR.out.open_ h1
          have e1 : z + 1 = ((d + 2 : Nat) : Int) := by have := HZ.out; omega
          have e2 : (a : Int) + 2 = ((a + 2 : Nat) : Int) := by omega
          have e3 := hq.le
          refine ⟨⟨d + 2, a + 2, by rw [e1], by rw [e2], hq⟩, ?_⟩
          rw [e2]; simp only [Int.toNat_natCast]; omega
        · simp only [h1, decide_false] at ho
          have HO := Lib.hid ho
          by_cases h3 : (s.data.toList.drop a).take 2 = [42, 47]
          · simp only [h3, decide_true] at hc
            have HC := Lib.hid hc
            clear ho hc
            go_wp2_with (first
              | (go_at_call 82; (with_reducible refine (HO.out _).mono ?_); rintro e w1 ⟨rfl, hw⟩; obtain rfl := hw.symm)
              | (go_at_call 82; (with_reducible refine (HC.out _).mono ?_); rintro e w2 ⟨rfl, hw2⟩; obtain rfl := hw2.symm))
            have hq := HR.out.shut_ h3
            have e1 : z - 1 = (d : Int) := by have := HZ.out; omega
            have e2 : (a : Int) + 2 = ((a + 2 : Nat) : Int) := by omega
            have e3 := hq.le
            refine ⟨⟨d, a + 2, by rw [e1], by rw [e2], hq⟩, ?_⟩
            rw [e2]; simp only [Int.toNat_natCast]; omega
          · simp only [h3, decide_false] at hc
            have HC := Lib.hid hc
            clear ho hc
            go_wp2_with (first
              | (go_at_call 82; (with_reducible refine (HO.out _).mono ?_); rintro e w1 ⟨rfl, hw⟩; obtain rfl := hw.symm)
              | (go_at_call 82; (with_reducible refine (HC.out _).mono ?_); rintro e w2 ⟨rfl, hw2⟩; obtain rfl := hw2.symm))
            have hq := HR.out.on_ (by omega) h1 h3
            have e1 : z = ((d + 1 : Nat) : Int) := HZ.out.symm
            have e2 : (a : Int) + 1 = ((a + 1 : Nat) : Int) := by omega
            have e3 := hq.le
            refine ⟨⟨d + 1, a + 1, by rw [e1], by rw [e2], hq⟩, ?_⟩
            rw [e2]; simp only [Int.toNat_natCast]; omega
end Go.Proofs.YtgnpkpboilnijaaGreatDoor
