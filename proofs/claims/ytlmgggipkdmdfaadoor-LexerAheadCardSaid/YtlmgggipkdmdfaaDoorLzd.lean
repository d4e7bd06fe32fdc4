/- What the document's own small, sign, quoted, tag and dollar answer. Conditions: a text's length; where they are asked. -/
import Derived.Test.YtlmgggipkdmdfaaDoorLzc
namespace Go.Proofs.YtlmgggipkdmdfaaDoor
open Go.ChangeShapes Go.WideShapes Go.ChangeAt Go.RowKit
set_option linter.unusedVariables false
set_option linter.unusedSimpArgs false

set_option maxRecDepth 100000 in
theorem rsmall_any (s : ByteArray) (hs : s.size ≤ 281474976710656) (w : World) : Calls Tryd.prog 40 #[.string s] w fun e w' => e = .returned (.string (smallA s)) ∧ Below w.heap.size w w' := by
  have hconv := run_bytes_of_string (P := Tryd.prog) w 9 47 5 s (by kernel_rfl) (by kernel_rfl) (by kernel_rfl)
  have hI : SmI s w 0 (w.drew.alloc (.cells (bytesRow s (grownCap w s.size 0 5)) 5 ((bytesRow s (grownCap w s.size 0 5)).size, (bytesRow s (grownCap w s.size 0 5)).size + 1))) := by
    have e1 : w.drew.heap.size = w.heap.size := by simp
    refine ⟨fun j hj => ?_, fun j hj => ?_, ((Below.refl _ _).drew).alloc (by simp) _⟩
    · rw [if_neg (by omega)]
      rw [← e1, World.cell?_alloc_mark, bytesRow_at s _ j hj]
      rfl
    · rw [← e1, World.frozen?_alloc_mark]
      have : j < (bytesRow s (grownCap w s.size 0 5)).size := by
        have := bytesRow_at s (grownCap w s.size 0 5) j hj
        exact (Array.getElem?_eq_some_iff.1 this).1
      rw [decide_eq_false (by omega)]; rfl
  generalize (w.drew.alloc (.cells (bytesRow s (grownCap w s.size 0 5)) 5 ((bytesRow s (grownCap w s.size 0 5)).size, (bytesRow s (grownCap w s.size 0 5)).size + 1))) = w1 at *
  generalize grownCap w s.size 0 5 = cap at *
  have HI := Lib.hid hI
  clear hI
  go_enter Tryd.func40, Tryd.ntmps40
  go_wp2
  go_loopw [4] (fun u4 wr => ∃ k : Nat, u4 = .int .i64 (k : Int) ∧ k ≤ s.size ∧ SmI s w k wr) (fun u4 _ => s.size - (match u4 with | .int _ k => k.toNat | _ => 0))
  case atStart => exact ⟨0, rfl, Nat.zero_le _, HI.out⟩
  case round =>
    obtain ⟨k, rfl, hks, hS⟩ := hrel
    clear HI hconv
    have HS := Lib.hid hS
    clear hS
    by_cases hk : k < s.size
    · have lw : Hid ((k : Int) + 1 = ((k + 1 : Nat) : Int)) := Lib.hid (by omega)
      obtain ⟨z, hz⟩ : ∃ z : Int, ((s[k]'hk).toNat : Int) = z := ⟨_, rfl⟩
      have hc : wr.cell? ⟨w.heap.size, k, none⟩ = some (.int .u8 z) := by
        have := HS.out.cell k hk
        rwa [if_neg (by omega), hz] at this
      have hf : wr.frozen? ⟨w.heap.size, k, none⟩ = false := HS.out.fro k hk
      have lk : (k : Int) < (s.size : Int) := by omega
      have l0 : (0 : Int) ≤ (k : Int) := by omega
      have HZ := Lib.hid hz
      clear hz
      by_cases h1 : 65 ≤ z ∧ z ≤ 90
      · obtain ⟨ha, hb⟩ := h1
        have s1 : IntKind.u8.wrap (z + 32) = z + 32 := IntWalk.u8_in _ (by omega)
        go_wp2
        refine ⟨⟨k + 1, by rw [lw.out], by omega, HS.out.put hk _ (by rw [HZ.out]; unfold lowI; rw [if_pos ⟨ha, hb⟩])⟩, ?_⟩
        rw [lw.out]; simp only [Int.toNat_natCast]; omega
      · by_cases h2 : 65 ≤ z
        · have h3 : ¬ (z ≤ 90) := by omega
          clear h1
          go_wp2
          refine ⟨⟨k + 1, by rw [lw.out], by omega, HS.out.keep hk (by rw [HZ.out]; unfold lowI; rw [if_neg (by omega)])⟩, ?_⟩
          rw [lw.out]; simp only [Int.toNat_natCast]; omega
        · clear h1
          go_wp2
          refine ⟨⟨k + 1, by rw [lw.out], by omega, HS.out.keep hk (by rw [HZ.out]; unfold lowI; rw [if_neg (by omega)])⟩, ?_⟩
          rw [lw.out]; simp only [Int.toNat_natCast]; omega
    · have lk : ¬ ((k : Int) < (s.size : Int)) := by omega
      have hks2 : k = s.size := by omega
      have hback := run_convert_bytes_back (P := Tryd.prog) wr 47 9 5 ⟨w.heap.size, 0, none⟩ cap (s.data.toList.map lowB) (by kernel_rfl) (by kernel_rfl) (by kernel_rfl) (fun j hj => by
        have hj2 : j < s.size := by rw [Lib.size_eq]; simpa using hj
        have := HS.out.cell j hj2
        rw [if_pos (by omega)] at this
        have ea : (⟨w.heap.size, 0, none⟩ : Addr).add j = ⟨w.heap.size, j, none⟩ := by simp [Addr.add]; exact fun h => h.symm
        rw [ea, this, List.getElem_map]
        rfl)
      rw [List.length_map, ← Lib.size_eq] at hback
      clear hks2
      go_wp2
      go_ret
      exact ⟨rfl, HS.out.bel⟩
theorem idx_mem (l : Tx) (c : UInt8) : 0 ≤ Lib.indexByte l c ↔ c ∈ l := by
  induction l with
  | nil => simp [Lib.indexByte]
  | cons b r ih =>
    have hge := Lib.indexByte_ge r c
    unfold Lib.indexByte
    by_cases h : b = c
    · subst h; simp
    · have hb : (b == c) = false := by rw [beq_eq_false_iff_ne]; exact h
      rw [hb]
      simp only [Bool.false_eq_true, if_false, List.mem_cons]
      by_cases h1 : Lib.indexByte r c = -1
      · rw [h1]
        have : ¬ (c ∈ r) := fun hm => by have := ih.2 hm; omega
        simp [this]
        exact fun hh => h hh.symm
      · have h2 : (Lib.indexByte r c == -1) = false := by rw [beq_eq_false_iff_ne]; exact h1
        rw [h2]
        simp only [Bool.false_eq_true, if_false]
        constructor
        · intro _; exact .inr (ih.1 (by omega))
        · intro hm
          rcases hm with hm | hm
          · exact absurd hm.symm h
          · have := ih.2 hm; omega
set_option maxHeartbeats 1000000 in
set_option maxRecDepth 100000 in
theorem rsign_any (c : UInt8) (w : World) : Calls Tryd.prog 45 #[.int .u8 (c.toNat : Int)] w fun e w' => e = .returned (.bool (decide (0 ≤ signI c))) ∧ w' = w := by
  obtain ⟨z, hz⟩ : ∃ z : Int, (c.toNat : Int) = z := ⟨_, rfl⟩
  rw [hz]
  have HZ := Lib.hid hz
  obtain ⟨R, hR⟩ : ∃ R, decide (0 ≤ signI c) = R := ⟨_, rfl⟩
  rw [hR]
  have HR := Lib.hid hR
  clear hz hR
  go_enter Tryd.func45, Tryd.ntmps45
  go_wp2
  go_loop [4] (fun u4 => ∃ k : Nat, k ≤ 24 ∧ u4 = .int .i64 k ∧ ∀ j, j < k → signT.data.toList[j]? ≠ some c) (fun u4 => 24 - (intOf u4).toNat)
  case atStart => exact ⟨0, Nat.zero_le _, rfl, fun j h => by omega⟩
  case round =>
    obtain ⟨k, hk, rfl, hn⟩ := hrel
    have HN := Lib.hid hn
    clear hn
    by_cases hlt : k < 24
    · have l0 : (0 : Int) ≤ (k : Int) := by omega
      have l1 : (k : Int) < 24 := by omega
      obtain ⟨y, hy⟩ : ∃ y : UInt8, signT.data.toList[k]'hlt = y := ⟨_, rfl⟩
      have hci : ((signT[k]'hlt).toNat : Int) = (y.toNat : Int) := by rw [← hy]; rfl
      have hy2 : signT.data.toList[k]? = some y := by rw [List.getElem?_eq_getElem hlt, hy]
      obtain ⟨x, hx⟩ : ∃ x : Int, (y.toNat : Int) = x := ⟨_, rfl⟩
      rw [hx] at hci
      have HX := Lib.hid hx
      have HY := Lib.hid hy2
      clear hx hy hy2
      by_cases he : x = z
      · have e : (x == z) = true := by rw [beq_iff_eq]; exact he
        have hyc : y = c := UInt8.toNat_inj.1 (by have := HX.out; have := HZ.out; omega)
        have hr : R = true := by
          rw [← HR.out]
          refine decide_eq_true ((idx_mem _ _).2 ?_)
          rw [← hyc]
          exact List.mem_of_getElem? HY.out
        have HRR := Lib.hid hr
        clear he hyc hr
        go_wp2
        go_ret
        exact ⟨by rw [HRR.out]; rfl, rfl⟩
      · have e : (x == z) = false := by rw [beq_eq_false_iff_ne]; exact he
        have hyc : y ≠ c := fun h => he (by have h1 := HX.out; have h2 := HZ.out; rw [h] at h1; omega)
        have HYC := Lib.hid hyc
        clear he hyc
        go_wp2
        go_round
        case rel =>
          refine ⟨k + 1, by omega, by go_num, fun j hj => ?_⟩
          by_cases hjk : j < k
          · exact HN.out j hjk
          · have : j = k := by omega
            subst this
            rw [HY.out]
            intro h
            exact HYC.out (Option.some.inj h)
        case measure => simp [intOf]; omega
    · have l1 : ¬ ((k : Int) < 24) := by omega
      have hr : R = false := by
        rw [← HR.out]
        refine decide_eq_false fun h => ?_
        obtain ⟨j, hj⟩ := List.getElem?_of_mem ((idx_mem _ _).1 h)
        exact HN.out j (by have := (List.getElem?_eq_some_iff.1 hj).1; have h24 : signT.data.toList.length = 24 := rfl; omega) hj
      have HRR := Lib.hid hr
      clear hr
      go_wp2
      go_ret
      exact ⟨by rw [HRR.out]; rfl, rfl⟩
end Go.Proofs.YtlmgggipkdmdfaaDoor
