/- What package lexer's small answers. Condition: none. -/
import Derived.Test.YtlmgggipkdmdfaaDoorLxd
import Derived.WalkMore
import Derived.BigQuiet
import Derived.IntWalk
import Derived.Laws.IdiomStrings
namespace Go.Proofs.YtlmgggipkdmdfaaDoor
open Go.ChangeShapes Go.WideShapes Go.ChangeAt Go.RowKit
set_option linter.unusedVariables false
set_option linter.unusedSimpArgs false

def lowI (z : Int) : Int := if 65 ≤ z ∧ z ≤ 90 then z + 32 else z
def lowB (c : UInt8) : UInt8 := if 65 ≤ c.toNat ∧ c.toNat ≤ 90 then c + 32 else c
theorem lowB_I (c : UInt8) : ((lowB c).toNat : Int) = lowI (c.toNat : Int) := by
  unfold lowB lowI
  by_cases h : 65 ≤ c.toNat ∧ c.toNat ≤ 90
  · rw [if_pos h, if_pos (by omega), UInt8.toNat_add]
    have : (32 : UInt8).toNat = 32 := rfl
    rw [this]
    omega
  · rw [if_neg h, if_neg (by omega)]
def smallA (s : ByteArray) : ByteArray := ⟨(s.data.toList.map lowB).toArray⟩
structure SmI (s : ByteArray) (w : World) (k : Nat) (wr : World) : Prop where
  cell : ∀ (j : Nat) (hj : j < s.size), wr.cell? ⟨w.heap.size, j, none⟩ = some (.int .u8 ((if j < k then lowB s[j] else s[j]).toNat : Int))
  fro : ∀ (j : Nat) (hj : j < s.size), wr.frozen? ⟨w.heap.size, j, none⟩ = false
  bel : Below w.heap.size w wr
theorem SmI.keep {s : ByteArray} {w wr : World} {k : Nat} (h : SmI s w k wr) (hk : k < s.size) (hs : lowI (s[k].toNat : Int) = (s[k].toNat : Int)) : SmI s w (k + 1) wr := by
  refine ⟨fun j hj => ?_, h.fro, h.bel⟩
  rw [h.cell j hj]
  by_cases e : j = k
  · subst e
    rw [if_neg (by omega), if_pos (by omega), lowB_I, hs]
  · by_cases e2 : j < k
    · rw [if_pos e2, if_pos (by omega)]
    · rw [if_neg e2, if_neg (by omega)]
theorem SmI.put {s : ByteArray} {w wr : World} {k : Nat} (h : SmI s w k wr) (hk : k < s.size) (z : Int) (hz : z = lowI (s[k].toNat : Int)) : SmI s w (k + 1) (wr.setCell ⟨w.heap.size, k, none⟩ (.int .u8 z)) := by
  refine ⟨fun j hj => ?_, fun j hj => ?_, h.bel.setCell (Nat.le_refl _) _⟩
  · by_cases e : j = k
    · subst e
      rw [World.cell?_setCell_same _ _ _ (h.cell j hj), if_pos (by omega), lowB_I, hz]
    · rw [World.cell?_setCell_other _ _ _ _ (by intro h2; simp only [Addr.mk.injEq] at h2; omega), h.cell j hj]
      by_cases e2 : j < k
      · rw [if_pos e2, if_pos (by omega)]
      · rw [if_neg e2, if_neg (by omega)]
  · rw [World.frozen?_setCell]; exact h.fro j hj
set_option maxRecDepth 100000 in
theorem small_any (s : ByteArray) (hs : s.size ≤ 281474976710656) (w : World) : Calls Tryd.prog 55 #[.string s] w fun e w' => e = .returned (.string (smallA s)) ∧ Below w.heap.size w w' := by
  have hconv := run_bytes_of_string (P := Tryd.prog) w 9 47 5 s (by kernel_rfl) (by kernel_rfl) (by kernel_rfl)
  have hI : SmI s w 0 (w.drew.alloc (.cells (bytesRow s (grownCap w s.size 0 5)) 5 ((bytesRow s (grownCap w s.size 0 5)).size, (bytesRow s (grownCap w s.size 0 5)).size + 1))) := by
    have e1 : w.drew.heap.size = w.heap.size := by simp
    refine ⟨fun j hj => ?_, fun j hj => ?_, ((Below.refl _ _).drew).alloc (by simp) _⟩
    · rw [if_neg (by omega)]
      rw [← e1, World.cell?_alloc_mark, bytesRow_at s _ j hj]
      rfl
    · rw [← e1, World.frozen?_alloc_mark]
      have : j < (bytesRow s (grownCap w s.size 0 5)).size := by
        have := bytesRow_at s (grownCap w s.size 0 5) j hj
        exact (Array.getElem?_eq_some_iff.1 this).1
      rw [decide_eq_false (by omega)]; rfl
  generalize (w.drew.alloc (.cells (bytesRow s (grownCap w s.size 0 5)) 5 ((bytesRow s (grownCap w s.size 0 5)).size, (bytesRow s (grownCap w s.size 0 5)).size + 1))) = w1 at *
  generalize grownCap w s.size 0 5 = cap at *
  have HI := Lib.hid hI
  clear hI
  go_enter Tryd.func55, Tryd.ntmps55
  go_wp2
  go_loopw [10] (fun u10 wr => ∃ k : Nat, u10 = .int .i64 (k : Int) ∧ k ≤ s.size ∧ SmI s w k wr) (fun u10 _ => s.size - (match u10 with | .int _ k => k.toNat | _ => 0))
  case atStart => exact ⟨0, rfl, Nat.zero_le _, HI.out⟩
  case round =>
    obtain ⟨k, rfl, hks, hS⟩ := hrel
    clear HI hconv
    have HS := Lib.hid hS
    clear hS
    by_cases hk : k < s.size
    · have lw : Hid ((k : Int) + 1 = ((k + 1 : Nat) : Int)) := Lib.hid (by omega)
      obtain ⟨z, hz⟩ : ∃ z : Int, ((s[k]'hk).toNat : Int) = z := ⟨_, rfl⟩
      have hc : wr.cell? ⟨w.heap.size, k, none⟩ = some (.int .u8 z) := by
        have := HS.out.cell k hk
        rwa [if_neg (by omega), hz] at this
      have hf : wr.frozen? ⟨w.heap.size, k, none⟩ = false := HS.out.fro k hk
      have lk : (k : Int) < (s.size : Int) := by omega
      have l0 : (0 : Int) ≤ (k : Int) := by omega
      have HZ := Lib.hid hz
      clear hz
      by_cases h1 : 65 ≤ z ∧ z ≤ 90
      · obtain ⟨ha, hb⟩ := h1
        have s1 : IntKind.u8.wrap (z - 65) = z - 65 := IntWalk.u8_in _ (by omega)
        have s2 : IntKind.u8.wrap (z - 65 + 97) = z - 65 + 97 := IntWalk.u8_in _ (by omega)
        go_wp2
        refine ⟨⟨k + 1, by rw [lw.out], by omega, HS.out.put hk _ (by rw [HZ.out]; unfold lowI; rw [if_pos ⟨ha, hb⟩]; omega)⟩, ?_⟩
        rw [lw.out]; simp only [Int.toNat_natCast]; omega
      · by_cases h2 : 65 ≤ z
        · have h3 : ¬ (z ≤ 90) := by omega
          clear h1
          go_wp2
          refine ⟨⟨k + 1, by rw [lw.out], by omega, HS.out.keep hk (by rw [HZ.out]; unfold lowI; rw [if_neg (by omega)])⟩, ?_⟩
          rw [lw.out]; simp only [Int.toNat_natCast]; omega
        · clear h1
          go_wp2
          refine ⟨⟨k + 1, by rw [lw.out], by omega, HS.out.keep hk (by rw [HZ.out]; unfold lowI; rw [if_neg (by omega)])⟩, ?_⟩
          rw [lw.out]; simp only [Int.toNat_natCast]; omega
    · have lk : ¬ ((k : Int) < (s.size : Int)) := by omega
      have hks2 : k = s.size := by omega
      have hback := run_convert_bytes_back (P := Tryd.prog) wr 47 9 5 ⟨w.heap.size, 0, none⟩ cap (s.data.toList.map lowB) (by kernel_rfl) (by kernel_rfl) (by kernel_rfl) (fun j hj => by
        have hj2 : j < s.size := by rw [Lib.size_eq]; simpa using hj
        have := HS.out.cell j hj2
        rw [if_pos (by omega)] at this
        have ea : (⟨w.heap.size, 0, none⟩ : Addr).add j = ⟨w.heap.size, j, none⟩ := by simp [Addr.add]; exact fun h => h.symm
        rw [ea, this, List.getElem_map]
        rfl)
      rw [List.length_map, ← Lib.size_eq] at hback
      clear hks2
      go_wp2
      go_ret
      exact ⟨rfl, HS.out.bel⟩
theorem word_no (s : ByteArray) (w : World) (h0 : rowL letB s.data.toList = 0) :
    Calls Tryd.prog 29 #[.string s] w fun e w' => e = .returned (pcV 0 ⟨#[]⟩ 0) ∧ Below w.heap.size w w' := by
  have hr := fun w => row_letter letN letB true (Lib.hid kin_let) s w (Lib.hid (weak_ let_any))
  simp only [h0] at hr
  have HR := Lib.hid hr
  clear hr h0
  go_enter Tryd.func29, Tryd.ntmps29
  go_wp2_with (go_at_call 49; refine (HR.out _).mono ?_; rintro e w1 ⟨rfl, hb1⟩; obtain ⟨hcc, hff⟩ := bcell hb1)
  have hB : Below w.heap.size w w1 := ((Below.refl _ _).alloc (Nat.le_refl _) _).trans (hb1.mono (by simp))
  refine bodyPost_ret (v := pcV 0 ⟨#[]⟩ 0) (by simp [results, Tryd.results29, go_sem, hcc, hff]) rfl ?_
  refine ⟨rfl, ((hB.setCell ?_ _).setCell ?_ _).setCell ?_ _⟩ <;> exact Nat.le_refl _
theorem word_yes (s : ByteArray) (w : World) (hs : s.size ≤ 281474976710656) (h0 : rowL letB s.data.toList ≠ 0) :
    Calls Tryd.prog 29 #[.string s] w fun e w' => e = .returned (pcV 1 (smallA (s.extract 0 (rowL wordB s.data.toList))) (rowL wordB s.data.toList : Nat)) ∧ Below w.heap.size w w' := by
  have hr := fun w => row_letter letN letB true (Lib.hid kin_let) s w (Lib.hid (weak_ let_any))
  have hq := fun w => row_word wordN wordB true (Lib.hid kin_word) s w (Lib.hid (weak_ word_any))
  obtain ⟨n, hn⟩ : ∃ n, rowL wordB s.data.toList = n := ⟨_, rfl⟩
  obtain ⟨m, hm⟩ : ∃ m, rowL letB s.data.toList = m := ⟨_, rfl⟩
  have hle : n ≤ s.size := by rw [← hn, Lib.size_eq]; exact rowL_le _ _
  rw [hn]
  simp only [hn] at hq
  simp only [hm] at hr
  rw [hm] at h0
  have hc := fun w => small_any (s.extract 0 n) (by rw [ByteArray.size_extract]; omega) w
  have HR := Lib.hid hr
  have HQ := Lib.hid hq
  have HC := Lib.hid hc
  clear hr hq hn hm hc hs
  have c0 : ((m : Int) == 0) = false := by rw [beq_eq_false_iff_ne]; omega
  have c1 : (0 : Int) ≤ (n : Int) := by omega
  have c2 : (n : Int) ≤ (s.size : Int) := by omega
  clear h0
  go_enter Tryd.func29, Tryd.ntmps29
  go_wp2_with (first
    | (go_at_call 49; (with_reducible refine (HR.out _).mono ?_); rintro e w1 ⟨rfl, hb1⟩; have F1 := (Own3.new w).step hb1; clear hb1; obtain ⟨hB, hL, k0, k1, k2, f0, f1, f2⟩ := id F1)
    | (go_at_call 49; (with_reducible refine (HQ.out _).mono ?_); rintro e w2 ⟨rfl, hb2⟩; have F2 := F1.step hb2; clear hb2 hB hL k0 k1 k2 f0 f1 f2; obtain ⟨hB, hL, k0, k1, k2, f0, f1, f2⟩ := id F2)
    | (go_at_call 55; (with_reducible refine (HC.out _).mono ?_); rintro e w3 ⟨rfl, hb3⟩; have F3 := F2.step hb3; clear hb3 hB hL k0 k1 k2 f0 f1 f2; obtain ⟨hB, hL, k0, k1, k2, f0, f1, f2⟩ := id F3))
  refine bodyPost_ret (v := pcV 1 (smallA (s.extract 0 n)) (n : Nat)) (by simp [results, Tryd.results29, go_sem, k0, k1, k2]) rfl ?_
  refine ⟨rfl, ((hB.setCell ?_ _).setCell ?_ _).setCell ?_ _⟩ <;> exact Nat.le_refl _
end Go.Proofs.YtlmgggipkdmdfaaDoor
