/- What must come of fixed calls at layer 4 (known): it tells true. Condition: the word of bytealg. -/
import Derived.Test.YtlmgggipkdmdfaaDoorLyb
namespace Go.Proofs.YtlmgggipkdmdfaaDoor
open Go.ChangeShapes Go.WideShapes Go.ChangeAt Go.RowKit
set_option linter.unusedVariables false
set_option linter.unusedSimpArgs false

theorem TR.block {w : World} {h : Nat} {l : List Tok} {T : TypeId} (hb : w.heap[h]? = some (.cells (tokRow l).toArray T (0, 0))) : TR w (.slice (some ⟨h, 0, none⟩) l.length l.length) l := by
  refine .inr ⟨h, 0, l.length, rfl, Nat.le_refl _, fun i t hi => ?_⟩
  obtain ⟨a, b, c⟩ := tokRow_get l i t hi
  simp only [Nat.zero_add]
  refine ⟨?_, ?_, ?_⟩ <;> rw [Lib.cell_of_heap hb] <;> simpa using (by assumption)
theorem TR.inv {w : World} {v : Value} {l : List Tok} (h : TR w v l) (n : Nat) (hn : l.length = n) (hp : 0 < n) : ∃ g off cap, v = .slice (some ⟨g, off, none⟩) n cap ∧ n ≤ cap ∧ ∀ (i : Nat) (t : Tok), l[i]? = some t →
    w.cell? ⟨g, off + i * 3, none⟩ = some (.int .i64 t.1) ∧ w.cell? ⟨g, off + i * 3 + 1, none⟩ = some (.string t.2.1) ∧ w.cell? ⟨g, off + i * 3 + 2, none⟩ = some (.int .i64 t.2.2) := by
  subst hn
  rcases h with ⟨A, cap, _, rfl⟩ | ⟨g, off, cap, e, hc, hx⟩
  · simp at hp
  · exact ⟨g, off, cap, e, hc, hx⟩
def ScanQ (w : World) (v : Value) (r : List Tok) (w' : World) : Prop := TR w' v r ∧ Below w.heap.size w w'
theorem scan_out (s : ByteArray) (r : List Tok × Int × Int) (e : scanA s = r) (m : Int) (w : World) (hm : Wd m w) :
    Calls Tryd.prog 9 #[.string s] w fun e w' => ∃ v, e = .returned (.tuple #[v, .int .i64 r.2.1, .int .i64 r.2.2]) ∧ ScanQ w v r.1 w' := by
  subst e
  exact (scan_any s m w hm).mono fun e w' ⟨v, h1, h2, h3⟩ => ⟨v, h1, TR.own h2, h3⟩
theorem want_block (w : World) : (w.alloc (.cells #[.int .i64 1, .string ⟨#[115, 101, 108, 101, 99, 116]⟩, .int .i64 0, .int .i64 1, .string ⟨#[97, 36, 49]⟩, .int .i64 0, .int .i64 1, .string ⟨#[102, 114, 111, 109]⟩, .int .i64 0, .int .i64 2, .string ⟨#[84, 34, 120]⟩, .int .i64 0, .int .i64 5, .string ⟨#[44]⟩, .int .i64 0, .int .i64 3, .string ⟨#[105, 116, 39, 115]⟩, .int .i64 0, .int .i64 5, .string ⟨#[36, 49]⟩, .int .i64 0] 30)).heap[w.heap.size]? = some (.cells (tokRow knW).toArray 30 (0, 0)) := by
  show (w.heap.push _)[w.heap.size]? = _
  rw [Array.getElem?_push_size]
  rfl
theorem Wd.drewN {m : Int} {w : World} (h : Wd m w) (n : Nat) : Wd m (w.drewN n) := by unfold Wd at *; simpa [go_sem] using h
theorem show_k (v : Value) (m : Int) (w : World) (h : TR w v knL) (hm : Wd m w) :
    Calls Tryd.prog 14 #[v] w fun e w' => e = .returned (.string ⟨#[115, 101, 108, 101, 99, 116, 32, 97, 36, 49, 32, 102, 114, 111, 109, 32, 34, 84, 34, 34, 120, 34, 32, 44, 32, 39, 105, 116, 39, 39, 115, 39, 32, 36, 49]⟩) ∧ Below w.heap.size w w' := by
  have := show_any v knL m w (by decide) kn_small h hm
  rw [show (⟨(showL knL).toArray⟩ : ByteArray) = _ from kns_eq] at this
  exact this
theorem two_block (w : World) : (w.alloc (.cells #[.int .i64 5, .string ⟨#[59]⟩, .int .i64 0, .int .i64 1, .string ⟨#[97]⟩, .int .i64 0] 30)).heap[w.heap.size]? = some (.cells (tokRow [(5, ⟨#[59]⟩, 0), (1, ⟨#[97]⟩, 0)]).toArray 30 (0, 0)) := by
  show (w.heap.push _)[w.heap.size]? = _
  rw [Array.getElem?_push_size]
  rfl
theorem split_k (w : World) : Calls Tryd.prog 12 #[.slice (some ⟨w.heap.size, 0, none⟩) 2 2] (w.alloc (.cells #[.int .i64 5, .string ⟨#[59]⟩, .int .i64 0, .int .i64 1, .string ⟨#[97]⟩, .int .i64 0] 30))
    fun e w' => ∃ a c, e = .returned (.slice a 1 c) ∧ Below w.heap.size w w' := by
  have hz : ∀ t ∈ [((5 : Int), (⟨#[59]⟩ : ByteArray), (0 : Int)), (1, ⟨#[97]⟩, 0)], t.2.1.size ≤ 65536 := by
    intro t ht
    simp only [List.mem_cons, List.not_mem_nil, or_false] at ht
    rcases ht with rfl | rfl <;> decide
  refine (split_any _ [(5, ⟨#[59]⟩, 0), (1, ⟨#[97]⟩, 0)] _ (by decide) hz (TR.block (two_block w)) _ kn_split.symm).mono ?_
  rintro e w' ⟨v, rfl, hL, hb⟩
  obtain ⟨a, c, rfl⟩ := hL.form
  have hb4 : Below w.heap.size w (w.alloc (.cells #[.int .i64 5, .string ⟨#[59]⟩, .int .i64 0, .int .i64 1, .string ⟨#[97]⟩, .int .i64 0] 30)) := (Below.refl _ _).alloc (Nat.le_refl _) _
  exact ⟨a, c, rfl, hb4.trans (hb.mono hb4.size)⟩
set_option maxHeartbeats 4000000 in
set_option maxRecDepth 100000 in
theorem known_any (m : Int) (w : World) (hm : Wd m w) :
    Calls Tryd.prog 8 #[] w fun e w' => e = .returned (.bool true) ∧ Below w.heap.size w w' := by
  have K1 := fun w1 h => scan_out kn1 _ kn1_eq m w1 h
  have K2 := fun w1 h => scan_out kn2 _ kn2_eq m w1 h
  have K3 := fun w1 h => scan_out kn3 _ kn3_eq m w1 h
  have HM := Lib.hid hm
  clear hm
  go_enter Tryd.func8, Tryd.ntmps8
  go_wp2_with fail
  refine (K1 _ HM.out).mono ?_
  rintro e w1 ⟨v1, rfl, ht1, hb1⟩
  have HM1 := Lib.hid (HM.out.below hb1)
  obtain ⟨g1, o1, c1, rfl, hc1, hx1⟩ := ht1.inv 7 rfl (by omega)
  have HT1 := Lib.hid ht1
  have HB1 := Lib.hid hb1
  obtain ⟨t3, ht3, hat3⟩ := kn_at
  have hcell := (hx1 3 t3 ht3).2.2
  rw [hat3] at hcell
  clear ht1 hb1 hx1 ht3 hat3
  go_wp2_with fail
  refine (K2 _ HM1.out).mono ?_
  rintro e w2 ⟨v2, rfl, ht2, hb2⟩
  have HB2 := Lib.hid hb2
  have HM2 := Lib.hid (HM1.out.below hb2)
  clear ht2 hb2
  go_wp2_with fail
  refine (K3 _ HM2.out).mono ?_
  rintro e w3 ⟨v3, rfl, ht3, hb3⟩
  have HB3 := Lib.hid hb3
  have HM3 := Lib.hid (HM2.out.below hb3)
  clear ht3 hb3
  go_wp2_with fail
  have hb4 : Below w3.heap.size w3 (w3.alloc (.cells #[.int .i64 1, .string ⟨#[115, 101, 108, 101, 99, 116]⟩, .int .i64 0, .int .i64 1, .string ⟨#[97, 36, 49]⟩, .int .i64 0, .int .i64 1, .string ⟨#[102, 114, 111, 109]⟩, .int .i64 0, .int .i64 2, .string ⟨#[84, 34, 120]⟩, .int .i64 0, .int .i64 5, .string ⟨#[44]⟩, .int .i64 0, .int .i64 3, .string ⟨#[105, 116, 39, 115]⟩, .int .i64 0, .int .i64 5, .string ⟨#[36, 49]⟩, .int .i64 0] 30)) := (Below.refl _ _).alloc (Nat.le_refl _) _
  have hT4 := ((HT1.out.below HB2.out).below HB3.out).below hb4
  have hW4 := TR.block (l := knW) (want_block w3)
  refine (same_yes _ _ knL knW false _ hT4 hW4 (by decide) kn_alike).mono ?_
  rintro e w5 ⟨rfl, nq, rfl⟩
  have HB4 := Lib.hid hb4
  have HM4 := Lib.hid (HM3.out.below hb4)
  have HT4 := Lib.hid hT4
  have hg1 : g1 < w1.heap.size := World.block_lt_of_cell? w1 _ hcell
  have hc4 := (hb4.cell (p := ⟨g1, o1 + 3 * 3 + 2, none⟩) (Nat.lt_of_lt_of_le hg1 (Nat.le_trans HB2.out.size HB3.out.size))).trans ((HB3.out.cell (p := ⟨g1, o1 + 3 * 3 + 2, none⟩) (Nat.lt_of_lt_of_le hg1 HB2.out.size)).trans ((HB2.out.cell (p := ⟨g1, o1 + 3 * 3 + 2, none⟩) hg1).trans hcell))
  have HB14 := Lib.hid (((HB1.out.trans (HB2.out.mono HB1.out.size)).trans (HB3.out.mono (Nat.le_trans HB1.out.size HB2.out.size))).trans (hb4.mono (Nat.le_trans HB1.out.size (Nat.le_trans HB2.out.size HB3.out.size))))
  clear hT4 hW4 hb4 hcell hg1
  generalize w3.alloc _ = w4 at *
  go_wp2_with fail
  refine (show_k _ m _ (HT4.out.drewN nq) (HM4.out.drewN nq)).mono ?_
  rintro e w6 ⟨rfl, hb6⟩
  have HB6 := Lib.hid (HB14.out.trans ((below_drewN_ (Below.refl _ _) nq).trans (hb6.mono (by show w.heap.size ≤ w4.heap.size; exact HB14.out.size))))
  clear hb6 hc4
  go_wp2_with fail
  refine (split_k w6).mono ?_
  rintro e w7 ⟨a7, c7, rfl, hb7⟩
  go_wp2
  go_ret
  exact ⟨rfl, HB6.out.trans (hb7.mono HB6.out.size)⟩
end Go.Proofs.YtlmgggipkdmdfaaDoor
