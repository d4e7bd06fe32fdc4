/- The law's own helper 'known' of layer 20 returns true: fixed calls of package back answer as they must; below the memory that was there nothing turns. -/
import Derived.Test.YtnjifbgjglniaaaBkx1
namespace Go.Proofs.Ytnjifbgjglniaaa.BK
open Go.Proofs.Ytnjifbgjglniaaa
open Go.ChangeShapes Go.WideShapes Go.ChangeAt Go.RowKit
set_option linter.unusedVariables false
set_option linter.unusedSimpArgs false
set_option maxRecDepth 100000
attribute [local go_sem ↓] Go.wp_at_zero Go.wp_at_succ

set_option maxHeartbeats 4000000 in
theorem known_any (w : World) : Calls Try.prog 8 #[] w fun e w' => e = .returned (.bool true) ∧ Below w.heap.size w w' := by
  have dZ := fun W => dec_lit 90 90 ⟨#[73]⟩ tZ 0 90 73 rfl k_Z (by decide) (fun _ _ _ => rfl) rfl rfl rfl W
  have dX := fun W => dec_lit 90 90 ⟨#[88]⟩ {} 4 0 0 rfl k_X (by decide) (fun _ _ _ => rfl) rfl rfl rfl W
  have dQ := fun W => dec_lit 81 81 ⟨#[]⟩ {} 5 0 0 rfl k_Q (by decide) (fun _ _ _ => rfl) rfl rfl rfl W
  go_enter Try.func8, Try.ntmps8
  go_wp2_with fail
  refine (dZ _).mono ?_; rintro e w1 ⟨A1, c1, A2, c2, A3, c3, rfl, ha, hB⟩
  have hbx := Blk.new w1 28 #[.int .u8 90, .int .u8 73, .string ⟨#[]⟩, .slice A1 0 c1, .slice A2 0 c2, .slice A3 0 c3, .int .i64 0, .int .i64 0]
  have ha := AR.grow ha (bel_alloc w1 (.cells #[.int .u8 90, .int .u8 73, .string ⟨#[]⟩, .slice A1 0 c1, .slice A2 0 c2, .slice A3 0 c3, .int .i64 0, .int .i64 0] 28))
  have hB := grow_ hB (bel_alloc w1 (.cells #[.int .u8 90, .int .u8 73, .string ⟨#[]⟩, .slice A1 0 c1, .slice A2 0 c2, .slice A3 0 c3, .int .i64 0, .int .i64 0] 28))
  go_wp2_with fail
  refine (dX _).mono ?_; rintro e w2 ⟨Px1, qx1, Px2, qx2, Px3, qx3, rfl, _, hb2⟩
  have hbx := hbx.below hb2 hbx.lt
  have ha := AR.grow ha hb2
  have hB := grow_ hB hb2
  have hbx := hbx.below (bel_alloc w2 (.cells #[.int .u8 0, .int .u8 0, .string ⟨#[]⟩, .slice Px1 0 qx1, .slice Px2 0 qx2, .slice Px3 0 qx3, .int .i64 0, .int .i64 0] 28)) hbx.lt
  have ha := AR.grow ha (bel_alloc w2 (.cells #[.int .u8 0, .int .u8 0, .string ⟨#[]⟩, .slice Px1 0 qx1, .slice Px2 0 qx2, .slice Px3 0 qx3, .int .i64 0, .int .i64 0] 28))
  have hB := grow_ hB (bel_alloc w2 (.cells #[.int .u8 0, .int .u8 0, .string ⟨#[]⟩, .slice Px1 0 qx1, .slice Px2 0 qx2, .slice Px3 0 qx3, .int .i64 0, .int .i64 0] 28))
  go_wp2_with fail
  refine (dQ _).mono ?_; rintro e w3 ⟨Py1, qy1, Py2, qy2, Py3, qy3, rfl, _, hb3⟩
  have hbx := hbx.below hb3 hbx.lt
  have ha := AR.grow ha hb3
  have hB := grow_ hB hb3
  have hbx := hbx.below (bel_alloc w3 (.cells #[.int .u8 0, .int .u8 0, .string ⟨#[]⟩, .slice Py1 0 qy1, .slice Py2 0 qy2, .slice Py3 0 qy3, .int .i64 0, .int .i64 0] 28)) hbx.lt
  have ha := AR.grow ha (bel_alloc w3 (.cells #[.int .u8 0, .int .u8 0, .string ⟨#[]⟩, .slice Py1 0 qy1, .slice Py2 0 qy2, .slice Py3 0 qy3, .int .i64 0, .int .i64 0] 28))
  have hB := grow_ hB (bel_alloc w3 (.cells #[.int .u8 0, .int .u8 0, .string ⟨#[]⟩, .slice Py1 0 qy1, .slice Py2 0 qy2, .slice Py3 0 qy3, .int .i64 0, .int .i64 0] 28))
  have hz3 : (w3.alloc (.cells #[.int .u8 0, .int .u8 0, .string ⟨#[]⟩, .slice Py1 0 qy1, .slice Py2 0 qy2, .slice Py3 0 qy3, .int .i64 0, .int .i64 0] 28)).heap.size = w3.heap.size + 1 := by simp
  have dD := ar_D (w3.alloc (.cells #[.int .u8 0, .int .u8 0, .string ⟨#[]⟩, .slice Py1 0 qy1, .slice Py2 0 qy2, .slice Py3 0 qy3, .int .i64 0, .int .i64 0] 28))
  rw [hz3] at dD
  go_wp2_with fail
  have hbx := hbx.below (bel_alloc (w3.alloc (.cells #[.int .u8 0, .int .u8 0, .string ⟨#[]⟩, .slice Py1 0 qy1, .slice Py2 0 qy2, .slice Py3 0 qy3, .int .i64 0, .int .i64 0] 28)) (.cells #[.string ⟨#[97, 98]⟩, .string ⟨#[]⟩] 9)) hbx.lt
  have ha := AR.grow ha (bel_alloc (w3.alloc (.cells #[.int .u8 0, .int .u8 0, .string ⟨#[]⟩, .slice Py1 0 qy1, .slice Py2 0 qy2, .slice Py3 0 qy3, .int .i64 0, .int .i64 0] 28)) (.cells #[.string ⟨#[97, 98]⟩, .string ⟨#[]⟩] 9))
  have hB := grow_ hB (bel_alloc (w3.alloc (.cells #[.int .u8 0, .int .u8 0, .string ⟨#[]⟩, .slice Py1 0 qy1, .slice Py2 0 qy2, .slice Py3 0 qy3, .int .i64 0, .int .i64 0] 28)) (.cells #[.string ⟨#[97, 98]⟩, .string ⟨#[]⟩] 9))
  have hbx := hbx.below (bel_alloc ((w3.alloc (.cells #[.int .u8 0, .int .u8 0, .string ⟨#[]⟩, .slice Py1 0 qy1, .slice Py2 0 qy2, .slice Py3 0 qy3, .int .i64 0, .int .i64 0] 28)).alloc (.cells #[.string ⟨#[97, 98]⟩, .string ⟨#[]⟩] 9)) (.cells #[.bool false, .bool true] 4)) hbx.lt
  have ha := AR.grow ha (bel_alloc ((w3.alloc (.cells #[.int .u8 0, .int .u8 0, .string ⟨#[]⟩, .slice Py1 0 qy1, .slice Py2 0 qy2, .slice Py3 0 qy3, .int .i64 0, .int .i64 0] 28)).alloc (.cells #[.string ⟨#[97, 98]⟩, .string ⟨#[]⟩] 9)) (.cells #[.bool false, .bool true] 4))
  have hB := grow_ hB (bel_alloc ((w3.alloc (.cells #[.int .u8 0, .int .u8 0, .string ⟨#[]⟩, .slice Py1 0 qy1, .slice Py2 0 qy2, .slice Py3 0 qy3, .int .i64 0, .int .i64 0] 28)).alloc (.cells #[.string ⟨#[97, 98]⟩, .string ⟨#[]⟩] 9)) (.cells #[.bool false, .bool true] 4))
  refine (enc_lit tD _ _ f_D dD 68 68 _ ⟨#[0, 2, 0, 0, 0, 2, 97, 98, 255, 255, 255, 255]⟩ 0 rfl rfl k_D).mono ?_; rintro e w4 ⟨rfl, hb4⟩
  have hbx := hbx.below (hb4) hbx.lt
  have ha := AR.grow ha (hb4)
  have hB := grow_ hB (hb4)
  have bnew := Blk.new w4 23 #[.int .u8 68, .string ⟨#[0, 2, 0, 0, 0, 2, 97, 98, 255, 255, 255, 255]⟩]
  have hbx := hbx.below (bel_alloc w4 (.cells #[.int .u8 68, .string ⟨#[0, 2, 0, 0, 0, 2, 97, 98, 255, 255, 255, 255]⟩] 23)) hbx.lt
  have ha := AR.grow ha (bel_alloc w4 (.cells #[.int .u8 68, .string ⟨#[0, 2, 0, 0, 0, 2, 97, 98, 255, 255, 255, 255]⟩] 23))
  have hB := grow_ hB (bel_alloc w4 (.cells #[.int .u8 68, .string ⟨#[0, 2, 0, 0, 0, 2, 97, 98, 255, 255, 255, 255]⟩] 23))
  have b7 := bnew
  clear bnew dD hb2 hb3 hb4 dZ dX dQ
  have hz4 : (w4.alloc (.cells #[.int .u8 68, .string ⟨#[0, 2, 0, 0, 0, 2, 97, 98, 255, 255, 255, 255]⟩] 23)).heap.size = w4.heap.size + 1 := by simp
  have dE := ar_E (w4.alloc (.cells #[.int .u8 68, .string ⟨#[0, 2, 0, 0, 0, 2, 97, 98, 255, 255, 255, 255]⟩] 23))
  rw [hz4] at dE
  go_wp2_with fail
  have hbx := hbx.below (bel_alloc (w4.alloc (.cells #[.int .u8 68, .string ⟨#[0, 2, 0, 0, 0, 2, 97, 98, 255, 255, 255, 255]⟩] 23)) (.cells #[.string ⟨#[77]⟩] 9)) hbx.lt
  have b7 := b7.below (bel_alloc (w4.alloc (.cells #[.int .u8 68, .string ⟨#[0, 2, 0, 0, 0, 2, 97, 98, 255, 255, 255, 255]⟩] 23)) (.cells #[.string ⟨#[77]⟩] 9)) b7.lt
  have ha := AR.grow ha (bel_alloc (w4.alloc (.cells #[.int .u8 68, .string ⟨#[0, 2, 0, 0, 0, 2, 97, 98, 255, 255, 255, 255]⟩] 23)) (.cells #[.string ⟨#[77]⟩] 9))
  have hB := grow_ hB (bel_alloc (w4.alloc (.cells #[.int .u8 68, .string ⟨#[0, 2, 0, 0, 0, 2, 97, 98, 255, 255, 255, 255]⟩] 23)) (.cells #[.string ⟨#[77]⟩] 9))
  have hbx := hbx.below (bel_alloc ((w4.alloc (.cells #[.int .u8 68, .string ⟨#[0, 2, 0, 0, 0, 2, 97, 98, 255, 255, 255, 255]⟩] 23)).alloc (.cells #[.string ⟨#[77]⟩] 9)) (.cells #[.string ⟨#[120]⟩] 9)) hbx.lt
  have b7 := b7.below (bel_alloc ((w4.alloc (.cells #[.int .u8 68, .string ⟨#[0, 2, 0, 0, 0, 2, 97, 98, 255, 255, 255, 255]⟩] 23)).alloc (.cells #[.string ⟨#[77]⟩] 9)) (.cells #[.string ⟨#[120]⟩] 9)) b7.lt
  have ha := AR.grow ha (bel_alloc ((w4.alloc (.cells #[.int .u8 68, .string ⟨#[0, 2, 0, 0, 0, 2, 97, 98, 255, 255, 255, 255]⟩] 23)).alloc (.cells #[.string ⟨#[77]⟩] 9)) (.cells #[.string ⟨#[120]⟩] 9))
  have hB := grow_ hB (bel_alloc ((w4.alloc (.cells #[.int .u8 68, .string ⟨#[0, 2, 0, 0, 0, 2, 97, 98, 255, 255, 255, 255]⟩] 23)).alloc (.cells #[.string ⟨#[77]⟩] 9)) (.cells #[.string ⟨#[120]⟩] 9))
  refine (enc_lit tE _ _ f_E dE 69 69 _ ⟨#[77, 120, 0, 0]⟩ 0 rfl rfl k_E).mono ?_; rintro e w5 ⟨rfl, hb5⟩
  have hbx := hbx.below (hb5) hbx.lt
  have b7 := b7.below (hb5) b7.lt
  have ha := AR.grow ha (hb5)
  have hB := grow_ hB (hb5)
  have bnew := Blk.new w5 23 #[.int .u8 69, .string ⟨#[77, 120, 0, 0]⟩]
  have hbx := hbx.below (bel_alloc w5 (.cells #[.int .u8 69, .string ⟨#[77, 120, 0, 0]⟩] 23)) hbx.lt
  have b7 := b7.below (bel_alloc w5 (.cells #[.int .u8 69, .string ⟨#[77, 120, 0, 0]⟩] 23)) b7.lt
  have ha := AR.grow ha (bel_alloc w5 (.cells #[.int .u8 69, .string ⟨#[77, 120, 0, 0]⟩] 23))
  have hB := grow_ hB (bel_alloc w5 (.cells #[.int .u8 69, .string ⟨#[77, 120, 0, 0]⟩] 23))
  have b9 := bnew
  clear bnew dE hb5
  have hz5 : (w5.alloc (.cells #[.int .u8 69, .string ⟨#[77, 120, 0, 0]⟩] 23)).heap.size = w5.heap.size + 1 := by simp
  have dB := tl_B (w5.alloc (.cells #[.int .u8 69, .string ⟨#[77, 120, 0, 0]⟩] 23))
  rw [hz5] at dB
  unfold cs2 at dB
  go_wp2_with fail
  have hbx := hbx.below (bel_alloc (w5.alloc (.cells #[.int .u8 69, .string ⟨#[77, 120, 0, 0]⟩] 23)) (.cells cs2 28)) hbx.lt
  have b7 := b7.below (bel_alloc (w5.alloc (.cells #[.int .u8 69, .string ⟨#[77, 120, 0, 0]⟩] 23)) (.cells cs2 28)) b7.lt
  have b9 := b9.below (bel_alloc (w5.alloc (.cells #[.int .u8 69, .string ⟨#[77, 120, 0, 0]⟩] 23)) (.cells cs2 28)) b9.lt
  have ha := AR.grow ha (bel_alloc (w5.alloc (.cells #[.int .u8 69, .string ⟨#[77, 120, 0, 0]⟩] 23)) (.cells cs2 28))
  have hB := grow_ hB (bel_alloc (w5.alloc (.cells #[.int .u8 69, .string ⟨#[77, 120, 0, 0]⟩] 23)) (.cells cs2 28))
  refine (bytes_lit _ _ dB).mono ?_; rintro e w6 ⟨rfl, hb6⟩
  have hbx := hbx.below (hb6) hbx.lt
  have b7 := b7.below (hb6) b7.lt
  have b9 := b9.below (hb6) b9.lt
  have ha := AR.grow ha (hb6)
  have hB := grow_ hB (hb6)
  clear dB hb6
  go_wp2_with fail
  refine (enc_lit tS _ _ f_S (ar_flat w6 tS rfl rfl rfl) 0 0 _ ⟨#[]⟩ 4 rfl rfl k_S).mono ?_; rintro e w7 ⟨rfl, hb7⟩
  have hbx := hbx.below (hb7) hbx.lt
  have b7 := b7.below (hb7) b7.lt
  have b9 := b9.below (hb7) b9.lt
  have ha := AR.grow ha (hb7)
  have hB := grow_ hB (hb7)
  have bnew := Blk.new w7 23 #[.int .u8 0, .string ⟨#[]⟩]
  have hbx := hbx.below (bel_alloc w7 (.cells #[.int .u8 0, .string ⟨#[]⟩] 23)) hbx.lt
  have b7 := b7.below (bel_alloc w7 (.cells #[.int .u8 0, .string ⟨#[]⟩] 23)) b7.lt
  have b9 := b9.below (bel_alloc w7 (.cells #[.int .u8 0, .string ⟨#[]⟩] 23)) b9.lt
  have ha := AR.grow ha (bel_alloc w7 (.cells #[.int .u8 0, .string ⟨#[]⟩] 23))
  have hB := grow_ hB (bel_alloc w7 (.cells #[.int .u8 0, .string ⟨#[]⟩] 23))
  clear bnew hb7
  have l1 := hbx.lt
  obtain ⟨x0, x1, x2, x3, x4, x5, x6, x7⟩ := Blk.all8 hbx
  go_wp2_with fail
  refine (same_yes _ tZ _ _ ha (ar_flat _ tZ rfl rfl rfl) f_Z.lens).mono ?_; rintro e w8 ⟨rfl, hb8⟩
  have hbx := hbx.below (hb8) hbx.lt
  have b7 := b7.below (hb8) b7.lt
  have b9 := b9.below (hb8) b9.lt
  have ha := AR.grow ha (hb8)
  have hB := grow_ hB (hb8)
  clear x0 x1 x2 x3 x4 x5 x6 x7 hb8
  obtain ⟨x0, x1, x2, x3, x4, x5, x6, x7⟩ := Blk.all8 hbx
  have y1 : w8.cell? ⟨w4.heap.size, 1, none⟩ = some (.string ⟨#[0, 2, 0, 0, 0, 2, 97, 98, 255, 255, 255, 255]⟩) := b7.cell 1
  have z1 : w8.cell? ⟨w5.heap.size, 1, none⟩ = some (.string ⟨#[77, 120, 0, 0]⟩) := b9.cell 1
  have HBB := Lib.hid hB
  go_wp2_with fail
  refine (right_Z _ _ ha).mono ?_; rintro e w9 ⟨rfl, hb9⟩
  have hfin := grow_ HBB.out hb9
  go_wp2
  go_ret
  exact ⟨rfl, hfin⟩
end Go.Proofs.Ytnjifbgjglniaaa.BK
