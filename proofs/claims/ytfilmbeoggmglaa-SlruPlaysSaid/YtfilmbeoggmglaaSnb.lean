/- The document's store for slru: Touch of what is there. Conditions: each key once, how large. -/
import Derived.Test.YtfilmbeoggmglaaSna
namespace Go.Proofs.Ytfilmbeoggmglaa.SL
open Go.ChangeShapes Go.WideShapes Go.ChangeAt Go.RowKit Go.Maps Go.ChangeMaps
set_option maxRecDepth 100000
set_option linter.unusedVariables false
set_option linter.unusedSimpArgs false

def TchP (w0 w : World) (g : Nat) (al ke mo : Int) (T9 K9 : List En) (G : List ByteArray) (e : Ending) (w' : World) : Prop :=
  ∃ v c, e = .returned (.tuple #[.slice v G.length c, .bool true]) ∧ OT w.heap.size w' (.slice v G.length c) G ∧ RS w0 w' g al ke mo T9 K9 ∧ Chg (fun b => b = g) w w'
set_option maxHeartbeats 8000000 in
theorem rtouch_big (w0 w : World) (g : Nat) (al ke mo : Int) (T0 K0 : List En) (h : RS w0 w g al ke mo T0 K0) (hl : T0.length ≤ 1073741824 ∧ K0.length ≤ 1073741824) (k : ByteArray) (z : Int) (hz : hasS k T0 K0 = some z) (p : Nat) (hp : placeE T0 k = some p) (hk : ke < z)
    (T1 K1 : List En) (hT1 : delE k T0 = T1) (hK1 : delE k K0 = K1) (hlT : T1.length ≤ 1073741824) :
    Calls Try.prog 15 #[ptr g, .string k] w (TchP w0 w g al ke mo ((k, z) :: T1) K1 []) := by
  have HR := Lib.hid h
  have HL := Lib.hid hl
  have HZ : Hid (HasV (hasS k T0 K0) = .tuple #[.int .i64 z, .bool true]) := Lib.hid (by rw [hz]; rfl)
  have HB : Hid ((hasS k T0 K0).isSome = true) := Lib.hid (by rw [hz]; rfl)
  have HP : Hid ((match placeE T0 k with | some i => (i : Int) | none => -1) = (p : Int)) := Lib.hid (by rw [hp])
  have HT1 := Lib.hid hT1
  have HK1 := Lib.hid hK1
  have HLT := Lib.hid hlT
  have dk : decide (ke < z) = true := decide_eq_true hk
  have dp : decide ((0 : Int) ≤ (p : Int)) = true := decide_eq_true (by omega)
  clear h hl hz hp hT1 hK1 hlT
  go_enter Try.func15, Try.ntmps15
  go_wp2_with fail
  refine (rhas_to w0 w g al ke mo T0 K0 HR.out HL.out k _ HZ.out).mono ?_
  rintro e w1 ⟨rfl, n1, hw1⟩
  have hb1 : Below w.heap.size w w1 := by rw [hw1]; exact below_drewN _ _ _
  have HB1 := Lib.hid hb1
  have HR1 := Lib.hid (HR.out.below hb1)
  clear hw1 hb1 HR
  obtain ⟨aT, cT, aK, cK, r1, r2, r3, r4, r5, r6, r7⟩ := HR1.out
  have HG := Lib.hid r1.lt
  have hbl : Below w1.heap.size w1 (w1.alloc (.cells #[.string k, .int .i64 z] 88)) := (Below.refl _ _).alloc (Nat.le_refl _) _
  have HER := Lib.hid (r2.below hbl).er
  have c0 := (r1.below hbl).cell 0
  have HRA := Lib.hid (HR1.out.below hbl)
  have HBA := Lib.hid hbl
  clear r1 r2 r3 r4 r5 r6 r7 hbl
  go_wp2_with fail
  refine (rplace_to _ T0 k _ HER.out HL.out.1 _ HP.out).mono ?_
  rintro e w2 ⟨rfl, n2, hw2⟩
  have hb2 : Below w1.heap.size w1 w2 := by rw [hw2]; exact HBA.out.trans (below_drewN _ _ _)
  have HB2 := Lib.hid hb2
  have HR2 := Lib.hid (HR1.out.below hb2)
  have kx2 : Bk w2 w1.heap.size 88 #[.string k, .int .i64 z] := by rw [hw2]; exact (Bk.new w1 _ _).below (below_drewN _ _ _)
  have KX2 := Lib.hid kx2
  clear hw2 hb2 kx2 c0 HER HRA HBA
  go_wp2_with fail
  refine (rdrop_to w0 w2 g al ke mo T0 K0 HR2.out HL.out k T1 K1 _ HT1.out HK1.out HB.out).mono ?_
  rintro e w3 ⟨rfl, hr3, hc3⟩
  have HR3 := Lib.hid hr3
  have HC3 := Lib.hid ((Chg.of_below (S := fun b => b = g) HB1.out).trans ((Chg.of_below (S := fun b => b = g) (HB2.out)).trans hc3))
  have hx3 := KX2.out.chg hc3 (fun e => by have := HG.out; omega)
  obtain ⟨aT3, cT3, aK3, cK3, r1, r2, r3, r4, r5, r6, r7⟩ := hr3
  have x0 := hx3.cell 0
  have x1 := hx3.cell 1
  have d0 := r1.cell 0
  have d1 := r1.cell 1
  have d3 := r1.cell 3
  have HX3 := Lib.hid hx3
  have HE3 := Lib.hid r2
  have HBK3 := Lib.hid r1
  clear r1 r2 r3 r4 r5 r6 r7 hc3 hx3 HR2 KX2
  go_wp2_with fail
  go_region_with (go_at_call 46; refine (rahead_to _ T1 (k, z) _ (HE3.out.er.below (show Below w3.heap.size w3 w3.drew from below_drewN _ _ 1)) HLT.out _ rfl).mono ?_; rintro e w4 ⟨v4, c4, rfl, o4, b4⟩; have hb4 : Below w3.heap.size w3 w4 := (show Below w3.heap.size w3 w3.drew from below_drewN _ _ 1).trans b4; have hk4 := HBK3.out.below hb4; have f4 := hk4.frozen 0; have s4 := hk4.cell 0; have HO4 := Lib.hid o4; have HB4 := Lib.hid hb4; clear hk4 o4 b4 hb4)
  all_goals
    go_wp2
    go_ret2
    have hr5 := (HR3.out.below HB4.out).setT (HO4.out.mono HR3.out.bel.size) (HO4.out.off (g := g) HBK3.out.lt)
    exact ⟨none, 0, rfl, OT.nil _ _, hr5, (HC3.out.trans (Chg.of_below HB4.out)).setCell (p := ⟨g, 0, none⟩) rfl _⟩
end Go.Proofs.Ytfilmbeoggmglaa.SL
