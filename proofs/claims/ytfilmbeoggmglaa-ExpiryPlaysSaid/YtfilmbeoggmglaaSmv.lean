/- The document's store for slru: Drop. Condition: how many. -/
import Derived.Test.YtfilmbeoggmglaaSmu
namespace Go.Proofs.Ytfilmbeoggmglaa.SL
open Go.ChangeShapes Go.WideShapes Go.ChangeAt Go.RowKit Go.Maps Go.ChangeMaps
set_option maxRecDepth 100000
set_option linter.unusedVariables false
set_option linter.unusedSimpArgs false

theorem rhas_to (w0 w : World) (g : Nat) (al ke mo : Int) (T K : List En) (h : RS w0 w g al ke mo T K) (hl : T.length ≤ 1073741824 ∧ K.length ≤ 1073741824) (k : ByteArray) (v : Value) (hv : HasV (hasS k T K) = v) :
    Calls Try.prog 20 #[ptr g, .string k] w fun e w' => e = .returned v ∧ ∃ n, w' = w.drewN n := by
  subst hv; exact rhas_any w0 w g al ke mo T K h hl k
theorem rwithout_to (v : Value) (l : List En) (k : ByteArray) (w : World) (h : ER w v l) (hl : l.length ≤ 1073741824) (R : List En) (hR : delE k l = R) :
    Calls Try.prog 51 #[v, .string k] w (EnsP w.heap.size w R) := by subst hR; exact rwithout_any v l k w h hl
theorem hasV_form (o : Option Int) : ∃ z, HasV o = .tuple #[.int .i64 z, .bool o.isSome] := by
  cases o with
  | none => exact ⟨_, rfl⟩
  | some z => exact ⟨_, rfl⟩
theorem EO.off {B g : Nat} {w : World} {v : Value} {l : List En} (h : EO B w v l) (hg : g < B) : ∀ q, v.ownBlock = some q → q ≠ g := fun q hq => by have := (World.ownsRow.lt h q hq).1; omega
set_option maxHeartbeats 4000000 in
theorem rdrop_to (w0 w : World) (g : Nat) (al ke mo : Int) (T K : List En) (h : RS w0 w g al ke mo T K) (hl : T.length ≤ 1073741824 ∧ K.length ≤ 1073741824) (k : ByteArray) (T2 K2 : List En) (b : Bool) (hT2 : delE k T = T2) (hK2 : delE k K = K2) (hb : (hasS k T K).isSome = b) :
    Calls Try.prog 17 #[ptr g, .string k] w fun e w' => e = .returned (.bool b) ∧ RS w0 w' g al ke mo T2 K2 ∧ Chg (fun b => b = g) w w' := by
  have HR := Lib.hid h
  obtain ⟨aT, cT, aK, cK, h1, h2, h3, h4, h5, h6, h7⟩ := h
  obtain ⟨z, hz⟩ := hasV_form (hasS k T K)
  rw [hb] at hz
  have HZ := Lib.hid hz
  have HL := Lib.hid hl
  have HT2 := Lib.hid hT2
  have HK2 := Lib.hid hK2
  have H1 := Lib.hid h1
  have H2 := Lib.hid h2
  have H3 := Lib.hid h3
  have H5 := Lib.hid h5
  have H7 := Lib.hid h7
  have q0 := h1.cell 0
  have q1 := h1.cell 1
  clear h1 h2 h3 h4 h5 h6 h7 hz hl hT2 hK2 hb
  go_enter Try.func17, Try.ntmps17
  go_wp2_with fail
  refine (rhas_to w0 w g al ke mo T K HR.out HL.out k _ HZ.out).mono ?_
  rintro e w1 ⟨rfl, n1, rfl⟩
  go_wp2_with fail
  refine (rwithout_to _ T k _ (H2.out.below (below_drewN _ _ n1)).er HL.out.1 T2 HT2.out).mono ?_
  rintro e w2 ⟨v2, c2, rfl, o2, b2⟩
  have hB2 : Below w.heap.size w w2 := (below_drewN w.heap.size w n1).trans b2
  have hr2 := (HR.out.below hB2).setT (o2.mono (Nat.le_trans H7.out.size (below_drewN w.heap.size w n1).size)) (o2.off (g := g) (by have := H1.out.lt; exact Nat.lt_of_lt_of_le this (below_drewN w.heap.size w n1).size))
  have hk2 := H1.out.below hB2
  have p0 := hk2.cell 0
  have p1 := hk2.cell 1
  have f0 := hk2.frozen 0
  have hk3 := (H3.out.below hB2).far (p := ⟨g, 0, none⟩) H5.out (.slice v2 T2.length c2)
  have hk4 := hk2.set_ 0 (.slice v2 T2.length c2)
  have HR2 := Lib.hid hr2
  have HC2 := Lib.hid ((Chg.of_below (S := fun b => b = g) hB2).setCell (p := ⟨g, 0, none⟩) rfl (.slice v2 T2.length c2))
  have HK3 := Lib.hid hk3
  have HK4 := Lib.hid hk4
  clear hr2 hk2 hk3 hk4 o2 b2 hB2 q0 q1
  go_wp2_with fail
  refine (rwithout_to _ K k _ HK3.out.er HL.out.2 K2 HK2.out).mono ?_
  rintro e w4 ⟨v4, c4, rfl, o4, b4⟩
  have hr4 := (HR2.out.below b4).setK (o4.mono HR2.out.bel.size) (o4.off (g := g) (by have := HK4.out.lt; exact this))
  have hk5 := HK4.out.below b4
  have p2 := hk5.cell 1
  have f2 := hk5.frozen 1
  have HR4 := Lib.hid hr4
  have HC4 := Lib.hid ((HC2.out.trans (Chg.of_below b4)).setCell (p := ⟨g, 1, none⟩) rfl (.slice v4 K2.length c4))
  clear hr4 hk5 o4 b4
  go_wp2
  go_ret
  exact ⟨rfl, HR4.out, HC4.out⟩
end Go.Proofs.Ytfilmbeoggmglaa.SL
