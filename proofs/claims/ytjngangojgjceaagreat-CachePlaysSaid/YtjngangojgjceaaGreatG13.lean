/- Package expiry's queue: what it tells. Conditions: how long keys are, how many.
   Package expiry: New, Drop. Conditions: how long keys are, how many. -/
import Derived.Test.YtjngangojgjceaaGreatG11
set_option linter.unusedSimpArgs false
set_option linter.unusedVariables false
namespace Go.Proofs.YtjngangojgjceaaGreat.EX
open Go.ChangeShapes Go.WideShapes Go.ChangeAt Go.RowKit Go.Maps Go.ChangeMaps
open Go.Proofs.YtjngangojgjceaaGreat.SL Go.Proofs.YtjngangojgjceaaGreat.RW
set_option maxRecDepth 100000
set_option linter.unusedVariables false
set_option linter.unusedSimpArgs false

theorem qinfo : ∃ j, Tryz.prog.info? 129 = some j := Option.isSome_iff_exists.1 (by kernel_rfl)
theorem eql_same (w : World) (a : Addr) : (binOp .eql 59 (.pointer (some a)) (.pointer (some a))).run Tryz.prog w = .ok (.bool true) w := by
  obtain ⟨j, hj⟩ := qinfo
  exact run_eql_ptr_same (P := Tryz.prog) w a Tryz.underlying59 hj
theorem eql_none (w : World) (a : Addr) : (binOp .eql 59 (.pointer none) (.pointer (some a))).run Tryz.prog w = .ok (.bool false) w := by
  have h : ∀ d : Nat, (Op.equalIn (d + 1) 59 (.pointer none) (.pointer (some a))).run Tryz.prog w = .ok false w := fun d => by
    simp [Op.equalIn, run_underlying Tryz.underlying59]
  simp only [binOp]
  simp [Op.equal, Op.maxDepth, h 9999]
theorem given_yes (w : World) (g : Nat) (h : w.cell? ⟨g, 0, none⟩ = some (ptr g)) :
    Calls Tryz.prog 71 #[ptr g] w fun e w' => e = .returned (.bool true) ∧ w = w' := by
  have he := fun w => eql_same w ⟨g, 0, none⟩
  go_enter Tryz.func71, Tryz.ntmps71
  go_wp2
  go_ret
  exact ⟨rfl, rfl⟩
theorem given_nil (w : World) :
    Calls Tryz.prog 71 #[.pointer none] w fun e w' => e = .returned (.bool false) ∧ w = w' := by
  go_enter Tryz.func71, Tryz.ntmps71
  go_wp2
  go_ret
  exact ⟨rfl, rfl⟩
theorem given_zero (w : World) (g : Nat) (h : w.cell? ⟨g, 0, none⟩ = some (.pointer none)) :
    Calls Tryz.prog 71 #[ptr g] w fun e w' => e = .returned (.bool false) ∧ w = w' := by
  have he := fun w => eql_none w ⟨g, 0, none⟩
  go_enter Tryz.func71, Tryz.ntmps71
  go_wp2
  go_ret
  exact ⟨rfl, rfl⟩
def FinP (o : Option Et) (w : World) (e : Ending) (w' : World) : Prop := e = .returned (.tuple #[eV (o.getD zE), .bool o.isSome]) ∧ Below w.heap.size w w'
set_option maxHeartbeats 2000000 in
theorem find_any (w : World) (B g n : Nat) (x : Qx) (h : QT B w g n x) (k : ByteArray) (hk : k.size ≤ 281474976710656) :
    Calls Tryz.prog 83 #[ptr g, .string k] w (FinP (fnd k x.L) w) := by
  obtain ⟨E, hE⟩ : ∃ E, (fnd k x.L).getD zE = E := ⟨_, rfl⟩
  obtain ⟨b, hb⟩ : ∃ b, (fnd k x.L).isSome = b := ⟨_, rfl⟩
  unfold FinP
  rw [hE, hb]
  obtain ⟨ek, ea, es⟩ := E
  obtain ⟨W1, hW1⟩ : ∃ W, w.alloc (.cells #[.string ⟨#[]⟩, .int .i64 0, .int .i64 0] 131) = W := ⟨_, rfl⟩
  obtain ⟨rb, hrb⟩ : ∃ b, w.heap.size = b := ⟨_, rfl⟩
  have hb1 : Below w.heap.size w W1 := by rw [← hW1]; exact (Below.refl _ _).alloc (Nat.le_refl _) _
  have kr : Bk W1 rb 131 #[.string ByteArray.empty, .int .i64 0, .int .i64 0] := by rw [← hW1, ← hrb]; exact Bk.new _ _ _
  obtain ⟨c0, c1, c2, c3, c4⟩ := (h.below hb1).cells
  have hlk := (h.below hb1).mp.look k hk
  rw [hE, hb] at hlk
  have HB1 := Lib.hid hb1
  have KR := Lib.hid kr
  have HRB : Hid (w.heap.size = rb) := Lib.hid hrb
  clear h hk hE hb hb1 kr c1 c3 c4
  go_enter Tryz.func83, Tryz.ntmps83
  go_wp2_with fail
  refine (given_yes _ g c0).mono ?_
  rintro e w' ⟨rfl, rfl⟩
  have hkW : Bk (W1.alloc (.cells #[.string ek, .int .i64 ea, .int .i64 es] 131)) rb 131 #[.string ⟨#[]⟩, .int .i64 0, .int .i64 0] := KR.out.alloc _
  have HKW := Lib.hid hkW
  have r0 := hkW.cell 0
  have r1 := hkW.cell 1
  have r2 := hkW.cell 2
  have f0 := hkW.frozen 0
  have f1 := hkW.frozen 1
  have f2 := hkW.frozen 2
  clear hkW
  go_wp2_with fail
  have k0 := ((HKW.out.set_ 0 (.string ek)).set_ 1 (.int .i64 ea)).set_ 2 (.int .i64 es)
  have hb3 := (((HB1.out.alloc HB1.out.size (.cells #[.string ek, .int .i64 ea, .int .i64 es] 131)).setCell (p := ⟨rb, 0, none⟩) (by have := HRB.out; show w.heap.size ≤ rb; omega) (.string ek)).setCell (p := ⟨rb, 1, none⟩) (by have := HRB.out; show w.heap.size ≤ rb; omega) (.int .i64 ea)).setCell (p := ⟨rb, 2, none⟩) (by have := HRB.out; show w.heap.size ≤ rb; omega) (.int .i64 es)
  obtain ⟨W3, hW3⟩ : ∃ W, (((W1.alloc (.cells #[.string ek, .int .i64 ea, .int .i64 es] 131)).setCell ⟨rb, 0, none⟩ (.string ek)).setCell ⟨rb, 1, none⟩ (.int .i64 ea)).setCell ⟨rb, 2, none⟩ (.int .i64 es) = W := ⟨_, rfl⟩
  rw [hW3] at k0 hb3 ⊢
  have e0 : W3.cell? ⟨rb, 0, none⟩ = some (.string ek) := k0.cell 0
  have e1 : W3.cell? ⟨rb, 1, none⟩ = some (.int .i64 ea) := k0.cell 1
  have e2 : W3.cell? ⟨rb, 2, none⟩ = some (.int .i64 es) := k0.cell 2
  exact bodyPost_ret (v := .tuple #[eV (ek, ea, es), .bool b]) (by simp [results, Tryz.results83, go_sem, e0, e1, e2]) rfl ⟨rfl, hb3⟩
def AtV (o : Option Et) : Value := .tuple #[.int .i64 (o.getD zE).2.1, .bool o.isSome]
set_option maxHeartbeats 2000000 in
theorem at_any (w : World) (B g n : Nat) (x : Qx) (h : QT B w g n x) (k : ByteArray) (hk : k.size ≤ 281474976710656) (v : Value) (hv : AtV (fnd k x.L) = v) :
    Calls Tryz.prog 46 #[ptr g, .string k] w fun e w' => e = .returned v ∧ Below w.heap.size w w' := by
  subst hv
  have HF := Lib.hid (find_any w B g n x h k hk)
  unfold FinP AtV at *
  obtain ⟨E, hE⟩ : ∃ E, (fnd k x.L).getD zE = E := ⟨_, rfl⟩
  obtain ⟨b, hb⟩ : ∃ b, (fnd k x.L).isSome = b := ⟨_, rfl⟩
  rw [hE, hb] at HF ⊢
  obtain ⟨ek, ea, es⟩ := E
  clear h hk hE hb
  go_enter Tryz.func46, Tryz.ntmps46
  go_wp2_with fail
  refine HF.out.mono ?_
  rintro e w2 ⟨rfl, hb2⟩
  have HB2 := Lib.hid hb2
  clear hb2
  go_wp2
  go_ret2
  exact ⟨rfl, HB2.out.alloc HB2.out.size _⟩
def NexV (o : Option Et) : Value := .tuple #[.int .i64 (match o with | some e => e.2.1 | none => 0), .bool o.isSome]
end Go.Proofs.YtjngangojgjceaaGreat.EX
namespace Go.Proofs.YtjngangojgjceaaGreat.EX
open Go.ChangeShapes Go.WideShapes Go.ChangeAt Go.RowKit Go.Maps Go.ChangeMaps
open Go.Proofs.YtjngangojgjceaaGreat.SL Go.Proofs.YtjngangojgjceaaGreat.RW
set_option maxRecDepth 100000
set_option linter.unusedVariables false
set_option linter.unusedSimpArgs false

def MadQ (n m ob : Nat) (w : World) (e : Ending) (w' : World) : Prop :=
  ∃ g, e = .returned (ptr g) ∧ Bk w' g 129 #[ptr g, .int .i64 (n : Int), .map (some m), .slice (some ⟨ob, 0, none⟩) 1 1] ∧ w.heap.size ≤ g ∧ Below w.heap.size w w'
set_option maxHeartbeats 2000000 in
theorem made_any (w : World) (n m ob : Nat) :
    Calls Tryz.prog 63 #[.int .i64 (n : Int), .map (some m), .slice (some ⟨ob, 0, none⟩) 1 1] w (MadQ n m ob w) := by
  go_enter Tryz.func63, Tryz.ntmps63
  go_wp2
  go_ret
  refine ⟨w.heap.size, rfl, ?_, Nat.le_refl _, ?_⟩
  · first | exact (Bk.new w _ _).set_ 0 _ | exact Bk.new w _ _
  · first | exact ((Below.refl _ _).alloc (Nat.le_refl _) _).setCell (p := ⟨w.heap.size, 0, none⟩) (Nat.le_refl _) _ | exact (Below.refl _ _).alloc (Nat.le_refl _) _
theorem empty_any (w : World) :
    Calls Tryz.prog 64 #[] w fun e w' => e = .returned (.slice (some ⟨w.heap.size, 0, none⟩) 1 1) ∧ w' = w.alloc (.cells #[.slice none 0 0] 168) := by
  go_enter Tryz.func64, Tryz.ntmps64
  go_wp2
  go_ret
  exact ⟨rfl, rfl⟩
def NewQ (B : Nat) (w : World) (e : Ending) (w' : World) : Prop := ∃ g x, e = .returned (ptr g) ∧ QT B w' g 0 x ∧ x.L = [] ∧ (∀ b, x.own g b → w.heap.size ≤ b) ∧ Below w.heap.size w w'
set_option maxHeartbeats 2000000 in
theorem new_any (w : World) (B : Nat) (hB : B ≤ w.heap.size) : Calls Tryz.prog 28 #[] w (NewQ B w) := by
  have hmm := @run_makeMap Tryz.prog
  go_enter Tryz.func28, Tryz.ntmps28
  go_wp2_with fail
  obtain ⟨W1, hW1⟩ : ∃ W, w.alloc (.map #[] 0) = W := ⟨_, rfl⟩
  have m1 : MapF W1 w.heap.size 0 (fun _ => none) 0 := by rw [← hW1]; exact MapF.made w
  have b1 : Below w.heap.size w W1 := by rw [← hW1]; exact (Below.refl _ _).alloc (Nat.le_refl _) _
  rw [hW1]
  have M1 := Lib.hid m1
  have B1 := Lib.hid b1
  clear hW1 m1 b1
  refine (empty_any W1).mono ?_
  rintro e w2 ⟨rfl, hw2⟩
  have hb2 : Below W1.heap.size W1 w2 := by rw [hw2]; exact (Below.refl _ _).alloc (Nat.le_refl _) _
  have ko : Bk w2 W1.heap.size 168 #[.slice none 0 0] := by rw [hw2]; exact Bk.new _ _ _
  have KO := Lib.hid ko
  have M2 := Lib.hid (M1.out.below hb2)
  have B2 := Lib.hid (B1.out.trans (hb2.mono B1.out.size))
  have HS : Hid (w.heap.size ≤ W1.heap.size) := Lib.hid B1.out.size
  obtain ⟨ob, hob⟩ : ∃ b, W1.heap.size = b := ⟨_, rfl⟩
  rw [hob] at KO HS ⊢
  clear hw2 hb2 ko hob
  go_wp2_with fail
  refine (made_any w2 0 w.heap.size ob).mono ?_
  rintro e w3 ⟨g, rfl, kg, hg, hb3⟩
  have KG := Lib.hid kg
  have HG := Lib.hid hg
  have KO3 := Lib.hid (KO.out.below hb3)
  have M3 := Lib.hid (M2.out.below hb3)
  have B3 := Lib.hid (B2.out.trans (hb3.mono B2.out.size))
  have HS2 : Hid (w.heap.size ≤ w2.heap.size) := Lib.hid B2.out.size
  clear kg hg hb3
  go_wp2
  go_ret
  have h1 := HS.out
  have h2 := HS2.out
  have h3 := HG.out
  refine ⟨g, ⟨w.heap.size, ob, none, 0, []⟩, rfl, ⟨KG.out, KO3.out, EQ.nil _ _, M3.out, Srt.nil _, Nat.le_refl _, by omega, by show B ≤ w.heap.size; exact hB, by show B ≤ ob; omega⟩, rfl, fun b hb => ?_, B3.out⟩
  rcases hb with rfl | rfl | rfl | hb
  · omega
  · exact Nat.le_refl _
  · exact h1
  · cases hb
/-- what a step makes of a queue -/
def StepQ (B g n' : Nat) (x : Qx) (I : List It) (w w' : World) : Prop :=
  ∃ x', QT B w' g n' x' ∧ x'.L.map it = I ∧ (∀ b, x'.own g b → x.own g b ∨ w.heap.size ≤ b) ∧ Chg (x.own g) w w'
theorem QT.nob {B : Nat} {w : World} {g n : Nat} {x : Qx} (h : QT B w g n x) : g ≠ x.ob ∧ x.m ≠ g ∧ x.m ≠ x.ob ∧ x.v.ownBlock ≠ some g ∧ x.v.ownBlock ≠ some x.ob ∧ x.v.ownBlock ≠ some x.m := by
  refine ⟨h.bk.ne_ h.ko ty_qo, (bk_nomapF h.bk h.mp).symm, (bk_nomapF h.ko h.mp).symm, fun e => h.eq.off h.bk ty_qe g e rfl, fun e => h.eq.off h.ko ty_oe _ e rfl, fun e => ?_⟩
  obtain ⟨_, cur, fz, h9⟩ := h.eq.ty _ e
  obtain ⟨D, ⟨es, clock, hb, _⟩, _⟩ := h.mp
  rw [h9] at hb
  cases hb
theorem fnd_cut {k : ByteArray} {L : List Et} {e : Et} (h : fnd k L = some e) : ∃ A C, L = A ++ e :: C := List.append_of_mem (fnd_mem h).1
theorem fnd_out {n : Int} {A C : List Et} {e : Et} (h : Srt n (A ++ e :: C)) (y : ByteArray) : fnd y (A ++ C) = if y = e.1 then none else fnd y (A ++ e :: C) := by
  rw [← h.out.1, fnd_drop]
def DroQ (B g n : Nat) (x : Qx) (k : ByteArray) (w : World) (e : Ending) (w' : World) : Prop := e = .returned (.bool (fnd k x.L).isSome) ∧ StepQ B g n x (dropI k (x.L.map it)) w w'
set_option maxHeartbeats 4000000 in
theorem drop_no (w : World) (B g n : Nat) (x : Qx) (h : QT B w g n x) (k : ByteArray) (hk : k.size ≤ 281474976710656) (hf : fnd k x.L = none) :
    Calls Tryz.prog 51 #[ptr g, .string k] w (DroQ B g n x k w) := by
  have HF := Lib.hid (find_any w B g n x h k hk)
  have HH := Lib.hid h
  have hd : dropI k (x.L.map it) = x.L.map it := by rw [← it_dropL, dropL_no (fnd_none.1 hf)]
  unfold DroQ
  rw [hd, hf]
  unfold FinP at HF
  rw [hf] at HF
  clear h hk hf hd
  go_enter Tryz.func51, Tryz.ntmps51
  go_wp2_with fail
  refine HF.out.mono ?_
  rintro e w2 ⟨rfl, hb2⟩
  have HB2 := Lib.hid hb2
  clear hb2
  go_wp2
  go_ret
  have hb := HB2.out.alloc HB2.out.size (.cells #[.string ⟨#[]⟩, .int .i64 0, .int .i64 0] 131)
  exact ⟨rfl, x, HH.out.below hb, rfl, fun b hb => .inl hb, Chg.of_below hb⟩
set_option maxHeartbeats 8000000 in
theorem drop_yes (w : World) (B g n : Nat) (x : Qx) (h : QT B w g n x) (k : ByteArray) (hk : k.size ≤ 281474976710656) (e : Et) (hf : fnd k x.L = some e) (hn : n ≤ 500) (hB : B ≤ w.heap.size) :
    Calls Tryz.prog 51 #[ptr g, .string k] w (DroQ B g n x k w) := by
  have HF := Lib.hid (find_any w B g n x h k hk)
  obtain ⟨A, C, hL⟩ := fnd_cut hf
  have hek := (fnd_mem hf).2
  have hsr := h.sr
  rw [hL] at hsr
  have hout := hsr.out.1
  have hd : dropI k (x.L.map it) = (A ++ C).map it := by rw [← it_dropL, hL, ← hek, hout]
  unfold DroQ
  rw [hd, hf]
  unfold FinP at HF
  rw [hf] at HF
  have HH := Lib.hid h
  have HL := Lib.hid hL
  have HSR := Lib.hid hsr
  have HEK := Lib.hid hek
  have HN := Lib.hid hn
  have HB0 := Lib.hid hB
  have hkey := keyB k hk
  obtain ⟨ek, ea, es⟩ := e
  clear h hk hf hd hL hek hsr hout hn hB
  go_enter Tryz.func51, Tryz.ntmps51
  go_wp2_with fail
  refine HF.out.mono ?_
  rintro e w2 ⟨rfl, hb2⟩
  obtain ⟨W3, hW3⟩ : ∃ W, w2.alloc (.cells #[.string ek, .int .i64 ea, .int .i64 es] 131) = W := ⟨_, rfl⟩
  obtain ⟨eb, heb⟩ : ∃ b, w2.heap.size = b := ⟨_, rfl⟩
  have hb3 : Below w.heap.size w W3 := by rw [← hW3]; exact hb2.alloc hb2.size _
  have ke : Bk W3 eb 131 #[.string ek, .int .i64 ea, .int .i64 es] := by rw [← hW3, ← heb]; exact Bk.new _ _ _
  have HB3 := Lib.hid hb3
  have KE := Lib.hid ke
  have HEB : Hid (w.heap.size ≤ eb) := Lib.hid (by rw [← heb]; exact hb2.size)
  have h3 := HH.out.below hb3
  have H3 := Lib.hid h3
  obtain ⟨c0, c1, c2, c3, c4⟩ := h3.cells
  obtain ⟨D, hown, hd1, hd2, hd3⟩ := h3.mp
  have HOW := Lib.hid hown
  have HD1 := Lib.hid hd1
  have HD2 := Lib.hid hd2
  have HD3 := Lib.hid hd3
  clear hb2 hb3 ke h3 c0 c1 c3 c4 hown hd1 hd2 hd3
  go_wp2_with (at_delete; refine wpList_delete_own _ rfl _ _ 112 9 rfl 131 strK Tryz.underlying112 entE x.m n D rfl HOW.out _ _ rfl hkey ?_; intro w4 ho4 ht4)
  have hg4 := ht4.grown
  obtain ⟨n1, n2, n3, n4, n5, n6⟩ := H3.out.nob
  have hlen : x.L.length = (A ++ C).length + 1 := by rw [HL.out, List.length_append, List.length_append, List.length_cons]; omega
  have hm4 : MapF w4 x.m n (fun y => fnd y (A ++ C)) (A ++ C).length := by
    have := MapF.delD HOW.out HD1.out HD2.out (by rw [HD3.out, hlen]) (k := k) (by rw [HL.out]; show (fnd k (A ++ (ek, ea, es) :: C)).isSome = true; rw [show k = (ek, ea, es).1 from HEK.out.symm]; cases hx : fnd (ek, ea, es).1 (A ++ (ek, ea, es) :: C) with
      | none => exact absurd rfl (fnd_none.1 hx (ek, ea, es) (by simp))
      | some _ => rfl) ho4
    refine (show (fun x_1 => if x_1 = k then none else fnd x_1 x.L) = (fun y => fnd y (A ++ C)) from ?_) ▸ this
    funext y
    rw [fnd_out HSR.out y, HL.out, show k = ek from HEK.out.symm]
  have kg4 : Bk w4 g 129 (qC g n x) := Bk.grown H3.out.bk hg4 (fun q hq => by have hq2 : x.m = q := (by injection hq); rw [← hq2]; exact n2.symm)
  have ko4 : Bk w4 x.ob 168 #[x.v] := Bk.grown H3.out.ko hg4 (fun q hq => by have hq2 : x.m = q := (by injection hq); rw [← hq2]; exact n3.symm)
  have ke4 : Bk w4 eb 131 #[.string ek, .int .i64 ea, .int .i64 es] := Bk.grown KE.out hg4 (fun q hq => by have hq2 : x.m = q := (by injection hq); have := HH.out.mp.lt; have := HEB.out; omega)
  have he4 : EQ B w4 x.v (A ++ (ek, ea, es) :: C) := by
    have := H3.out.eq.keep (w' := w4) fun q hq => hg4.block q (H3.out.eq.lt q hq).2 (fun e => by have e2 : q = x.m := (by injection e); rw [e2] at hq; exact n6 hq)
    rw [HL.out] at this; exact this
  have hc4 : Chg (x.own g) w w4 := (Chg.of_below (S := x.own g) HB3.out).grown hg4 (fun q hq _ => by have hq2 : x.m = q := (by injection hq); exact .inr (.inl hq2.symm))
  have HM4 := Lib.hid hm4
  have KG4 := Lib.hid kg4
  have KO4 := Lib.hid ko4
  have KE4 := Lib.hid ke4
  have HE4 := Lib.hid he4
  have HC4 := Lib.hid hc4
  have HLE := Lib.hid hlen
  have e0 : w4.cell? ⟨eb, 0, none⟩ = some (.string ek) := ke4.cell 0
  have e1 : w4.cell? ⟨eb, 1, none⟩ = some (.int .i64 ea) := ke4.cell 1
  have e2 : w4.cell? ⟨eb, 2, none⟩ = some (.int .i64 es) := ke4.cell 2
  clear hm4 kg4 ko4 ke4 he4 hc4 hlen hg4 ho4 ht4 n1 n2 n3 n4 n5 n6 c2
  go_wp2_with fail
  try rw [heb]
  refine wp_region_held_drew (S := (fun w' => w'.cell? ⟨eb, 0, none⟩ = some (.string ek) ∧ w'.cell? ⟨eb, 1, none⟩ = some (.int .i64 ea) ∧ w'.cell? ⟨eb, 2, none⟩ = some (.int .i64 es))) (by kernel_rfl) ?_ (fun hS => ?_)
  · exact ⟨e0, e1, e2⟩
  refine tkY 0 ?_ rfl hS ?_ ?_
  rotate_left
  · intro wz hz
    obtain ⟨z0, z1, z2⟩ := hz
    go_simp
    all_goals first | with_reducible rfl | omega
  try simp only [Act.put, pu]
  refine tkY 1 ?_ rfl hS ?_ ?_
  rotate_left
  · intro wz hz
    obtain ⟨z0, z1, z2⟩ := hz
    go_simp
    all_goals first | with_reducible rfl | omega
  try simp only [Act.put, pu]
  refine tkY 2 ?_ rfl hS ?_ ?_
  rotate_left
  · intro wz hz
    obtain ⟨z0, z1, z2⟩ := hz
    go_simp
    all_goals first | with_reducible rfl | omega
  try simp only [Act.put, pu]
  refine tkY 3 ?_ rfl hS ?_ ?_
  rotate_left
  · intro wz hz
    obtain ⟨z0, z1, z2⟩ := hz
    go_simp
    all_goals first | with_reducible rfl | omega
  try simp only [Act.put, pu]
  refine wpAnyH_ready (rs := [4]) (by kernel_rfl) (by simp) (AllReadyH.cons rfl (fun K' hK' => ?_) AllReadyH.nil)
  go_simp
  have hbd : Below w4.heap.size w4 w4.drew := (Below.refl _ _).drew
  refine (remove_any w4.drew B g x.ob x.v A C n (ek, ea, es) (qC g n x) (KG4.out.below hbd) rfl (KO4.out.below hbd) (HE4.out.below hbd) HSR.out (by have := HH.out.le; rw [HL.out] at this; have := HN.out; omega) (Nat.le_trans HB0.out HC4.out.size)).mono ?_
  rintro e w5 ⟨rfl, a5, c5, k5, q5, h5, o5⟩
  have hke : ¬ (eb = x.ob ∨ x.v.ownBlock = some eb) := by
    have h0 := HEB.out
    rintro (e | e)
    · have := HH.out.ko.lt; omega
    · have := (HH.out.eq.lt eb e).2; omega
  have ke5 := (KE4.out.below hbd).chg h5 hke
  have hSC := (show _ ∧ _ ∧ _ from ⟨ke5.cell 0, ke5.cell 1, ke5.cell 2⟩)
  have K5 := Lib.hid k5
  have Q5 := Lib.hid q5
  have H5 := Lib.hid h5
  have O5 := Lib.hid o5
  clear k5 q5 h5 o5 ke5 hke
  refine hK'.out _ _ ?_ (fun hSn => ?_)
  · exact hSC
  clear hK' K' hS
  have hS := hSn
  clear hSn
  try simp only [Act.put, pu]
  refine wpAnyH_done (by kernel_rfl) ?_ _
  clear hS
  clear e0 e1 e2
  go_wp2
  go_ret
  obtain ⟨n1, n2, n3, n4, n5, n6⟩ := HH.out.nob
  have hbd : Below w4.heap.size w4 w4.drew := (Below.refl _ _).drew
  refine ⟨rfl, ⟨x.m, x.ob, a5, c5, A ++ C⟩, ⟨?_, K5.out, Q5.out, ?_, HSR.out.sub ?_, ?_, HH.out.bs⟩, rfl, fun b hb => ?_, ?_⟩
  · exact (KG4.out.below hbd).chg H5.out (fun e => e.elim n1 (fun e => n4 e))
  · exact (HM4.out.below hbd).keep (H5.out.block _ (HM4.out.below hbd).lt (fun e => e.elim n3 (fun e => n6 e)))
  · exact List.Sublist.append (List.Sublist.refl _) (List.sublist_cons_self _ _)
  · have := HH.out.le; have := HLE.out; show (A ++ C).length ≤ n; omega
  · rcases hb with hb | hb | hb | hb
    · exact .inl (.inl hb)
    · exact .inl (.inr (.inl hb))
    · exact .inl (.inr (.inr (.inl hb)))
    · rcases O5.out b hb with h | h
      · exact .inl (.inr (.inr (.inr h)))
      · exact .inr (Nat.le_trans HC4.out.size h)
  · exact (HC4.out.drew).trans (H5.out.mono fun b _ hb => hb.elim (fun e => .inr (.inr (.inl e))) (fun e => .inr (.inr (.inr e))))
theorem drop_any (w : World) (B g n : Nat) (x : Qx) (h : QT B w g n x) (k : ByteArray) (hk : k.size ≤ 281474976710656) (hn : n ≤ 500) (hB : B ≤ w.heap.size) :
    Calls Tryz.prog 51 #[ptr g, .string k] w (DroQ B g n x k w) := by
  cases hf : fnd k x.L with
  | none => exact drop_no w B g n x h k hk hf
  | some e => exact drop_yes w B g n x h k hk e hf hn hB
end Go.Proofs.YtjngangojgjceaaGreat.EX
