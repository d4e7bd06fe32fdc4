/- Package prep in a law: the known calls of layer 18. No condition. -/
import Derived.Test.YtkifmhdceobfhaaDoorPpm
namespace Go.Proofs.YtkifmhdceobfhaaDoor.PP
open Go.ChangeShapes Go.WideShapes Go.ChangeAt Go.RowKit Go.Maps Go.ChangeMaps
open Go.Proofs.YtkifmhdceobfhaaDoor.SL
set_option maxRecDepth 100000
set_option linter.unusedVariables false
set_option linter.unusedSimpArgs false

theorem nm1 : nm 1 = ⟨#[115, 49]⟩ := by unfold nm; rw [Lib.decDigits_one (by omega)]; rfl
theorem nm2 : nm 2 = ⟨#[115, 50]⟩ := by unfold nm; rw [Lib.decDigits_one (by omega)]; rfl
theorem i91 : I9 1 := ⟨by omega, by omega⟩
theorem i92 : I9 2 := ⟨by omega, by omega⟩
theorem Ret.cast {B a N : Nat} {S S' : St} {v v' : Value} {w : World} {f : FuncId} {vs : Array Value} (h : Calls Tryd.prog f vs w (Ret B a N S v w)) (hS : S = S') (hv : v = v') : Calls Tryd.prog f vs w (Ret B a N S' v' w) := by subst hS; subst hv; exact h
theorem OT.kc {B : Nat} {w w' : World} {v : Value} {d : List ByteArray} (h : OT B w v d) (hk : Kc w w') : OT B w' v d := h.keep fun g hg => by
  rcases h.2 with ⟨rfl, _⟩ | ⟨q, cap, cur, rfl, _, hh, _⟩
  · cases hg
  · injection hg with hg
    subst hg
    exact hk _ _ _ _ hh
set_option maxHeartbeats 16000000 in
theorem known_any (w : World) : Calls Tryd.prog 25 #[] w fun e w' => e = .returned (.bool true) ∧ Below w.heap.size w w' := by
  go_enter Tryd.func25, Tryd.ntmps25
  go_wp2_with fail
  refine (lb_new w).mono ?_
  rintro e w1 ⟨a, rfl, hl, hb⟩
  have HL := Lib.hid hl
  have HB := Lib.hid hb
  clear hl hb
  go_wp2_with fail
  have HC := Lib.hid (Ret.cast (lb_def HL.out (by omega) 1 i91 ⟨#[97]⟩ ⟨#[115, 101, 108, 101, 99, 116, 32, 49]⟩ (by decide) (by decide)) (S' := (⟨[(1, ⟨#[97]⟩, ⟨#[115, 101, 108, 101, 99, 116, 32, 49]⟩)], [], []⟩ : St)) (v' := nV 0) (by kernel_rfl) (rfl))
  refine HC.out.mono ?_
  rintro e w2 ⟨rfl, hl, hf⟩
  have HL := Lib.hid hl
  have HB := Lib.hid (HB.out.trans hf.1)
  clear hl hf HC
  go_wp2_with fail
  have HC := Lib.hid (Ret.cast (lb_def HL.out (by omega) 1 i91 ⟨#[97]⟩ ⟨#[115, 101, 108, 101, 99, 116, 32, 50]⟩ (by decide) (by decide)) (S' := (⟨[(1, ⟨#[97]⟩, ⟨#[115, 101, 108, 101, 99, 116, 32, 49]⟩)], [], []⟩ : St)) (v' := nV 9) (by kernel_rfl) (rfl))
  refine HC.out.mono ?_
  rintro e w3 ⟨rfl, hl, hf⟩
  have HL := Lib.hid hl
  have HB := Lib.hid (HB.out.trans hf.1)
  clear hl hf HC
  go_wp2_with fail
  have HC := Lib.hid (Ret.cast (lb_def HL.out (by omega) 1 i91 ⟨#[]⟩ ⟨#[120]⟩ (by decide) (by decide)) (S' := (⟨[(1, ⟨#[97]⟩, ⟨#[115, 101, 108, 101, 99, 116, 32, 49]⟩), (1, ⟨#[]⟩, ⟨#[120]⟩)], [], []⟩ : St)) (v' := nV 0) (by kernel_rfl) (rfl))
  refine HC.out.mono ?_
  rintro e w4 ⟨rfl, hl, hf⟩
  have HL := Lib.hid hl
  have HB := Lib.hid (HB.out.trans hf.1)
  clear hl hf HC
  go_wp2_with fail
  have HC := Lib.hid (Ret.cast (lb_def HL.out (by omega) 1 i91 ⟨#[]⟩ ⟨#[121]⟩ (by decide) (by decide)) (S' := (⟨[(1, ⟨#[97]⟩, ⟨#[115, 101, 108, 101, 99, 116, 32, 49]⟩), (1, ⟨#[]⟩, ⟨#[121]⟩)], [], []⟩ : St)) (v' := nV 0) (by kernel_rfl) (rfl))
  refine HC.out.mono ?_
  rintro e w5 ⟨rfl, hl, hf⟩
  have HL := Lib.hid hl
  have HB := Lib.hid (HB.out.trans hf.1)
  clear hl hf HC
  go_wp2_with fail
  have HC := Lib.hid (show Calls Tryd.prog 20 #[ptr a, nV 1, .string ⟨#[]⟩] w5 fun e w' => e = .returned (.tuple #[.string ⟨#[121]⟩, .bool true]) ∧ Below w5.heap.size w5 w' from lb_find HL.out 1 i91 ⟨#[]⟩ (by decide))
  refine HC.out.mono ?_
  rintro e w6 ⟨rfl, hb⟩
  have HL := Lib.hid (HL.out.below hb)
  have HB := Lib.hid (HB.out.trans (hb.mono HB.out.size))
  clear hb HC
  go_wp2_with fail
  have HC := Lib.hid (show Calls Tryd.prog 20 #[ptr a, nV 2, .string ⟨#[97]⟩] w6 fun e w' => e = .returned (.tuple #[.string ⟨#[]⟩, .bool false]) ∧ Below w6.heap.size w6 w' from lb_find HL.out 2 i92 ⟨#[97]⟩ (by decide))
  refine HC.out.mono ?_
  rintro e w7 ⟨rfl, hb⟩
  have HL := Lib.hid (HL.out.below hb)
  have HB := Lib.hid (HB.out.trans (hb.mono HB.out.size))
  clear hb HC
  go_wp2_with fail
  have HC := Lib.hid (Ret.cast (lb_need HL.out (by omega) 1 i91 ⟨#[97]⟩ (by decide) (by decide)) (S' := (⟨[(1, ⟨#[97]⟩, ⟨#[115, 101, 108, 101, 99, 116, 32, 49]⟩), (1, ⟨#[]⟩, ⟨#[121]⟩)], [⟨#[97]⟩], [(1, 1)]⟩ : St)) (v' := .tuple #[.string ⟨#[115, 49]⟩, .bool true]) (by kernel_rfl) (by rw [show numA ⟨#[97]⟩ (⟨[(1, ⟨#[97]⟩, ⟨#[115, 101, 108, 101, 99, 116, 32, 49]⟩), (1, ⟨#[]⟩, ⟨#[121]⟩)], [], []⟩ : St) = 1 by kernel_rfl, nm1]; rfl))
  refine HC.out.mono ?_
  rintro e w8 ⟨rfl, hl, hf⟩
  have HL := Lib.hid hl
  have HB := Lib.hid (HB.out.trans hf.1)
  clear hl hf HC
  go_wp2_with fail
  have HC := Lib.hid (Ret.cast (lb_need HL.out (by omega) 2 i92 ⟨#[97]⟩ (by decide) (by decide)) (S' := (⟨[(1, ⟨#[97]⟩, ⟨#[115, 101, 108, 101, 99, 116, 32, 49]⟩), (1, ⟨#[]⟩, ⟨#[121]⟩)], [⟨#[97]⟩], [(1, 1), (2, 1)]⟩ : St)) (v' := .tuple #[.string ⟨#[115, 49]⟩, .bool true]) (by kernel_rfl) (by rw [show numA ⟨#[97]⟩ (⟨[(1, ⟨#[97]⟩, ⟨#[115, 101, 108, 101, 99, 116, 32, 49]⟩), (1, ⟨#[]⟩, ⟨#[121]⟩)], [⟨#[97]⟩], [(1, 1)]⟩ : St) = 1 by kernel_rfl, nm1]; rfl))
  refine HC.out.mono ?_
  rintro e w9 ⟨rfl, hl, hf⟩
  have HL := Lib.hid hl
  have HB := Lib.hid (HB.out.trans hf.1)
  clear hl hf HC
  go_wp2_with fail
  have HC := Lib.hid (Ret.cast (lb_need HL.out (by omega) 1 i91 ⟨#[97]⟩ (by decide) (by decide)) (S' := (⟨[(1, ⟨#[97]⟩, ⟨#[115, 101, 108, 101, 99, 116, 32, 49]⟩), (1, ⟨#[]⟩, ⟨#[121]⟩)], [⟨#[97]⟩], [(1, 1), (2, 1)]⟩ : St)) (v' := .tuple #[.string ⟨#[115, 49]⟩, .bool false]) (by kernel_rfl) (by rw [show numA ⟨#[97]⟩ (⟨[(1, ⟨#[97]⟩, ⟨#[115, 101, 108, 101, 99, 116, 32, 49]⟩), (1, ⟨#[]⟩, ⟨#[121]⟩)], [⟨#[97]⟩], [(1, 1), (2, 1)]⟩ : St) = 1 by kernel_rfl, nm1]; rfl))
  refine HC.out.mono ?_
  rintro e w10 ⟨rfl, hl, hf⟩
  have HL := Lib.hid hl
  have HB := Lib.hid (HB.out.trans hf.1)
  clear hl hf HC
  go_wp2_with fail
  have HC := Lib.hid (Ret.cast (lb_need HL.out (by omega) 1 i91 ⟨#[98]⟩ (by decide) (by decide)) (S' := (⟨[(1, ⟨#[97]⟩, ⟨#[115, 101, 108, 101, 99, 116, 32, 49]⟩), (1, ⟨#[]⟩, ⟨#[121]⟩)], [⟨#[97]⟩, ⟨#[98]⟩], [(1, 1), (2, 1), (1, 2)]⟩ : St)) (v' := .tuple #[.string ⟨#[115, 50]⟩, .bool true]) (by kernel_rfl) (by rw [show numA ⟨#[98]⟩ (⟨[(1, ⟨#[97]⟩, ⟨#[115, 101, 108, 101, 99, 116, 32, 49]⟩), (1, ⟨#[]⟩, ⟨#[121]⟩)], [⟨#[97]⟩], [(1, 1), (2, 1)]⟩ : St) = 2 by kernel_rfl, nm2]; rfl))
  refine HC.out.mono ?_
  rintro e w11 ⟨rfl, hl, hf⟩
  have HL := Lib.hid hl
  have HB := Lib.hid (HB.out.trans hf.1)
  clear hl hf HC
  go_wp2_with fail
  have HC := Lib.hid (lb_has HL.out (by omega) 1 i91 (by decide))
  refine HC.out.mono ?_
  rintro e w12 ⟨v, rfl, hv, hb⟩
  have hv : OT w11.heap.size w12 v [⟨#[115, 49]⟩, ⟨#[115, 50]⟩] := by
    have e1 : (nms (⟨[(1, ⟨#[97]⟩, ⟨#[115, 101, 108, 101, 99, 116, 32, 49]⟩), (1, ⟨#[]⟩, ⟨#[121]⟩)], [⟨#[97]⟩, ⟨#[98]⟩], [(1, 1), (2, 1), (1, 2)]⟩ : St).D 1).map nm = [⟨#[115, 49]⟩, ⟨#[115, 50]⟩] := by rw [show nms (⟨[(1, ⟨#[97]⟩, ⟨#[115, 101, 108, 101, 99, 116, 32, 49]⟩), (1, ⟨#[]⟩, ⟨#[121]⟩)], [⟨#[97]⟩, ⟨#[98]⟩], [(1, 1), (2, 1), (1, 2)]⟩ : St).D 1 = [1, 2] by kernel_rfl, List.map_cons, List.map_cons, List.map_nil, nm1, nm2]
    rw [← e1]; exact hv
  have HV := Lib.hid hv
  have HL := Lib.hid (HL.out.below hb)
  have HB := Lib.hid (HB.out.trans (hb.mono HB.out.size))
  clear hv hb HC
  go_wp2_with fail
  have HC := Lib.hid (Ret.cast (lb_forget HL.out 1 i91) (S' := (⟨[(1, ⟨#[97]⟩, ⟨#[115, 101, 108, 101, 99, 116, 32, 49]⟩), (1, ⟨#[]⟩, ⟨#[121]⟩)], [⟨#[97]⟩, ⟨#[98]⟩], [(2, 1)]⟩ : St)) (v' := nV 2) (by kernel_rfl) (rfl))
  refine HC.out.mono ?_
  rintro e w13 ⟨rfl, hl, hf⟩
  have HL := Lib.hid hl
  have HB := Lib.hid (HB.out.trans hf.1)
  have HV := Lib.hid (PP.OT.kc HV.out hf.2)
  clear hl hf HC
  go_wp2_with fail
  have HC := Lib.hid (Ret.cast (lb_need HL.out (by omega) 1 i91 ⟨#[98]⟩ (by decide) (by decide)) (S' := (⟨[(1, ⟨#[97]⟩, ⟨#[115, 101, 108, 101, 99, 116, 32, 49]⟩), (1, ⟨#[]⟩, ⟨#[121]⟩)], [⟨#[97]⟩, ⟨#[98]⟩], [(2, 1), (1, 2)]⟩ : St)) (v' := .tuple #[.string ⟨#[115, 50]⟩, .bool true]) (by kernel_rfl) (by rw [show numA ⟨#[98]⟩ (⟨[(1, ⟨#[97]⟩, ⟨#[115, 101, 108, 101, 99, 116, 32, 49]⟩), (1, ⟨#[]⟩, ⟨#[121]⟩)], [⟨#[97]⟩, ⟨#[98]⟩], [(2, 1)]⟩ : St) = 2 by kernel_rfl, nm2]; rfl))
  refine HC.out.mono ?_
  rintro e w14 ⟨rfl, hl, hf⟩
  have HL := Lib.hid hl
  have HB := Lib.hid (HB.out.trans hf.1)
  have HV := Lib.hid (PP.OT.kc HV.out hf.2)
  clear hl hf HC
  obtain ⟨W1, hW1⟩ : ∃ W, w14.alloc (.cells #[.string ⟨#[115, 49]⟩, .string ⟨#[115, 50]⟩] 9) = W := ⟨_, rfl⟩
  obtain ⟨g, hg⟩ : ∃ b, w14.heap.size = b := ⟨_, rfl⟩
  have hb1 : Below w14.heap.size w14 W1 := by rw [← hW1]; exact (Below.refl _ _).alloc (Nat.le_refl _) _
  have k1 : Bk W1 g 9 (txA [⟨#[115, 49]⟩, ⟨#[115, 50]⟩]) := by rw [← hW1, ← hg]; exact Bk.new _ _ _
  have HT : Hid (Calls Tryd.prog 22 #[v, .slice (some ⟨g, 0, none⟩) 2 2] W1 fun r w' => r = .returned (.bool true) ∧ ∃ n, w' = W1.drewN n) := Lib.hid (by
    have h := texts_any v (.slice (some ⟨g, 0, none⟩) 2 2) _ _ W1 (HV.out.ts.below hb1) (bk_texts (B := 0) k1 (Nat.zero_le _) (by simp)).ts (by simp) (by simp)
    rw [show (decide (([⟨#[115, 49]⟩, ⟨#[115, 50]⟩] : List ByteArray) = [⟨#[115, 49]⟩, ⟨#[115, 50]⟩])) = true from decide_eq_true rfl] at h
    exact h)
  have HL := Lib.hid (HL.out.below hb1)
  have HB := Lib.hid (HB.out.trans (hb1.mono HB.out.size))
  clear hb1 k1 HV
  go_wp2_with fail
  try rw [hg]
  try rw [hW1]
  clear hg hW1
  refine HT.out.mono ?_
  rintro e W2 ⟨rfl, hd⟩
  have hb2 := below_dn hd
  have HL := Lib.hid (HL.out.below hb2)
  have HB := Lib.hid (HB.out.trans (hb2.mono HB.out.size))
  clear hd hb2 HT
  go_wp2_with fail
  have HC := Lib.hid (Ret.cast (lb_close HL.out (by omega) 1 i91 ⟨#[97]⟩ (by decide)) (S' := (⟨[(1, ⟨#[]⟩, ⟨#[121]⟩)], [⟨#[97]⟩, ⟨#[98]⟩], [(2, 1), (1, 2)]⟩ : St)) (v' := .bool true) (by kernel_rfl) (rfl))
  refine HC.out.mono ?_
  rintro e w15 ⟨rfl, hl, hf⟩
  have HL := Lib.hid hl
  have HB := Lib.hid (HB.out.trans hf.1)
  clear hl hf HC
  go_wp2_with fail
  have HC := Lib.hid (Ret.cast (lb_close HL.out (by omega) 1 i91 ⟨#[97]⟩ (by decide)) (S' := (⟨[(1, ⟨#[]⟩, ⟨#[121]⟩)], [⟨#[97]⟩, ⟨#[98]⟩], [(2, 1), (1, 2)]⟩ : St)) (v' := .bool false) (by kernel_rfl) (rfl))
  refine HC.out.mono ?_
  rintro e w16 ⟨rfl, hl, hf⟩
  have HL := Lib.hid hl
  have HB := Lib.hid (HB.out.trans hf.1)
  clear hl hf HC
  go_wp2_with fail
  have HC := Lib.hid (Ret.cast (lb_leave HL.out 1 i91) (S' := (⟨[], [⟨#[97]⟩, ⟨#[98]⟩], [(2, 1), (1, 2)]⟩ : St)) (v' := nV 1) (by kernel_rfl) (rfl))
  refine HC.out.mono ?_
  rintro e w17 ⟨rfl, hl, hf⟩
  have HL := Lib.hid hl
  have HB := Lib.hid (HB.out.trans hf.1)
  clear hl hf HC
  go_wp2
  go_ret
  exact ⟨rfl, HB.out⟩
end Go.Proofs.YtkifmhdceobfhaaDoor.PP
