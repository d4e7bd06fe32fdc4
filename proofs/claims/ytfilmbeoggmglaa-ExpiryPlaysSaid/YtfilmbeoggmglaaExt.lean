/- Layer 11's known is true. No condition. -/
import Derived.Test.YtfilmbeoggmglaaExs
namespace Go.Proofs.Ytfilmbeoggmglaa.EX
open Go.ChangeShapes Go.WideShapes Go.ChangeAt Go.RowKit Go.Maps Go.ChangeMaps
open Go.Proofs.Ytfilmbeoggmglaa.SL Go.Proofs.Ytfilmbeoggmglaa.RW
set_option maxRecDepth 100000
set_option linter.unusedVariables false
set_option linter.unusedSimpArgs false

theorem two_ts {w : World} {b : Nat} {k l : ByteArray} (h : Bk w b 9 #[.string k, .string l]) : TS w (.slice (some ⟨b, 0, none⟩) 2 2) [k, l] :=
  .inr ⟨b, 0, 2, rfl, Nat.le_refl _, fun i x hi => by
    match i, hi with
    | 0, hi => simp at hi; subst hi; exact h.cell 0
    | 1, hi => simp at hi; subst hi; exact h.cell 1⟩
theorem x1 : setI ka 5 [] = [(ka, 5)] := by kernel_rfl
theorem x2 : setI kb 3 [(ka, 5)] = [(kb, 3), (ka, 5)] := by kernel_rfl
theorem x3 : setI kc 5 [(kb, 3), (ka, 5)] = [(kb, 3), (ka, 5), (kc, 5)] := by kernel_rfl
theorem x4 : gtI 4 [(kb, 3), (ka, 5), (kc, 5)] = [(ka, 5), (kc, 5)] := by kernel_rfl
theorem x5 : keysI (leI 4 [(kb, 3), (ka, 5), (kc, 5)]) = [kb] := by kernel_rfl
theorem x6 : setI ka 5 [(ka, 5), (kc, 5)] = [(kc, 5), (ka, 5)] := by kernel_rfl
theorem x7 : AtI (atI kc [(kc, 5), (ka, 5)]) = .tuple #[.int .i64 5, .bool true] := by kernel_rfl
theorem x8 : dropI kc [(kc, 5), (ka, 5)] = [(ka, 5)] := by kernel_rfl
theorem x9 : dropI kc [(ka, 5)] = [(ka, 5)] := by kernel_rfl
theorem x10 : (atI kc [(kc, 5), (ka, 5)]).isSome = true := by kernel_rfl
theorem x11 : (atI kc [(ka, 5)]).isSome = false := by kernel_rfl
theorem iLe {l : List It} (h : l.all (fun y => decide (y.1.size ≤ 281474976710656)) = true) : ∀ y ∈ l, y.1.size ≤ 281474976710656 := fun y hy => of_decide_eq_true (List.all_eq_true.1 h y hy)
set_option maxHeartbeats 8000000 in
theorem known_any (w : World) :
    Calls Try.prog 40 #[] w fun e w' => e = .returned (.bool true) ∧ Below w.heap.size w w' := by
  go_enter Try.func40, Try.ntmps40
  go_wp2_with fail
  refine (lq_new w _ (Below.refl _ _)).mono ?_
  rintro e w1 ⟨g, rfl, hh, _⟩
  have H := Lib.hid hh
  clear hh
  go_wp2_with fail
  refine (lq_set H.out ka (by decide) 5 (by omega) (by omega) _ x1).mono ?_
  rintro e w' ⟨rfl, hh⟩
  have H := Lib.hid hh
  clear hh
  go_wp2_with fail
  refine (lq_set H.out kb (by decide) 3 (by omega) (by omega) _ x2).mono ?_
  rintro e w' ⟨rfl, hh⟩
  have H := Lib.hid hh
  clear hh
  go_wp2_with fail
  refine (lq_set H.out kc (by decide) 5 (by omega) (by omega) _ x3).mono ?_
  rintro e w' ⟨rfl, hh⟩
  have H := Lib.hid hh
  clear hh
  go_wp2_with fail
  refine (lq_err H.out kd (-1) (by omega)).mono ?_
  rintro e w' ⟨rfl, rfl⟩
  go_wp2_with fail
  refine (lq_due H.out 4 (iLe rfl) (by omega) _ x4 _ x5).mono ?_
  rintro e w2 ⟨v2, c2, rfl, hh⟩
  have H := Lib.hid hh
  clear hh
  go_wp2_with fail
  refine (lq_next H.out (.tuple #[.int .i64 5, .bool true]) rfl).mono ?_
  rintro e w' ⟨rfl, rfl⟩
  go_wp2_with fail
  refine (lq_set H.out ka (by decide) 5 (by omega) (by omega) _ x6).mono ?_
  rintro e w' ⟨rfl, hh⟩
  have H := Lib.hid hh
  clear hh
  go_wp2_with fail
  refine (lq_at H.out kc (by decide) _ x7).mono ?_
  rintro e w3 ⟨rfl, hb3⟩
  have H := Lib.hid (H.out.below hb3)
  clear hb3
  go_wp2_with fail
  obtain ⟨W, hW⟩ : ∃ W, w3.alloc (.cells #[.string kb] 9) = W := ⟨_, rfl⟩
  have hbW : Below w3.heap.size w3 W := by rw [← hW]; exact (Below.refl _ _).alloc (Nat.le_refl _) _
  have hkW : Bk W w3.heap.size 9 #[.string kb] := by rw [← hW]; exact Bk.new _ _ _
  rw [hW]
  have H := Lib.hid (H.out.below hbW)
  have HTS := Lib.hid (one_ts hkW)
  clear hW hbW hkW
  refine (lq_texts H.out (H.out.told (List.mem_cons_self ..)).ts HTS.out (show (1 : Nat) ≤ 2000000000 by omega) (show (1 : Nat) ≤ 2000000000 by omega) true (by kernel_rfl)).mono ?_
  rintro e w4 ⟨rfl, m4, hm4⟩
  have H := Lib.hid ((H.out.below (bel_drew hm4)).nil)
  clear hm4 HTS
  go_wp2_with fail
  refine (lq_keys H.out (by omega) [kc, ka] (by kernel_rfl)).mono ?_
  rintro e w5 ⟨v5, c5, rfl, hb5, hh⟩
  have H := Lib.hid hh
  clear hh hb5
  go_wp2_with fail
  obtain ⟨W, hW⟩ : ∃ W, w5.alloc (.cells #[.string kc, .string ka] 9) = W := ⟨_, rfl⟩
  have hbW : Below w5.heap.size w5 W := by rw [← hW]; exact (Below.refl _ _).alloc (Nat.le_refl _) _
  have hkW : Bk W w5.heap.size 9 #[.string kc, .string ka] := by rw [← hW]; exact Bk.new _ _ _
  rw [hW]
  have H := Lib.hid (H.out.below hbW)
  have HTS := Lib.hid (two_ts hkW)
  clear hW hbW hkW
  refine (lq_texts H.out (H.out.told (List.mem_cons_self ..)).ts HTS.out (show (2 : Nat) ≤ 2000000000 by omega) (show (2 : Nat) ≤ 2000000000 by omega) true (by kernel_rfl)).mono ?_
  rintro e w6 ⟨rfl, m6, hm6⟩
  have H := Lib.hid ((H.out.below (bel_drew hm6)).nil)
  clear hm6 HTS
  go_wp2_with fail
  refine (lq_drop H.out kc (by decide) (by omega) _ x8 true x10).mono ?_
  rintro e w7 ⟨rfl, hh⟩
  have H := Lib.hid hh
  clear hh
  go_wp2_with fail
  refine (lq_drop H.out kc (by decide) (by omega) _ x9 false x11).mono ?_
  rintro e w8 ⟨rfl, hh⟩
  have H := Lib.hid hh
  clear hh
  go_wp2
  go_ret
  exact ⟨rfl, H.out.bel⟩
end Go.Proofs.Ytfilmbeoggmglaa.EX
