/- A session in a law; the laws' fixed asks; ready, known. Condition: what is laid. -/
import Derived.Test.YtpnjjllkbnmakaaDoorSye
namespace Go.Proofs.YtpnjjllkbnmakaaDoor.SE
open Go.ChangeShapes Go.WideShapes Go.ChangeAt Go.RowKit
open Go.Proofs.YtpnjjllkbnmakaaDoor.SL
set_option maxRecDepth 100000
set_option linter.unusedVariables false
set_option linter.unusedSimpArgs false

abbrev uT : Tx := ⟨#[117]⟩
def startA : Ak := ⟨0, [userT], [uT], false⟩
abbrev kA (k : Int) : Ak := ⟨k, [], [], false⟩
abbrev kV (k : Int) : Value := .agg #[.int .u8 k, .string ⟨#[]⟩, .string ⟨#[]⟩, .string ⟨#[]⟩, .slice none 0 0, .slice none 0 0, .slice none 0 0, .slice none 0 0, .slice none 0 0, nV 0, .int .u8 0, .bool false, nV 0, nV 0]
theorem kR (z : Nat) (w : World) (k : Int) : AkR z w (kV k) (kA k) :=
  ⟨_, _, _, _, _, _, _, _, _, _, _, _, rfl, .nil z w, .nil z w, fun t h => (by cases h), ⟨_, _, _, rfl⟩, ⟨_, _, _, rfl⟩, ⟨_, _, _, rfl⟩⟩
theorem kL (k : Int) : Lt (kA k) := ⟨Nat.zero_le _, Nat.zero_le _⟩
abbrev stAG (q : Nat) : Array Value := #[.int .u8 0, .string ⟨#[]⟩, .string ⟨#[]⟩, .string ⟨#[]⟩, .slice (some ⟨q + 1, 0, none⟩) 1 1, .slice (some ⟨q + 1 + 1, 0, none⟩) 1 1, .slice none 0 0, .slice none 0 0, .slice none 0 0, nV 0, .int .u8 0, .bool false, nV 0, nV 0]
abbrev stW (w : World) : World := ((w.alloc (.cells (stAG w.heap.size) 32)).alloc (.cells #[.string userT] 9)).alloc (.cells #[.string uT] 9)
theorem start_mem (w : World) : Below w.heap.size w (stW w) ∧ (∀ z, z < w.heap.size → AkR z (stW w) (.agg (stAG w.heap.size)) startA) ∧ Bk (stW w) w.heap.size 32 (stAG w.heap.size) := by
  obtain ⟨q, hq⟩ : ∃ b, w.heap.size = b := ⟨_, rfl⟩
  obtain ⟨AG, hAG⟩ : ∃ x : Array Value, stAG w.heap.size = x := ⟨_, rfl⟩
  obtain ⟨W3, hW3⟩ : ∃ W, stW w = W := ⟨_, rfl⟩
  have hW3' := hW3
  unfold stW at hW3'
  rw [hAG] at hW3'
  have hb : Below w.heap.size w W3 := by
    rw [← hW3']
    exact (((Below.refl _ w).alloc (Nat.le_refl _) _).alloc (by simp) _).alloc (by simp <;> omega) _
  have ka : Bk W3 q 32 AG := by
    rw [← hW3', ← hq]; exact ((Bk.new w _ _).alloc _).alloc _
  have ku : Bk W3 (q + 1) 9 #[.string userT] := by
    rw [← hW3', ← hq]
    have := (Bk.new (w.alloc (.cells AG 32)) 9 #[.string userT]).alloc (.cells #[.string uT] 9)
    simpa using this
  have kv : Bk W3 (q + 1 + 1) 9 #[.string uT] := by
    rw [← hW3', ← hq]
    have := Bk.new ((w.alloc (.cells AG 32)).alloc (.cells #[.string userT] 9)) 9 #[.string uT]
    simpa using this
  rw [hW3, hAG, hq]
  rw [hq] at hAG hb
  refine ⟨hb, ?_, ka⟩
  intro z hz
  rw [← hAG]
  refine ⟨_, _, _, _, _, _, _, _, _, _, _, _, rfl, .inr ⟨q + 1, 0, 1, by omega, rfl, Nat.le_refl _, fun i x hi => ?_⟩, .inr ⟨q + 1 + 1, 0, 1, by omega, rfl, Nat.le_refl _, fun i x hi => ?_⟩, fun t h => ?_, ⟨_, _, _, rfl⟩, ⟨_, _, _, rfl⟩, ⟨_, _, _, rfl⟩⟩
  · have h0 : i = 0 := by have := (List.getElem?_eq_some_iff.1 hi).1; simp [startA] at this; exact this
    subst h0
    have : userT = x := by simpa [startA] using hi
    subst this
    exact ku.cell 0
  · have h0 : i = 0 := by have := (List.getElem?_eq_some_iff.1 hi).1; simp [startA] at this; exact this
    subst h0
    have : uT = x := by simpa [startA] using hi
    subst this
    exact kv.cell 0
  · have : t = uT := by simpa [startA] using h
    subst this
    exact (show (1 : Nat) ≤ 140737488351232 by omega)
set_option maxHeartbeats 4000000 in
theorem start_any (w : World) : Calls Tryd.prog 31 #[] w fun e w' => ∃ v, e = .returned v ∧ Below w.heap.size w w' ∧ ∀ z, z < w.heap.size → AkR z w' v startA := by
  obtain ⟨h1, h2, ka⟩ := start_mem w
  have HB := Lib.hid h1
  have HA := Lib.hid h2
  have KA := Lib.hid ka
  clear h1 h2 ka
  go_enter Tryd.func31, Tryd.ntmps31
  go_wp2
  have ka := KA.out
  have x0 := ka.cell 0
  have x1 := ka.cell 1
  have x2 := ka.cell 2
  have x3 := ka.cell 3
  have x4 := ka.cell 4
  have x5 := ka.cell 5
  have x6 := ka.cell 6
  have x7 := ka.cell 7
  have x8 := ka.cell 8
  have x9 := ka.cell 9
  have x10 := ka.cell 10
  have x11 := ka.cell 11
  have x12 := ka.cell 12
  have x13 := ka.cell 13
  change bodyPost _ _ _ _ _ (stW w)
  generalize hW : stW w = W3 at *
  refine bodyPost_ret (v := .agg (stAG w.heap.size)) (by simp [results, Tryd.results31, go_sem, x0, x1, x2, x3, x4, x5, x6, x7, x8, x9, x10, x11, x12, x13]; done) rfl ?_
  exact ⟨_, rfl, HB.out, HA.out⟩
/-- what is laid, seen from a world -/
def LW (W : World) : Prop := ∀ z, W.heap.size ≤ z → Ru z W
theorem LW.below {W w : World} (h : LW W) (hb : Below W.heap.size W w) : LW w := fun z hz => (h z (Nat.le_trans hb.size hz)).below hb
/-- a session that the law made, behind W -/
def LS (W w : World) (a : Nat) (S : St) : Prop := Below W.heap.size W w ∧ W.heap.size ≤ a ∧ Sx w a S
section
variable {W w w' : World} {a : Nat} {S : St}
theorem LS.below (h : LS W w a S) (hb : Below w.heap.size w w') : LS W w' a S := ⟨h.1.trans (hb.mono h.1.size), h.2.1, h.2.2.below hb⟩
theorem LS.chg (h : LS W w a S) {b : Nat} (hc : Chg (fun x => x = b) w w') (hb : W.heap.size ≤ b) (hn : a ≠ b) : LS W w' a S :=
  ⟨h.1.trans (hc.below h.1.size fun x hx e => by omega), h.2.1, h.2.2.chg hc hn⟩
theorem LS.step {S' : St} (h : LS W w a S) (k : StP a w w' S') : LS W w' a S' := ⟨h.1.trans (k.1.below h.1.size fun x hx e => by have := h.2.1; omega), h.2.1, k.2⟩
theorem ls_step (hW : LW W) (h : LS W w a S) (v : Value) (k : Ak) (hA : AkR a w v k) (hl : Lt k) : Calls Tryd.prog 9 #[ptr a, v] w fun e w' => e = .returned (.tuple #[nV (stepD S k), nV (stepE S k)]) ∧ LS W w' a (stepS S k) ∧ Chg (fun b => b = a) w w' := by
  refine (step_any h.2.2 v k hA hl ((hW a h.2.1).below h.1)).mono ?_
  rintro e w' ⟨rfl, hs⟩
  exact ⟨rfl, h.step hs, hs.1⟩
theorem ls_kind (hW : LW W) (h : LS W w a S) (k : Int) (S' : St) (d x : Int) (hS : stepS S (kA k) = S') (hd : stepD S (kA k) = d) (hx : stepE S (kA k) = x) : Calls Tryd.prog 9 #[ptr a, kV k] w fun e w' => e = .returned (.tuple #[nV d, nV x]) ∧ LS W w' a S' ∧ Chg (fun b => b = a) w w' := by
  subst hS hd hx
  exact ls_step hW h _ _ (kR a w k) (kL k)
theorem ls_acc (h : LS W w a S) (b : Bool) : Calls Tryd.prog 11 #[ptr a, .bool b] w fun e w' => e = .returned (nV (accE b S)) ∧ LS W w' a (accS b S) ∧ Chg (fun b => b = a) w w' := by
  refine (accept_any h.2.2 b).mono ?_
  rintro e w' ⟨rfl, hs⟩
  exact ⟨rfl, h.step hs, hs.1⟩
theorem ls_don (h : LS W w a S) : Calls Tryd.prog 13 #[ptr a] w fun e w' => e = .returned (nV (donE S)) ∧ LS W w' a (donS S) ∧ Chg (fun b => b = a) w w' := by
  refine (done_any h.2.2).mono ?_
  rintro e w' ⟨rfl, hs⟩
  exact ⟨rfl, h.step hs, hs.1⟩
theorem ls_fai (h : LS W w a S) : Calls Tryd.prog 15 #[ptr a] w fun e w' => e = .returned (nV (faiE S)) ∧ LS W w' a (faiS S) ∧ Chg (fun b => b = a) w w' := by
  refine (fail_any h.2.2).mono ?_
  rintro e w' ⟨rfl, hs⟩
  exact ⟨rfl, h.step hs, hs.1⟩
theorem ls_new (hb : Below W.heap.size W w) : Calls Tryd.prog 7 #[] w fun e w' => ∃ a, e = .returned (ptr a) ∧ LS W w' a ⟨0, e0, e0⟩ ∧ w.heap.size ≤ a ∧ Below w.heap.size w w' := by
  refine (new_any w).mono ?_
  rintro e w' ⟨rfl, h1, h2⟩
  exact ⟨_, rfl, ⟨hb.trans (h1.mono hb.size), hb.size, h2⟩, Nat.le_refl _, h1⟩
end
theorem start_step : stepS ⟨0, e0, e0⟩ startA = ⟨1, uT, uT⟩ ∧ stepD ⟨0, e0, e0⟩ startA = 1 ∧ stepE ⟨0, e0, e0⟩ startA = 0 := by
  have h1 : startA.user = uT := by kernel_rfl
  have h2 : startA.db = uT := by kernel_rfl
  have h3 : saidN startA = 1 := by kernel_rfl
  unfold stepS stepD stepE
  rw [h1, h2, h3]
  exact ⟨rfl, rfl, rfl⟩
set_option maxHeartbeats 4000000 in
theorem ready_any (W : World) (hW : LW W) : Calls Tryd.prog 22 #[] W fun e w' => ∃ a, e = .returned (ptr a) ∧ LS W w' a ⟨2, uT, uT⟩ := by
  have HW := Lib.hid hW
  clear hW
  go_enter Tryd.func22, Tryd.ntmps22
  go_wp2_with fail
  refine (ls_new (Below.refl _ W)).mono ?_
  rintro e w1 ⟨a, rfl, h1, h0, _⟩
  have H1 := Lib.hid h1
  clear h0
  go_wp2_with fail
  refine (start_any w1).mono ?_
  rintro e w2 ⟨v, rfl, hb2, hA2⟩
  have H2 := Lib.hid (h1.below hb2)
  have A2 := Lib.hid (hA2 a h1.2.2.1.lt)
  clear h1 hb2 hA2
  go_wp2_with fail
  refine (ls_step HW.out H2.out v startA A2.out ⟨by decide, by decide⟩).mono ?_
  rintro e w3 ⟨rfl, hs, _⟩
  rw [start_step.1] at hs
  rw [start_step.2.1, start_step.2.2]
  have H := Lib.hid hs
  clear hs
  go_wp2_with fail
  refine (ls_kind HW.out H.out 112 ⟨1, uT, uT⟩ 2 0 rfl rfl rfl).mono ?_
  rintro e w4 ⟨rfl, hs, _⟩
  have H := Lib.hid hs
  clear hs
  go_wp2_with fail
  refine (ls_acc H.out true).mono ?_
  rintro e w5 ⟨rfl, hs, _⟩
  have H : Hid (LS W w5 a ⟨2, uT, uT⟩) := Lib.hid hs
  clear hs
  go_wp2_with fail
  go_ret
  exact ⟨_, rfl, H.out⟩
set_option maxHeartbeats 8000000 in
theorem known_any (W : World) (hW : LW W) : Calls Tryd.prog 21 #[] W fun e w' => e = .returned (.bool true) ∧ Below W.heap.size W w' := by
  have HW := Lib.hid hW
  clear hW
  go_enter Tryd.func21, Tryd.ntmps21
  go_wp2_with fail
  refine (ls_new (Below.refl _ W)).mono ?_
  rintro e w1 ⟨a, rfl, h1, h0, _⟩
  have H1 := Lib.hid h1
  clear h0
  go_wp2_with fail
  refine (start_any w1).mono ?_
  rintro e w2 ⟨v, rfl, hb2, hA2⟩
  have H2 := Lib.hid (h1.below hb2)
  have A2 := Lib.hid (hA2 a h1.2.2.1.lt)
  clear h1 hb2 hA2
  go_wp2_with fail
  refine (ls_step HW.out H2.out v startA A2.out ⟨by decide, by decide⟩).mono ?_
  rintro e w3 ⟨rfl, hs, _⟩
  rw [start_step.1] at hs
  rw [start_step.2.1, start_step.2.2]
  have H := Lib.hid hs
  clear hs
  go_wp2_with fail
  refine (ls_kind HW.out H.out 112 ⟨1, uT, uT⟩ 2 0 rfl rfl rfl).mono ?_
  rintro e w4 ⟨rfl, hs, _⟩
  have H := Lib.hid hs
  clear hs
  go_wp2_with fail
  refine (ls_acc H.out true).mono ?_
  rintro e w5 ⟨rfl, hs, _⟩
  have H : Hid (LS W w5 a ⟨2, uT, uT⟩) := Lib.hid hs
  clear hs
  go_wp2_with fail
  refine (ls_kind HW.out H.out 80 ⟨4, uT, uT⟩ 4 0 rfl rfl rfl).mono ?_
  rintro e w6 ⟨rfl, hs, _⟩
  have H := Lib.hid hs
  clear hs
  go_wp2_with fail
  refine (ls_fai H.out).mono ?_
  rintro e w7 ⟨rfl, hs, _⟩
  have H : Hid (LS W w7 a ⟨5, uT, uT⟩) := Lib.hid hs
  clear hs
  go_wp2_with fail
  refine (ls_kind HW.out H.out 69 ⟨5, uT, uT⟩ 7 0 rfl rfl rfl).mono ?_
  rintro e w8 ⟨rfl, hs, _⟩
  have H := Lib.hid hs
  clear hs
  go_wp2_with fail
  refine (ls_kind HW.out H.out 83 ⟨2, uT, uT⟩ 5 0 rfl rfl rfl).mono ?_
  rintro e w9 ⟨rfl, hs, _⟩
  have H := Lib.hid hs
  clear hs
  go_wp2_with fail
  refine (phase_any H.out.2.2).mono ?_
  rintro e wx ⟨rfl, rfl⟩
  go_wp2_with fail
  refine (ls_kind HW.out H.out 81 ⟨3, uT, uT⟩ 3 0 rfl rfl rfl).mono ?_
  rintro e w10 ⟨rfl, hs, _⟩
  have H := Lib.hid hs
  clear hs
  go_wp2_with fail
  refine (ls_kind HW.out H.out 81 ⟨3, uT, uT⟩ 6 0 rfl rfl rfl).mono ?_
  rintro e w11 ⟨rfl, hs, _⟩
  have H := Lib.hid hs
  clear hs
  go_wp2_with fail
  refine (ls_don H.out).mono ?_
  rintro e w12 ⟨rfl, hs, _⟩
  have H : Hid (LS W w12 a ⟨2, uT, uT⟩) := Lib.hid hs
  clear hs
  go_wp2_with fail
  refine (ls_kind HW.out H.out 112 ⟨6, uT, uT⟩ 9 10 rfl rfl rfl).mono ?_
  rintro e w13 ⟨rfl, hs, _⟩
  have H := Lib.hid hs
  clear hs
  go_wp2_with fail
  refine (phase_any H.out.2.2).mono ?_
  rintro e wx ⟨rfl, rfl⟩
  go_wp2_with fail
  refine (user_any H.out.2.2).mono ?_
  rintro e wx ⟨rfl, rfl⟩
  go_wp2_with fail
  refine (db_any H.out.2.2).mono ?_
  rintro e wx ⟨rfl, rfl⟩
  go_wp2
  go_ret
  exact ⟨rfl, H.out.1⟩
end Go.Proofs.YtpnjjllkbnmakaaDoor.SE
