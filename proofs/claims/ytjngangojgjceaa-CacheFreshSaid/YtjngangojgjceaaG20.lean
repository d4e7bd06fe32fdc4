/- Layer 12's known is true. No condition.
   Keys and lists of operations among the arguments of layer 12's laws. No condition.
   Keys held against each other. No condition.
   What each call of the document's own package for layer 1 does, for every input: it puts and gets just what package octet does; below the memory that was there nothing turns. Condition: the texts are of at most 2^48 bytes. -/
import Derived.Test.YtjngangojgjceaaG19
import Derived.Deep.Slices
import Derived.Deep.Fields
import Derived.SizedLaws
import Derived.Test.YtjngangojgjceaaOct
import Derived.Deep.Cut
set_option linter.unusedSimpArgs false
set_option linter.unusedVariables false
namespace Go.Proofs.Ytjngangojgjceaa.CA
open Go.ChangeShapes Go.WideShapes Go.ChangeAt Go.RowKit Go.Maps Go.ChangeMaps
open Go.Proofs.Ytjngangojgjceaa.SL Go.Proofs.Ytjngangojgjceaa.EX Go.Proofs.Ytjngangojgjceaa.RW
set_option maxRecDepth 100000
set_option linter.unusedVariables false
set_option linter.unusedSimpArgs false

def kA : Ky := (⟨#[100]⟩, ⟨#[114]⟩, 0, ⟨#[113]⟩)
def kB : Ky := (⟨#[100]⟩, ⟨#[114]⟩, 1, ⟨#[113]⟩)
def tA : ByteArray := ⟨#[100, 0, 114, 0, 0, 0, 113, 0]⟩
def tB : ByteArray := ⟨#[100, 0, 114, 0, 0, 1, 113, 0]⟩
def vA : ByteArray := ⟨#[118]⟩
theorem xa1 : rightK kA = true := by kernel_rfl
theorem xa2 : textK kA = tA := by kernel_rfl
theorem xa3 : szK kA vA = 25 := by kernel_rfl
theorem xb1 : rightK kB = true := by kernel_rfl
theorem xb2 : textK kB = tB := by kernel_rfl
theorem xab : tB ≠ tA := by
  intro h
  have : decide (tB = tA) = false := by kernel_rfl
  rw [decide_eq_true h] at this; cases this
theorem shA : kSh kA := ⟨by decide, by decide, by decide⟩
theorem shB : kSh kB := ⟨by decide, by decide, by decide⟩
def s1 : Sg := ⟨[(tA, 25)], [], [(tA, 8)], setV tA vA fun _ => none⟩
def s2 : Sg := ⟨[], [(tA, 25)], [(tA, 8)], setV tA vA fun _ => none⟩
theorem y1 : putR 100 60 3 kA vA 5 emS = ((0, []), s1) := by
  unfold putR
  rw [if_pos ⟨xa1, by decide, by decide⟩, xa3, if_pos (by decide), xa2]
  unfold putS
  have h1 : putE 100 tA 25 [] [] = ([(tA, 25)], [], []) := by kernel_rfl
  have h2 : setI tA 8 [] = [(tA, 8)] := by kernel_rfl
  show (((0 : Int), (putE 100 tA 25 [] []).2.2), dropsS (putE 100 tA 25 [] []).2.2 ⟨(putE 100 tA 25 [] []).1, (putE 100 tA 25 [] []).2.1, setI tA (5 + 3) [], setV tA vA fun _ => none⟩) = _
  rw [h1, show (5 : Int) + 3 = 8 from rfl, h2]
  rfl
theorem fA (T K : List En) (I : List It) : fV (⟨T, K, I, setV tA vA fun _ => none⟩ : Sg).V kA = some (tA, vA) := by
  unfold fV
  rw [if_pos xa1, xa2]
  show ((setV tA vA fun _ => none) tA).map _ = _
  unfold setV
  rw [if_pos rfl]; rfl
theorem fB (T K : List En) (I : List It) : fV (⟨T, K, I, setV tA vA fun _ => none⟩ : Sg).V kB = none := by
  unfold fV
  rw [if_pos xb1, xb2]
  show ((setV tA vA fun _ => none) tB).map _ = _
  unfold setV
  rw [if_neg xab]; rfl
theorem y2 : getR 60 kA 7 s1 = (some vA, s2) := by
  unfold getR
  rw [show fV s1.V kA = some (tA, vA) from fA _ _ _]
  simp only
  rw [xa2, show atI tA s1.I = some 8 by kernel_rfl, show hasS tA s1.T s1.K = some 25 by kernel_rfl]
  simp only [Option.getD_some]
  rw [if_neg (by decide)]
  unfold touchS
  have h1 : touchE 60 tA 25 s1.T s1.K = ([], [(tA, 25)], []) := by kernel_rfl
  rw [h1]; rfl
theorem y3 : getR 60 kB 7 s2 = (none, s2) := by
  unfold getR
  rw [show fV s2.V kB = none from fB _ _ _]
theorem y4 : getR 60 kA 8 s2 = (none, dropS tA s2) := by
  unfold getR
  rw [show fV s2.V kA = some (tA, vA) from fA _ _ _]
  simp only
  rw [xa2, show atI tA s2.I = some 8 by kernel_rfl]
  simp only [Option.getD_some]
  rw [if_pos (by decide)]
theorem z2 : sumE s2.T + sumE s2.K = 25 := by kernel_rfl
theorem z4 : sumE (dropS tA s2).T + sumE (dropS tA s2).K = 0 := by kernel_rfl
theorem okA (C : Cb) (h1 : C.al = 100) (h2 : C.ke = 60) (h3 : C.mo = 60) (h4 : C.ttl = 3) : okD C := by
  unfold okD okC okB
  rw [h1, h2, h3, h4]
  refine ⟨⟨?_, ?_, ?_, ?_, ?_, ?_⟩, ?_, ?_⟩ <;> decide
set_option maxHeartbeats 8000000 in
theorem known_any (w : World) :
    Calls Try.prog 7 #[] w fun e w' => e = .returned (.bool true) ∧ Below w.heap.size w w' := by
  go_enter Try.func7, Try.ntmps7
  go_wp2_with fail
  refine (CA.new_yes w w (Below.refl _ _) 100 60 60 3 ⟨⟨by decide, by decide, by decide, by decide, by decide, by decide⟩, by decide, by decide⟩).mono ?_
  rintro e w1 ⟨C, rfl, q1, q2, q3, q4, hh, _⟩
  have i0 : InvS C.al C.ke emS := by rw [q1, q2]; exact InvS.nil ⟨by decide, by decide⟩
  have hC := okA C q1 q2 q3 q4
  have hke : 0 ≤ C.ke := by rw [q2]; decide
  have e1 : putR C.al C.mo C.ttl kA vA 5 emS = ((0, []), s1) := by rw [q1, q3, q4]; exact y1
  have e2 : getR C.ke kA 7 s1 = (some vA, s2) := by rw [q2]; exact y2
  have e3 : getR C.ke kB 7 s2 = (none, s2) := by rw [q2]; exact y3
  have e4 : getR C.ke kA 8 s2 = (none, dropS tA s2) := by rw [q2]; exact y4
  have i1 : InvS C.al C.ke s1 := by
    have hf := hh.facts
    have := putR_inv i0 hC.1.2.2.2.2.2 hf.1 hf.2.1 hf.2.2.1 kA shA vA 5 (mo := C.mo) (ttl := C.ttl)
    rw [e1] at this; exact this
  have H := Lib.hid hh
  have HI0 := Lib.hid i0
  have HI1 := Lib.hid i1
  have HC := Lib.hid hC
  have HKE := Lib.hid hke
  have HE1 := Lib.hid e1
  have HE2 := Lib.hid e2
  have HE3 := Lib.hid e3
  have HE4 := Lib.hid e4
  clear q1 q2 q3 q4 hh i0 i1 hC hke e1 e2 e3 e4
  go_wp2_with fail
  refine (CA.new_no _ 100 60 60 0 (fun h => absurd h.2.1 (by decide))).mono ?_
  rintro e w2 ⟨rfl, hb⟩
  have H := Lib.hid (H.out.below hb)
  clear hb
  obtain ⟨W3, hW3⟩ : ∃ W, w2.alloc (.cells #[.string ⟨#[100]⟩, .string ⟨#[114]⟩, .int .i64 0, .string ⟨#[113]⟩] 23) = W := ⟨_, rfl⟩
  obtain ⟨kb, hkb⟩ : ∃ b, w2.heap.size = b := ⟨_, rfl⟩
  have hb3 : Below w2.heap.size w2 W3 := by rw [← hW3]; exact (Below.refl _ _).alloc (Nat.le_refl _) _
  have ke : Bk W3 kb 23 (kC kA) := by rw [← hW3, ← hkb]; exact Bk.new _ _ _
  have H := Lib.hid (H.out.blkO hb3 (Nat.le_of_eq hkb) ke)
  have a0 : W3.cell? ⟨kb, 0, none⟩ = some (.string ⟨#[100]⟩) := ke.cell 0
  have a1 : W3.cell? ⟨kb, 1, none⟩ = some (.string ⟨#[114]⟩) := ke.cell 1
  have a2 : W3.cell? ⟨kb, 2, none⟩ = some (.int .i64 0) := ke.cell 2
  have a3 : W3.cell? ⟨kb, 3, none⟩ = some (.string ⟨#[113]⟩) := ke.cell 3
  clear hb3 ke
  go_wp2_with fail
  try rw [hW3]
  try rw [hkb]
  refine (lc_put H.out HI0.out HC.out kA shA vA (by decide) (by decide) 5 _ HE1.out).mono ?_
  rintro e w4 ⟨pa, pc, rfl, h4⟩
  have H := Lib.hid (h4.forget (O' := [.blk kb 23 (kC kA)]) fun p hp => List.mem_cons_of_mem _ hp)
  clear h4 hW3 hkb a0 a1 a2 a3
  have ke := H.out.blk (List.mem_cons_self ..)
  have a0 : w4.cell? ⟨kb, 0, none⟩ = some (.string ⟨#[100]⟩) := ke.cell 0
  have a1 : w4.cell? ⟨kb, 1, none⟩ = some (.string ⟨#[114]⟩) := ke.cell 1
  have a2 : w4.cell? ⟨kb, 2, none⟩ = some (.int .i64 0) := ke.cell 2
  have a3 : w4.cell? ⟨kb, 3, none⟩ = some (.string ⟨#[113]⟩) := ke.cell 3
  clear ke
  go_wp2_with fail
  refine (show Calls _ _ _ _ (RetC w C _ _ _ (.tuple #[.string vA, .bool true])) from lc_get H.out HI1.out HKE.out kA shA.fit (by decide) 7 _ HE2.out).mono ?_
  rintro e w5 ⟨rfl, h5⟩
  have i2 : InvS C.al C.ke s2 := by
    have hf := H.out.facts
    have := getR_inv HI1.out HKE.out hf.2.1 hf.2.2.1 kA 7
    rw [HE2.out] at this; exact this
  have HI2 := Lib.hid i2
  have H := Lib.hid h5
  clear h5 i2 a0 a1 a2 a3
  have ke := H.out.blk (List.mem_cons_self ..)
  have a0 : w5.cell? ⟨kb, 0, none⟩ = some (.string ⟨#[100]⟩) := ke.cell 0
  have a1 : w5.cell? ⟨kb, 1, none⟩ = some (.string ⟨#[114]⟩) := ke.cell 1
  have a2 : w5.cell? ⟨kb, 2, none⟩ = some (.int .i64 0) := ke.cell 2
  have a3 : w5.cell? ⟨kb, 3, none⟩ = some (.string ⟨#[113]⟩) := ke.cell 3
  clear ke
  go_wp2_with fail
  refine (show Calls _ _ _ _ (RetC w C _ _ _ (.tuple #[.string ⟨#[]⟩, .bool false])) from lc_get H.out HI2.out HKE.out kB shB.fit (by decide) 7 _ HE3.out).mono ?_
  rintro e w6 ⟨rfl, h6⟩
  have H := Lib.hid h6
  clear h6 a0 a1 a2 a3
  have ke := H.out.blk (List.mem_cons_self ..)
  have a0 : w6.cell? ⟨kb, 0, none⟩ = some (.string ⟨#[100]⟩) := ke.cell 0
  have a1 : w6.cell? ⟨kb, 1, none⟩ = some (.string ⟨#[114]⟩) := ke.cell 1
  have a2 : w6.cell? ⟨kb, 2, none⟩ = some (.int .i64 0) := ke.cell 2
  have a3 : w6.cell? ⟨kb, 3, none⟩ = some (.string ⟨#[113]⟩) := ke.cell 3
  clear ke
  go_wp2_with fail
  refine (lc_bytes H.out 25 z2).mono ?_
  rintro e w7 ⟨rfl, b7⟩
  have H := Lib.hid (H.out.below b7)
  clear b7 a0 a1 a2 a3
  have ke := H.out.blk (List.mem_cons_self ..)
  have a0 : w7.cell? ⟨kb, 0, none⟩ = some (.string ⟨#[100]⟩) := ke.cell 0
  have a1 : w7.cell? ⟨kb, 1, none⟩ = some (.string ⟨#[114]⟩) := ke.cell 1
  have a2 : w7.cell? ⟨kb, 2, none⟩ = some (.int .i64 0) := ke.cell 2
  have a3 : w7.cell? ⟨kb, 3, none⟩ = some (.string ⟨#[113]⟩) := ke.cell 3
  clear ke
  go_wp2_with fail
  refine (show Calls _ _ _ _ (RetC w C _ _ _ (.tuple #[.string ⟨#[]⟩, .bool false])) from lc_get H.out HI2.out HKE.out kA shA.fit (by decide) 8 _ HE4.out).mono ?_
  rintro e w8 ⟨rfl, h8⟩
  have H := Lib.hid h8
  clear h8 a0 a1 a2 a3
  have ke := H.out.blk (List.mem_cons_self ..)
  have a0 : w8.cell? ⟨kb, 0, none⟩ = some (.string ⟨#[100]⟩) := ke.cell 0
  have a1 : w8.cell? ⟨kb, 1, none⟩ = some (.string ⟨#[114]⟩) := ke.cell 1
  have a2 : w8.cell? ⟨kb, 2, none⟩ = some (.int .i64 0) := ke.cell 2
  have a3 : w8.cell? ⟨kb, 3, none⟩ = some (.string ⟨#[113]⟩) := ke.cell 3
  clear ke
  have HTX := Lib.hid (fun W => text_any kA shA.fit W)
  rw [show txt kA = tA by kernel_rfl] at HTX
  have HPX := Lib.hid (fun W => parse_any tA (by decide) W)
  unfold ParP at HPX
  rw [show parK tA = kA by kernel_rfl, show okP tA = true by kernel_rfl, show kyV kA = .agg #[.string ⟨#[100]⟩, .string ⟨#[114]⟩, .int .i64 0, .string ⟨#[113]⟩] from rfl] at HPX
  have HSX := Lib.hid (fun W => CA.size_any kA vA shA.fit (by decide) W)
  rw [xa3] at HSX
  go_wp2_with fail
  refine (HTX.out _).mono ?_
  rintro e w9 ⟨rfl, b9⟩
  have H := Lib.hid (H.out.below b9)
  clear b9 a0 a1 a2 a3
  have ke := H.out.blk (List.mem_cons_self ..)
  have a0 : w9.cell? ⟨kb, 0, none⟩ = some (.string ⟨#[100]⟩) := ke.cell 0
  have a1 : w9.cell? ⟨kb, 1, none⟩ = some (.string ⟨#[114]⟩) := ke.cell 1
  have a2 : w9.cell? ⟨kb, 2, none⟩ = some (.int .i64 0) := ke.cell 2
  have a3 : w9.cell? ⟨kb, 3, none⟩ = some (.string ⟨#[113]⟩) := ke.cell 3
  clear ke
  go_wp2_with fail
  refine (HPX.out _).mono ?_
  rintro e w10 ⟨rfl, b10⟩
  have H := Lib.hid (H.out.below b10)
  obtain ⟨W11, hW11⟩ : ∃ W, w10.alloc (.cells #[.string ⟨#[100]⟩, .string ⟨#[114]⟩, .int .i64 0, .string ⟨#[113]⟩] 23) = W := ⟨_, rfl⟩
  obtain ⟨nb, hnb⟩ : ∃ b, w10.heap.size = b := ⟨_, rfl⟩
  have hb11 : Below w10.heap.size w10 W11 := by rw [← hW11]; exact (Below.refl _ _).alloc (Nat.le_refl _) _
  have kn : Bk W11 nb 23 (kC kA) := by rw [← hW11, ← hnb]; exact Bk.new _ _ _
  have H := Lib.hid ((H.out.blkO hb11 (Nat.le_of_eq hnb) kn).forget (O' := [.blk kb 23 (kC kA), .blk nb 23 (kC kA)]) (by intro p hp; simp at hp ⊢; exact hp.symm))
  clear b10 hb11 kn a0 a1 a2 a3
  have ke := H.out.blk (List.mem_cons_self ..)
  have a0 : W11.cell? ⟨kb, 0, none⟩ = some (.string ⟨#[100]⟩) := ke.cell 0
  have a1 : W11.cell? ⟨kb, 1, none⟩ = some (.string ⟨#[114]⟩) := ke.cell 1
  have a2 : W11.cell? ⟨kb, 2, none⟩ = some (.int .i64 0) := ke.cell 2
  have a3 : W11.cell? ⟨kb, 3, none⟩ = some (.string ⟨#[113]⟩) := ke.cell 3
  clear ke
  have n0 : W11.cell? ⟨nb, 0, none⟩ = some (.string ⟨#[100]⟩) := (H.out.blk (List.mem_cons_of_mem _ (List.mem_cons_self ..))).cell 0
  have n1 : W11.cell? ⟨nb, 1, none⟩ = some (.string ⟨#[114]⟩) := (H.out.blk (List.mem_cons_of_mem _ (List.mem_cons_self ..))).cell 1
  have n2 : W11.cell? ⟨nb, 2, none⟩ = some (.int .i64 0) := (H.out.blk (List.mem_cons_of_mem _ (List.mem_cons_self ..))).cell 2
  have n3 : W11.cell? ⟨nb, 3, none⟩ = some (.string ⟨#[113]⟩) := (H.out.blk (List.mem_cons_of_mem _ (List.mem_cons_self ..))).cell 3
  have lv : vA.toList = [118] := by rw [Lib.toList_data]; rfl
  have lt : tA.toList = [100, 0, 114, 0, 0, 0, 113, 0] := by rw [Lib.toList_data]; rfl
  go_wp2_with fail
  try rw [hW11]
  try rw [hnb]
  refine (lc_bytes H.out 0 z4).mono ?_
  rintro e w12 ⟨rfl, b12⟩
  have H := Lib.hid (H.out.below b12)
  clear b12 a0 a1 a2 a3 n0 n1 n2 n3 hW11 hnb
  have ke := H.out.blk (List.mem_cons_self ..)
  have a0 : w12.cell? ⟨kb, 0, none⟩ = some (.string ⟨#[100]⟩) := ke.cell 0
  have a1 : w12.cell? ⟨kb, 1, none⟩ = some (.string ⟨#[114]⟩) := ke.cell 1
  have a2 : w12.cell? ⟨kb, 2, none⟩ = some (.int .i64 0) := ke.cell 2
  have a3 : w12.cell? ⟨kb, 3, none⟩ = some (.string ⟨#[113]⟩) := ke.cell 3
  have kn := H.out.blk (List.mem_cons_of_mem _ (List.mem_cons_self ..))
  have n0 : w12.cell? ⟨nb, 0, none⟩ = some (.string ⟨#[100]⟩) := kn.cell 0
  have n1 : w12.cell? ⟨nb, 1, none⟩ = some (.string ⟨#[114]⟩) := kn.cell 1
  have n2 : w12.cell? ⟨nb, 2, none⟩ = some (.int .i64 0) := kn.cell 2
  have n3 : w12.cell? ⟨nb, 3, none⟩ = some (.string ⟨#[113]⟩) := kn.cell 3
  clear ke kn
  go_wp2_with fail
  refine (HTX.out _).mono ?_
  rintro e w13 ⟨rfl, b13⟩
  have H := Lib.hid (H.out.below b13)
  clear b13 a0 a1 a2 a3 n0 n1 n2 n3
  have ke := H.out.blk (List.mem_cons_self ..)
  have a0 : w13.cell? ⟨kb, 0, none⟩ = some (.string ⟨#[100]⟩) := ke.cell 0
  have a1 : w13.cell? ⟨kb, 1, none⟩ = some (.string ⟨#[114]⟩) := ke.cell 1
  have a2 : w13.cell? ⟨kb, 2, none⟩ = some (.int .i64 0) := ke.cell 2
  have a3 : w13.cell? ⟨kb, 3, none⟩ = some (.string ⟨#[113]⟩) := ke.cell 3
  clear ke
  go_wp2_with fail
  refine (HSX.out _).mono ?_
  rintro e w14 ⟨rfl, b14⟩
  have H := Lib.hid (H.out.below b14)
  clear b14 a0 a1 a2 a3
  go_wp2
  go_ret
  exact ⟨rfl, H.out.bel⟩
end Go.Proofs.Ytjngangojgjceaa.CA
namespace Go.Proofs.Ytjngangojgjceaa.CA
open Go.ChangeShapes Go.WideShapes Go.ChangeAt Go.RowKit Go.Maps Go.ChangeMaps Go.Deep
open Go.Proofs.Ytjngangojgjceaa.SL Go.Proofs.Ytjngangojgjceaa.EX Go.Proofs.Ytjngangojgjceaa.RW
set_option maxRecDepth 100000
set_option linter.unusedVariables false
set_option linter.unusedSimpArgs false

theorem weightsAll_in {H : Type} {P : Program} {e : TypeId} : ∀ {l : List (DataW H)} {d : DataW H}, d ∈ l → ∀ n ∈ d.weights P e, n ∈ DataW.weightsAll P e l
  | [], _, h, _, _ => by cases h
  | x :: r, d, h, n, hn => by
    rcases List.mem_cons.1 h with rfl | h
    · simp [DataW.weightsAll, hn]
    · simp [DataW.weightsAll, weightsAll_in h n hn]
def kyB (k : Ky) : Prop := (-9223372036854775808 ≤ k.2.2.1 ∧ k.2.2.1 ≤ 9223372036854775807) ∧ k.1.size ≤ 140737488351232 ∧ k.2.1.size ≤ 140737488351232 ∧ k.2.2.2.size ≤ 140737488351232
def FitsK (W : World) (v : Value) : Prop := ∃ k : Ky, v = kyV k ∧ kyB k
theorem cellsO : Try.prog.cellsOf 43 = 7 := by kernel_rfl
section
variable {H : Type} {enc : TypeId × Value → H} {W : World}
theorem str_w {n : Nat} {c : Value} {x : DataW H × List MemPlace} (h : DataW.trod enc Try.prog W 0 (fun _ => true) true n 9 [c] = some x) : ∃ s : ByteArray, c = .string s ∧ s.size ∈ x.1.weights Try.prog 9 := by
  obtain ⟨s, e, d, _⟩ := DataW.trod_string Try.underlying9 h
  injection e with e _
  refine ⟨s, e, ?_⟩
  rw [d, Lib.size_eq]
  simp [DataW.weights]
theorem one_ky {n : Nat} {cs : List Value} {x : DataW H × List MemPlace} (ht : DataW.trod enc Try.prog W 0 (fun _ => true) true n 23 cs = some x) (hw : ∀ m ∈ x.1.weights Try.prog 23, m ≤ reachBytes) :
    ∃ k : Ky, cs = (kC k).toList ∧ kyB k := by
  obtain ⟨xs, m, _, hx, hl, hxl, hf⟩ := DataW.trod_struct Try.underlying23 ht
  rw [cellsK] at hl
  match cs, hl with
  | [c0, c1, c2, c3], _ =>
  match xs, hxl with
  | [y0, y1, y2, y3], _ =>
    have h0 : DataW.trod enc Try.prog W 0 (fun _ => true) true m 9 (List.take (Try.prog.cellsOf 9) (List.drop 0 [c0, c1, c2, c3])) = some y0 := hf 0 _ rfl
    have h1 : DataW.trod enc Try.prog W 0 (fun _ => true) true m 9 (List.take (Try.prog.cellsOf 9) (List.drop 1 [c0, c1, c2, c3])) = some y1 := hf 1 _ rfl
    have h2 : DataW.trod enc Try.prog W 0 (fun _ => true) true m 3 (List.take (Try.prog.cellsOf 3) (List.drop 2 [c0, c1, c2, c3])) = some y2 := hf 2 _ rfl
    have h3 : DataW.trod enc Try.prog W 0 (fun _ => true) true m 9 (List.take (Try.prog.cellsOf 9) (List.drop 3 [c0, c1, c2, c3])) = some y3 := hf 3 _ rfl
    have hW : ∀ (j : Nat) (t : TypeId) (D : DataW H), [9, 9, 3, 9][j]? = some t → [y0.1, y1.1, y2.1, y3.1][j]? = some D → ∀ q ∈ D.weights Try.prog t, q ≤ reachBytes := by
      intro j t D e1 e2 q hq
      refine hw q ?_
      rw [hx]
      simp only [DataW.weights, Try.underlying23]
      exact DataW.weights_mem_each e1 e2 q hq
    rw [cellsS] at h0 h1 h3
    rw [cellsI] at h2
    obtain ⟨x0, rfl, e0⟩ := str_w h0
    obtain ⟨x1, rfl, e1⟩ := str_w h1
    obtain ⟨x2, e2, _, w2⟩ := DataW.trod_int Try.underlying3 h2
    obtain ⟨x3, rfl, e3⟩ := str_w h3
    injection e2 with e2 _
    subst e2
    have r : reachBytes = 140737488351232 := rfl
    refine ⟨(x0, x1, x2, x3), rfl, SL.wf64 _ w2, ?_, ?_, ?_⟩
    · exact hW 0 _ _ rfl rfl _ e0
    · exact hW 1 _ _ rfl rfl _ e1
    · exact hW 3 _ _ rfl rfl _ e3
theorem openedK {base : Nat} {v : Value} {d : DataW H} {p : List MemPlace} (hv : Value.okWide Try.prog W .any base 23 v)
    (h : DataW.Trod enc Try.prog W 0 (fun _ => true) true 23 v d p) (hz : (DataW.weights Try.prog 23 d).all (· ≤ reachBytes) = true) : FitsK W v := by
  obtain ⟨cs, rfl, hsz, _⟩ : ∃ cs, v = .agg cs ∧ cs.size = Try.prog.cellsOf 23 ∧ Row.okWide Try.prog W .any base 23 cs := by
    simpa [Value.okWide, Try.underlying23] using hv
  obtain ⟨fuel, hf⟩ := h
  obtain ⟨k, hk, hb⟩ := one_ky hf fun m hm => of_decide_eq_true (List.all_eq_true.1 hz m hm)
  refine ⟨k, ?_, hb⟩
  have : cs.toList = (kC k).toList := by simpa [Value.cells] using hk
  show Value.agg cs = Value.agg (kC k)
  rw [Array.toList_inj.1 this]
/-- an operation: its kind, its key, its value, its time -/
abbrev Opc : Type := Int × Ky × ByteArray × Int
def opcC (o : Opc) : List Value := .int .i64 o.1 :: ((kC o.2.1).toList ++ [.string o.2.2.1, .int .i64 o.2.2.2])
def opcB (o : Opc) : Prop := (-9223372036854775808 ≤ o.1 ∧ o.1 ≤ 9223372036854775807) ∧ kyB o.2.1 ∧ o.2.2.1.size ≤ 140737488351232 ∧ (-9223372036854775808 ≤ o.2.2.2 ∧ o.2.2.2 ≤ 9223372036854775807)
theorem one_opc {n : Nat} {cs : List Value} {x : DataW H × List MemPlace} (ht : DataW.trod enc Try.prog W 0 (fun _ => true) true n 43 cs = some x) (hw : ∀ m ∈ x.1.weights Try.prog 43, m ≤ reachBytes) :
    ∃ o : Opc, cs = opcC o ∧ opcB o := by
  obtain ⟨xs, m, _, hx, hl, hxl, hf⟩ := DataW.trod_struct Try.underlying43 ht
  rw [cellsO] at hl
  match cs, hl with
  | [c0, c1, c2, c3, c4, c5, c6], _ =>
  match xs, hxl with
  | [y0, y1, y2, y3], _ =>
    have h0 : DataW.trod enc Try.prog W 0 (fun _ => true) true m 3 (List.take (Try.prog.cellsOf 3) (List.drop 0 [c0, c1, c2, c3, c4, c5, c6])) = some y0 := hf 0 _ rfl
    have h1 : DataW.trod enc Try.prog W 0 (fun _ => true) true m 23 (List.take (Try.prog.cellsOf 23) (List.drop 1 [c0, c1, c2, c3, c4, c5, c6])) = some y1 := hf 1 _ rfl
    have h2 : DataW.trod enc Try.prog W 0 (fun _ => true) true m 9 (List.take (Try.prog.cellsOf 9) (List.drop 5 [c0, c1, c2, c3, c4, c5, c6])) = some y2 := hf 2 _ rfl
    have h3 : DataW.trod enc Try.prog W 0 (fun _ => true) true m 3 (List.take (Try.prog.cellsOf 3) (List.drop 6 [c0, c1, c2, c3, c4, c5, c6])) = some y3 := hf 3 _ rfl
    have hW : ∀ (j : Nat) (t : TypeId) (D : DataW H), [3, 23, 9, 3][j]? = some t → [y0.1, y1.1, y2.1, y3.1][j]? = some D → ∀ q ∈ D.weights Try.prog t, q ≤ reachBytes := by
      intro j t D e1 e2 q hq
      refine hw q ?_
      rw [hx]
      simp only [DataW.weights, Try.underlying43]
      exact DataW.weights_mem_each e1 e2 q hq
    rw [cellsS] at h2
    rw [cellsI] at h0 h3
    rw [cellsK] at h1
    obtain ⟨x0, e0, _, w0⟩ := DataW.trod_int Try.underlying3 h0
    obtain ⟨x1, e1, b1⟩ := one_ky h1 (hW 1 _ _ rfl rfl)
    obtain ⟨x2, rfl, e2⟩ := str_w h2
    obtain ⟨x3, e3, _, w3⟩ := DataW.trod_int Try.underlying3 h3
    injection e0 with e0 _
    injection e3 with e3 _
    subst e0 e3
    have e1 : [c1, c2, c3, c4] = (kC x1).toList := e1
    refine ⟨(x0, x1, x2, x3), ?_, SL.wf64 _ w0, b1, hW 2 _ _ rfl rfl _ e2, SL.wf64 _ w3⟩
    show [_, c1, c2, c3, c4, _, _] = _ :: ((kC x1).toList ++ _)
    rw [← e1]; rfl
/-- v is a slice of operations that reads as l -/
def OpP (w : World) (v : Value) (l : List Opc) : Prop :=
  (∃ a cap, l = [] ∧ v = .slice a 0 cap) ∨ ∃ g off cap, v = .slice (some ⟨g, off, none⟩) l.length cap ∧ l.length ≤ cap ∧ ∀ (i : Nat) (o : Opc), l[i]? = some o → opcB o ∧ ∀ j u, (opcC o)[j]? = some u → w.cell? ⟨g, off + i * 7 + j, none⟩ = some u
def FitsP (W : World) (v : Value) : Prop := ∃ l, OpP W v l
theorem openedP {base : Nat} {v : Value} {d : DataW H} {p : List MemPlace} (hv : Value.okWide Try.prog W .any base 37 v)
    (h : DataW.Trod enc Try.prog W 0 (fun _ => true) true 37 v d p) (hz : (DataW.weights Try.prog 37 d).all (· ≤ reachBytes) = true) : FitsP W v := by
  obtain ⟨a, ln, cp, rfl⟩ := okWide_slice Try.underlying37 hv
  obtain ⟨fuel, hf⟩ := h
  have key : Value.slice a ln cp = .slice none 0 0 ∨ ∃ (l : List Opc) (ad : Addr) (cap : Nat), Value.slice a ln cp = .slice (some ad) l.length cap ∧ l.length ≤ cap ∧ ∀ (i : Nat) (o : Opc), l[i]? = some o → ∃ cs, (cs = opcC o ∧ opcB o) ∧ cs.length = 7 ∧ ∀ j, j < 7 → W.cell? ((ad.add (i * 7)).add j) = cs[j]? := by
    rcases open_slice Try.underlying37 hf with ⟨e, _⟩ | ⟨ad, len, cap, k, n, D, Pl, hcs, hb, hl, hm, hmm, hx, hi⟩
    · injection e with e _
      exact .inl e
    · injection hcs with hcs _
      rw [cellsO] at hi
      have hlm : len ≤ k := by rw [hmm]; simp; exact hl
      have key : ∀ j, j ≤ len → ∃ l : List Opc, l.length = j ∧ ∀ (i : Nat) (a : Opc), l[i]? = some a → ∃ cs, (cs = opcC a ∧ opcB a) ∧ cs.length = 7 ∧ ∀ j, j < 7 → W.cell? ((ad.add (i * 7)).add j) = cs[j]? := by
        intro j
        induction j with
        | zero => intro _; exact ⟨[], rfl, fun i x hi => by simp at hi⟩
        | succ j ih =>
          intro hj
          obtain ⟨l, h1, h2⟩ := ih (by omega)
          obtain ⟨cs', hc, ht⟩ := hi j (by omega)
          obtain ⟨_, hcl, hat⟩ := World.cells?_some hc
          obtain ⟨a, hq⟩ := one_opc ht (fun q hq => of_decide_eq_true (List.all_eq_true.1 hz q (by
            have : d = _ := congrArg Prod.fst hx
            rw [this]
            simp only [DataW.weights, Try.underlying37]
            exact List.mem_cons_of_mem _ (List.mem_append_left _ (weightsAll_in (List.mem_map.2 ⟨j, List.mem_range.2 (by omega), rfl⟩) _ hq)))))
          refine ⟨l ++ [a], by simp [h1], fun i x hx' => ?_⟩
          by_cases hij : i < l.length
          · rw [List.getElem?_append_left hij] at hx'
            exact h2 i x hx'
          · have hlt := (List.getElem?_eq_some_iff.1 hx').1
            have hie : i = j := by simp at hlt; omega
            subst hie
            rw [List.getElem?_append_right (by omega), h1, Nat.sub_self] at hx'
            simp at hx'
            subst hx'
            exact ⟨cs', hq, hcl, fun q hq2 => hat q hq2⟩
      obtain ⟨l, h1, h2⟩ := key len (Nat.le_refl _)
      exact .inr ⟨l, ad, cap, by rw [hcs, h1], by omega, h2⟩
  rcases key with e | ⟨l, ad, cap, e, hc, h2⟩
  · rw [e]; exact ⟨[], .inl ⟨_, _, rfl, rfl⟩⟩
  · rw [e]
    refine ⟨l, ?_⟩
    by_cases h0 : l = []
    · subst h0; exact .inl ⟨_, _, rfl, rfl⟩
    · obtain ⟨x, hx0⟩ : ∃ x, l[0]? = some x := ⟨l[0]'(by cases l; exact absurd rfl h0; simp), List.getElem?_eq_getElem _⟩
      obtain ⟨cs, ⟨rfl, _⟩, _, hat⟩ := h2 0 x hx0
      have c0 := hat 0 (by omega)
      have e0 : (ad.add (0 * 7)).add 0 = ad := by simp [Addr.add]
      rw [e0] at c0
      have hsp := SL.spot_none (x := .int .i64 x.1) c0
      obtain ⟨bl, of, sp⟩ := ad
      simp only at hsp
      subst hsp
      refine .inr ⟨bl, of, cap, rfl, hc, fun i y hy => ?_⟩
      obtain ⟨cs, ⟨rfl, hb⟩, hl7, hat⟩ := h2 i y hy
      refine ⟨hb, fun j u hu => ?_⟩
      have hj : j < 7 := by have := (List.getElem?_eq_some_iff.1 hu).1; omega
      have := hat j hj
      rw [hu] at this
      simpa only [Addr.add_lit] using this
def Fits4i (W : World) (v : Value) : Prop := ∃ a b c d : Int, v = .agg #[.int .i64 a, .int .i64 b, .int .i64 c, .int .i64 d] ∧ (-9223372036854775808 ≤ a ∧ a ≤ 9223372036854775807) ∧ (-9223372036854775808 ≤ b ∧ b ≤ 9223372036854775807) ∧ (-9223372036854775808 ≤ c ∧ c ≤ 9223372036854775807) ∧ (-9223372036854775808 ≤ d ∧ d ≤ 9223372036854775807)
theorem OpP.below {w w' : World} {v : Value} {l : List Opc} (h : OpP w v l) (hb : Below w.heap.size w w') : OpP w' v l := by
  rcases h with h | ⟨g, off, cap, e, hc, hx⟩
  · exact .inl h
  · refine .inr ⟨g, off, cap, e, hc, fun i o hi => ⟨(hx i o hi).1, fun j u hu => ?_⟩⟩
    have h1 := (hx i o hi).2 j u hu
    exact (hb.cell (World.block_lt_of_cell? w _ h1)).trans h1
theorem OpP.form {w : World} {v : Value} {l : List Opc} (h : OpP w v l) : ∃ a cap, v = .slice a l.length cap := by
  rcases h with ⟨a, cap, rfl, rfl⟩ | ⟨g, off, cap, rfl, _⟩
  · exact ⟨_, _, rfl⟩
  · exact ⟨_, _, rfl⟩
theorem OpP.inv {w : World} {v : Value} {l : List Opc} (h : OpP w v l) (hp : 0 < l.length) : ∃ g off cap, v = .slice (some ⟨g, off, none⟩) l.length cap ∧ l.length ≤ cap ∧ ∀ (i : Nat) (o : Opc), l[i]? = some o → opcB o ∧ ∀ j u, (opcC o)[j]? = some u → w.cell? ⟨g, off + i * 7 + j, none⟩ = some u := by
  rcases h with ⟨a, cap, rfl, rfl⟩ | h
  · simp at hp
  · exact h
end
/-! ### short -/
def shK (k : Ky) : Bool := decide (k.1.size + k.2.1.size + k.2.2.2.size ≤ 500)
theorem kyB.sh {k : Ky} (h : kyB k) (hs : shK k = true) : kSh k := ⟨by have := of_decide_eq_true hs; omega, h.1⟩
set_option maxHeartbeats 2000000 in
theorem short_any (k : Ky) (hk : kyB k) (w : World) :
    Calls Try.prog 6 #[kyV k] w fun e w' => e = .returned (.bool (shK k)) ∧ Below w.heap.size w w' := by
  obtain ⟨db, ro, fm, no⟩ := k
  obtain ⟨_, h1, h2, h3⟩ := hk
  simp only at h1 h2 h3
  obtain ⟨R, hR⟩ : ∃ R, shK (db, ro, fm, no) = R := ⟨_, rfl⟩
  have HR : R = decide (db.size + ro.size + no.size ≤ 500) := by rw [← hR]; rfl
  rw [hR]
  obtain ⟨a, ha⟩ : ∃ a, db.size = a := ⟨_, rfl⟩
  obtain ⟨b, hb⟩ : ∃ a, ro.size = a := ⟨_, rfl⟩
  obtain ⟨c, hc⟩ : ∃ a, no.size = a := ⟨_, rfl⟩
  have ea := Lib.hid ha
  rw [ha, hb, hc] at HR
  have w1 : IntKind.i64.wrap ((db.size : Int) + (ro.size : Int)) = (db.size : Int) + (ro.size : Int) := IntWalk.i64_in _ (by omega)
  have w2 : IntKind.i64.wrap ((db.size : Int) + (ro.size : Int) + (no.size : Int)) = (db.size : Int) + (ro.size : Int) + (no.size : Int) := IntWalk.i64_in _ (by omega)
  have hd : decide ((db.size : Int) + (ro.size : Int) + (no.size : Int) ≤ 500) = R := by
    rw [HR, Bool.eq_iff_iff, decide_eq_true_iff, decide_eq_true_iff]; omega
  clear h1 h2 h3 hR HR ha hb hc ea
  go_enter Try.func6, Try.ntmps6
  go_wp2
  go_ret
  refine ⟨?_, (Below.refl _ _).alloc (Nat.le_refl _) _⟩
  rw [← hd]; rfl
end Go.Proofs.Ytjngangojgjceaa.CA
namespace Go.Proofs.Ytjngangojgjceaa.CA
open Go.ChangeShapes Go.WideShapes Go.ChangeAt Go.RowKit Go.Maps Go.ChangeMaps
open Go.Proofs.Ytjngangojgjceaa.SL Go.Proofs.Ytjngangojgjceaa.EX Go.Proofs.Ytjngangojgjceaa.RW
set_option maxRecDepth 100000
set_option linter.unusedVariables false
set_option linter.unusedSimpArgs false

def eqK (a b : Ky) : Bool := (a.1.toList == b.1.toList) && (a.2.1.toList == b.2.1.toList) && (a.2.2.1 == b.2.2.1) && (a.2.2.2.toList == b.2.2.2.toList)
theorem eqK_iff {a b : Ky} : eqK a b = true ↔ a = b := by
  unfold eqK
  rw [tl_dec, tl_dec, tl_dec]
  simp only [Bool.and_eq_true, decide_eq_true_iff, beq_iff_eq]
  obtain ⟨a1, a2, a3, a4⟩ := a
  obtain ⟨b1, b2, b3, b4⟩ := b
  simp only [Prod.mk.injEq]
  exact ⟨fun h => ⟨h.1.1.1, h.1.1.2, h.1.2, h.2⟩, fun h => ⟨⟨⟨h.1, h.2.1⟩, h.2.2.1⟩, h.2.2.2⟩⟩
theorem eql_ky (a b : Ky) (w : World) : (binOp .eql 23 (kyV a) (kyV b)).run Try.prog w = .ok (.bool (eqK a b)) w := by
  obtain ⟨a1, a2, a3, a4⟩ := a
  obtain ⟨b1, b2, b3, b4⟩ := b
  unfold eqK
  cases h1 : (a1.toList == b1.toList) <;> cases h2 : (a2.toList == b2.toList) <;> cases h3 : (a3 == b3) <;> cases h4 : (a4.toList == b4.toList) <;> go_simp
end Go.Proofs.Ytjngangojgjceaa.CA
namespace Go.Proofs.Ytjngangojgjceaa
open Go.ChangeShapes Go.WideShapes Go.ChangeAt Go.RowKit
set_option linter.unusedVariables false

theorem rput16_any (s : ByteArray) (n : Int) (hs : s.size ≤ 281474976710656) (w : World) :
    Calls Try.prog 28 #[.string s, .int .i64 n] w fun e w' => e = .returned (.string (put16 s n)) ∧ Below w.heap.size w w' := by
  have hconv : (convert 97 9 (.slice (some ⟨w.heap.size, 0, none⟩) 2 2)).run Try.prog (w.alloc (.cells #[.int .u8 (n / 256 % 256), .int .u8 (n % 256)] 5)) = .ok (.string ⟨#[byt (n / 256), byt n]⟩) (w.alloc (.cells #[.int .u8 (n / 256 % 256), .int .u8 (n % 256)] 5)) := by
    refine run_convert_bytes_back (P := Try.prog) _ 97 9 5 _ 2 [byt (n / 256), byt n] Try.underlying97 Try.underlying5 Try.underlying9 ?_
    intro j hj
    match j, hj with
    | 0, _ => simp [byt_toNat, Addr.add, go_sem]
    | 1, _ => simp [byt_toNat, Addr.add, go_sem]
  go_enter Try.func28, Try.ntmps28
  go_wp2
  go_ret
  exact ⟨rfl, (Below.refl _ _).alloc (Nat.le_refl _) _⟩

theorem zix_ne (t : ByteArray) (k : Nat) (h : k < zix t) (hk : k < t.size) : t[k] ≠ 0 := by
  have hget : t.data.toList[k]? = some t[k] := by
    rw [List.getElem?_eq_getElem (by rw [← Lib.size_eq]; exact hk)]; rfl
  intro e
  rw [e] at hget
  by_cases hx : Lib.indexByte t.data.toList 0 = -1
  · exact Lib.indexByte_none hx k hget
  · exact (Lib.indexByte_some (zix_lt t hx).2).2 k h hget
theorem zix_eq (t : ByteArray) (h : zix t < t.size) : t[zix t] = 0 := by
  by_cases hx : Lib.indexByte t.data.toList 0 = -1
  · unfold zix at h; rw [if_pos hx] at h; omega
  · have hget := (Lib.indexByte_some (zix_lt t hx).2).1
    rw [List.getElem?_eq_getElem (by rw [← Lib.size_eq]; exact h)] at hget
    exact Option.some.inj hget
theorem toNat_ne (b : UInt8) (h : b ≠ 0) : ((b.toNat : Int) != 0) = true := by
  simp; intro e; apply h; exact UInt8.toNat_inj.1 e

theorem rputText_any (s t : ByteArray) (w : World) (hs : s.size ≤ 281474976710656) (ht : t.size ≤ 281474976710656) :
    Calls Try.prog 27 #[.string s, .string t] w fun e w' => e = .returned (.string (putText s t)) ∧ w' = w := by
  have hz := zix_le t
  go_enter Try.func27, Try.ntmps27
  go_wp2
  go_loop [5] (fun i => ∃ k : Nat, k ≤ zix t ∧ i = .int .i64 k) (fun i => t.size - (intOf i).toNat)
  case atStart => exact ⟨0, Nat.zero_le _, rfl⟩
  case round =>
    obtain ⟨k, hk, rfl⟩ := hrel
    by_cases hlt : k < zix t
    · have h1 : k < t.size := by omega
      have h2 := toNat_ne _ (zix_ne t k hlt h1)
      have h3 : decide (k < t.size) = true := by simpa using h1
      go_wp2
      go_round
      case rel => exact ⟨k + 1, by omega, by go_num⟩
      case measure => simp [intOf]; omega
    · have e : k = zix t := by omega
      subst e
      have hh := head0_size t
      have hH : (t.extract 0 (zix t)).size ≤ 281474976710656 := by have := head0_size t; unfold head0 at this; omega
      clear hh hlt hk
      by_cases h1 : zix t < t.size
      · have h2 := zix_eq t h1
        have h4 : ((t[zix t].toNat : Int) != 0) = false := by rw [h2]; rfl
        clear h2
        go_wp2
        go_ret
        exact ⟨rfl, rfl⟩
      · have h3 : decide (zix t < t.size) = false := by simpa using h1
        go_wp2
        go_ret
        exact ⟨rfl, rfl⟩

theorem rgetBytes_any (s : ByteArray) (a n : Int) (w : World) (hs : s.size ≤ 281474976710656) :
    Calls Try.prog 45 #[.string s, .int .i64 a, .int .i64 n] w fun e w' => e = .returned (res3 (gBytes s a n)) ∧ w' = w := by
  by_cases hn : n < 0
  · have e : gBytes s a n = (⟨#[]⟩, 0, 1) := by unfold gBytes; rw [if_pos hn]
    rw [e]; clear e
    by_cases h0 : a < 0
    · go_enter Try.func45, Try.ntmps45
      go_wp2
      go_ret3
      exact ⟨rfl, rfl⟩
    · by_cases h1 : (s.size : Int) < a
      · go_enter Try.func45, Try.ntmps45
        go_wp2
        go_ret3
        exact ⟨rfl, rfl⟩
      · go_enter Try.func45, Try.ntmps45
        go_wp2
        go_ret3
        exact ⟨rfl, rfl⟩
  · by_cases h0 : a < 0
    · have e : gBytes s a n = (⟨#[]⟩, 0, 1) := by unfold gBytes; rw [if_neg hn, if_pos (by unfold insB; exact decide_eq_false (by omega))]
      rw [e]; clear e
      go_enter Try.func45, Try.ntmps45
      go_wp2
      go_ret3
      exact ⟨rfl, rfl⟩
    · by_cases h1 : (s.size : Int) < a
      · have e : gBytes s a n = (⟨#[]⟩, 0, 1) := by unfold gBytes; rw [if_neg hn, if_pos (by unfold insB; exact decide_eq_false (by omega))]
        rw [e]; clear e
        go_enter Try.func45, Try.ntmps45
        go_wp2
        go_ret3
        exact ⟨rfl, rfl⟩
      · have hi : insB s.size a = true := by unfold insB; exact decide_eq_true (by omega)
        by_cases hl : (s.size : Int) - a < n
        · have e : gBytes s a n = (⟨#[]⟩, 0, 3) := by unfold gBytes; rw [if_neg hn, if_neg (by rw [hi]; decide), if_pos hl]
          rw [e]; clear e hi
          go_enter Try.func45, Try.ntmps45
          go_wp2
          go_ret3
          exact ⟨rfl, rfl⟩
        · have e : gBytes s a n = (s.extract a.toNat (a + n).toNat, a + n, 0) := by unfold gBytes; rw [if_neg hn, if_neg (by rw [hi]; decide), if_neg hl]
          rw [e]; clear e hi
          have h3 : a ≤ a + n := by omega
          have h4 : a + n ≤ s.size := by omega
          have h5 : 0 ≤ a + n := by omega
          have h6 : 0 ≤ a := by omega
          have h7 : 0 ≤ n := by omega
          go_enter Try.func45, Try.ntmps45
          go_wp2
          go_ret3
          exact ⟨rfl, rfl⟩

theorem g16_no (s : ByteArray) (a : Int) (hc : insB s.size a = false ∨ (s.size : Int) - a < 2) :
    ∃ c, gBytes s a 2 = (⟨#[]⟩, 0, c) ∧ (c != 0) = true ∧ g16 s a = (0, 0, c) := by
  unfold gBytes g16
  rw [if_neg (by decide)]
  by_cases hi : insB s.size a = false
  · rw [if_pos hi, if_pos hi]; exact ⟨1, rfl, rfl, rfl⟩
  · have h : (s.size : Int) - a < 2 := by rcases hc with hc | hc; exact absurd hc hi; exact hc
    rw [if_neg hi, if_neg hi, if_pos h, if_pos h]; exact ⟨3, rfl, rfl, rfl⟩
theorem g32_no (s : ByteArray) (a : Int) (hc : insB s.size a = false ∨ (s.size : Int) - a < 4) :
    ∃ c, gBytes s a 4 = (⟨#[]⟩, 0, c) ∧ (c != 0) = true ∧ g32 s a = (0, 0, c) := by
  unfold gBytes g32
  rw [if_neg (by decide)]
  by_cases hi : insB s.size a = false
  · rw [if_pos hi, if_pos hi]; exact ⟨1, rfl, rfl, rfl⟩
  · have h : (s.size : Int) - a < 4 := by rcases hc with hc | hc; exact absurd hc hi; exact hc
    rw [if_neg hi, if_neg hi, if_pos h, if_pos h]; exact ⟨3, rfl, rfl, rfl⟩
theorem g16_yes (s : ByteArray) (a : Int) (hi : insB s.size a = true) (hl : 2 ≤ (s.size : Int) - a) :
    ∃ r : ByteArray, r.size = 2 ∧ gBytes s a 2 = (r, a + 2, 0) ∧ g16 s a = (sgn16 (beN r.data.toList), a + 2, 0) := by
  have hi2 : 0 ≤ a ∧ a ≤ s.size := by simpa [insB] using hi
  refine ⟨s.extract a.toNat (a + 2).toNat, by simp; omega, ?_, ?_⟩
  · unfold gBytes; rw [if_neg (by decide), if_neg (by rw [hi]; decide), if_neg (by omega)]
  · unfold g16; rw [if_neg (by rw [hi]; decide), if_neg (by omega)]
theorem g32_yes (s : ByteArray) (a : Int) (hi : insB s.size a = true) (hl : 4 ≤ (s.size : Int) - a) :
    ∃ r : ByteArray, r.size = 4 ∧ gBytes s a 4 = (r, a + 4, 0) ∧ g32 s a = (sgn32 (beN r.data.toList), a + 4, 0) := by
  have hi2 : 0 ≤ a ∧ a ≤ s.size := by simpa [insB] using hi
  refine ⟨s.extract a.toNat (a + 4).toNat, by simp; omega, ?_, ?_⟩
  · unfold gBytes; rw [if_neg (by decide), if_neg (by rw [hi]; decide), if_neg (by omega)]
  · unfold g32; rw [if_neg (by rw [hi]; decide), if_neg (by omega)]
theorem beN_take (r : ByteArray) (k : Nat) (h : k < r.size) : beN (r.data.toList.take (k + 1)) = beN (r.data.toList.take k) * 256 + r[k].toNat := by
  rw [take_snoc r k h, beN_snoc]
theorem beN_two (r : ByteArray) (h : r.size ≤ 2) (h0 : 0 < r.size) (h1 : 1 < r.size) : beN r.data.toList = r[0].toNat * 256 + r[1].toNat := by
  have e : r.data.toList.take 2 = r.data.toList := List.take_of_length_le (by rw [← Lib.size_eq]; exact h)
  have k1 : beN (r.data.toList.take 2) = beN (r.data.toList.take 1) * 256 + r[1].toNat := beN_take r 1 h1
  have k0 : beN (r.data.toList.take 1) = beN (r.data.toList.take 0) * 256 + r[0].toNat := beN_take r 0 h0
  have hz : beN (r.data.toList.take 0) = 0 := by rw [List.take_zero]; rfl
  rw [← e, k1, k0, hz, Nat.zero_mul, Nat.zero_add]
theorem res3_err (c : Int) : res3 (⟨#[]⟩, 0, c) = .tuple #[.string ⟨#[]⟩, .int .i64 0, .int .i64 c] := rfl
theorem res3_ok (r : ByteArray) (k : Int) : res3 (r, k, 0) = .tuple #[.string r, .int .i64 k, .int .i64 0] := rfl

theorem ref16 (x y : Nat) (hx : (x : Int) < 256) (hy : (y : Int) < 256) : wrap64 (wrap64 (256 * wrap64 (x : Int)) + wrap64 (y : Int)) = 256 * (x : Int) + y := by unfold wrap64; omega
theorem ref16b (x y : Nat) (hx : (x : Int) < 256) (hy : (y : Int) < 256) (h : 32768 ≤ 256 * (x : Int) + y) : wrap64 (256 * (x : Int) + y - 65536) = sgn16 (x * 256 + y) := by
  unfold sgn16 wrap64; rw [if_neg (by omega)]; omega
theorem ref16c (x y : Nat) (hx : (x : Int) < 256) (hy : (y : Int) < 256) (h : ¬ 32768 ≤ 256 * (x : Int) + y) : 256 * (x : Int) + y = sgn16 (x * 256 + y) := by
  unfold sgn16; rw [if_pos (by omega)]; omega

set_option maxRecDepth 100000 in
theorem rget16_any (s : ByteArray) (a : Int) (w : World) (hs : s.size ≤ 281474976710656) :
    Calls Try.prog 22 #[.string s, .int .i64 a] w fun e w' => e = .returned (int3 (g16 s a)) ∧ Below w.heap.size w w' := by
  by_cases hc : insB s.size a = false ∨ (s.size : Int) - a < 2
  · obtain ⟨c, e1, hne, e2⟩ := g16_no s a hc
    have d := fun w => rgetBytes_any s a 2 w hs
    rw [e1, res3_err] at d
    rw [e2]; clear e1 e2 hc
    go_enter Try.func22, Try.ntmps22
    go_wp2_with (go_at_call 45; refine (d _).mono ?_; rintro e w1 ⟨rfl, rfl⟩)
    go_ret3
    exact ⟨rfl, Below.refl _ _⟩
  · have hi : insB s.size a = true := by cases h : insB s.size a; exact absurd (.inl h) hc; rfl
    have hl : ¬ (s.size : Int) - a < 2 := fun h => hc (.inr h)
    have hi2 : 0 ≤ a ∧ a ≤ s.size := by simpa [insB] using hi
    obtain ⟨r, hr, e1, e2⟩ := g16_yes s a hi (by omega)
    have d := fun w => rgetBytes_any s a 2 w hs
    rw [e1, res3_ok] at d
    have q0 : 0 < r.size := by omega
    have q1 : 1 < r.size := by omega
    have hB := beN_two r (by omega) q0 q1
    have r0 : (0 : Int) < r.size := by omega
    have r1 : (1 : Int) < r.size := by omega
    have b0 : (r[0].toNat : Int) < 256 := by have := r[0].toNat_lt; omega
    have b1 : (r[1].toNat : Int) < 256 := by have := r[1].toNat_lt; omega
    rw [e2, hB]; clear e1 e2 hc hi hl hB hr
    have B0 := Lib.hid b0
    have B1 := Lib.hid b1
    clear b0 b1
    go_enter Try.func22, Try.ntmps22
    go_wp2_with (go_at_call 45; refine (d _).mono ?_; rintro e w1 ⟨rfl, rfl⟩)
    go_quiet (fail)
    go_wp2
    · have hbig : (32768 : Int) ≤ wrap64 (wrap64 ((256 : Int) * wrap64 (r[0].toNat : Int)) + wrap64 (r[1].toNat : Int)) := by assumption
      go_ret3
      refine ⟨?_, below_drewN (Below.refl _ _) _⟩
      show Ending.returned (.tuple #[.int .i64 (wrap64 (wrap64 (wrap64 ((256 : Int) * wrap64 (r[0].toNat : Int)) + wrap64 (r[1].toNat : Int)) - (65536 : Int))), .int .i64 (a + (2 : Int)), .int .i64 0]) = _
      rw [ref16 _ _ B0.out B1.out] at hbig ⊢
      rw [ref16b _ _ B0.out B1.out hbig]; rfl
    · have hbig : ¬ (32768 : Int) ≤ wrap64 (wrap64 ((256 : Int) * wrap64 (r[0].toNat : Int)) + wrap64 (r[1].toNat : Int)) := by (have h : wrap64 (wrap64 ((256 : Int) * wrap64 (r[0].toNat : Int)) + wrap64 (r[1].toNat : Int)) < (32768 : Int) := by assumption); omega
      go_ret3
      refine ⟨?_, below_drewN (Below.refl _ _) _⟩
      show Ending.returned (.tuple #[.int .i64 (wrap64 (wrap64 ((256 : Int) * wrap64 (r[0].toNat : Int)) + wrap64 (r[1].toNat : Int))), .int .i64 (a + (2 : Int)), .int .i64 0]) = _
      rw [ref16 _ _ B0.out B1.out] at hbig ⊢
      rw [ref16c _ _ B0.out B1.out hbig]; rfl

theorem ref32 (m : Nat) (b : Nat) (hm : m < 16777216) (hb : b < 2 ^ 8) : Value.int .i64 (wrap64 (wrap64 ((256 : Int) * (m : Int)) + wrap64 (b : Int))) = Value.int .i64 ((m * 256 + b : Nat) : Int) := by
  congr 1; unfold wrap64; omega

theorem ref32b (n : Nat) (h : n < 256 ^ 4) (h2 : (2147483648 : Int) ≤ (n : Int)) : wrap64 ((n : Int) - (4294967296 : Int)) = sgn32 n := by
  unfold sgn32 wrap64; rw [if_neg (by omega)]; omega
theorem ref32c (n : Nat) (h2 : (n : Int) < (2147483648 : Int)) : (n : Int) = sgn32 n := by
  unfold sgn32; rw [if_pos (by omega)]

/-- the bytes of s from A on, byte by byte -/
theorem ext_get (s : ByteArray) (A k : Nat) (h : k < (s.extract A s.size).size) (h2 : A + k < s.size) : (s.extract A s.size)[k] = s[A + k] := ByteArray.getElem_extract h

theorem rgetText_any (s : ByteArray) (a : Int) (w : World) (hs : s.size ≤ 281474976710656) :
    Calls Try.prog 21 #[.string s, .int .i64 a] w fun e w' => e = .returned (res3 (gText s a)) ∧ w' = w := by
  by_cases h0 : a < 0
  · have e : gText s a = (⟨#[]⟩, 0, 1) := by unfold gText; rw [if_pos (by unfold insB; exact decide_eq_false (by omega))]
    rw [e]; clear e
    go_enter Try.func21, Try.ntmps21
    go_wp2
    go_ret3
    exact ⟨rfl, rfl⟩
  · by_cases h1 : (s.size : Int) < a
    · have e : gText s a = (⟨#[]⟩, 0, 1) := by unfold gText; rw [if_pos (by unfold insB; exact decide_eq_false (by omega))]
      rw [e]; clear e
      go_enter Try.func21, Try.ntmps21
      go_wp2
      go_ret3
      exact ⟨rfl, rfl⟩
    · obtain ⟨A, rfl⟩ : ∃ A : Nat, a = A := ⟨a.toNat, by omega⟩
      have hA : A ≤ s.size := by omega
      have hi : insB s.size A = true := by unfold insB; exact decide_eq_true (by omega)
      obtain ⟨b, hb⟩ : ∃ b, s.extract A s.size = b := ⟨_, rfl⟩
      have hbs : b.size = s.size - A := by rw [← hb]; simp
      have hz := zix_le b
      have hbit : ∀ k, k < b.size → ∀ h2 : A + k < s.size, (h : k < b.size) → b[k] = s[A + k] := by
        intro k _ h2 h; subst hb; exact ext_get s A k h h2
      have G := Lib.hid (show gText s A = if zix b < b.size then (s.extract A (A + zix b), (A : Int) + zix b + 1, 0) else (⟨#[]⟩, 0, 3) by
        unfold gText
        rw [if_neg (by rw [hi]; decide), Int.toNat_natCast, hb]
        by_cases hx : Lib.indexByte b.data.toList 0 = -1
        · rw [if_pos hx, if_neg (by unfold zix; rw [if_pos hx]; omega)]
        · obtain ⟨g1, g2⟩ := zix_lt b hx
          rw [if_neg hx, if_pos g1, g2, show ((A : Int) + (zix b : Int)).toNat = A + zix b by omega])
      have hm := Lib.hid hbit
      have hbs2 : b.size ≤ s.size - A := by omega
      have hbs3 : s.size - A ≤ b.size := by omega
      clear hbit hb hbs hi
      go_enter Try.func21, Try.ntmps21
      go_wp2
      go_loop [7] (fun i => ∃ k : Nat, k ≤ zix b ∧ i = .int .i64 ((A + k : Nat) : Int)) (fun i => s.size - (intOf i).toNat)
      case atStart => exact ⟨0, Nat.zero_le _, rfl⟩
      case round =>
        obtain ⟨k, hk, rfl⟩ := hrel
        by_cases hlt : k < zix b
        · have h3 : A + k < s.size := by omega
          have h4 : k < b.size := by omega
          have h5 := zix_ne b k hlt h4
          rw [hm.out k h4 h3 h4] at h5
          have h6 : ((s[A + k].toNat : Int) == 0) = false := by have := toNat_ne _ h5; simpa using this
          clear h5
          go_wp2
          go_round
          case rel => exact ⟨k + 1, by omega, by go_num⟩
          case measure => simp [intOf]; omega
        · have e : k = zix b := by omega
          by_cases h3 : zix b < b.size
          · have h7 : A + k < s.size := by omega
            have h4 : k < b.size := by omega
            have h5 : b[k] = 0 := by subst e; exact zix_eq b h3
            rw [hm.out k h4 h7 h4] at h5
            have h6 : ((s[A + k].toNat : Int) == 0) = true := by rw [h5]; rfl
            have G2 := Lib.hid (show gText s A = (s.extract A (A + k), (A : Int) + k + 1, 0) by rw [G.out, if_pos h3, e])
            clear h5 e G
            have f1 : (A : Int) ≤ (A : Int) + (k : Int) := by omega
            have f2 : (A : Int) + (k : Int) ≤ s.size := by omega
            have f3 : 0 ≤ (A : Int) + (k : Int) := by omega
            have f4 : ((A : Int) + (k : Int)).toNat = A + k := by omega
            go_wp2
            go_ret3
            rw [G2.out]
            exact ⟨rfl, rfl⟩
          · have h7 : ¬ A + k < s.size := by omega
            have G2 := Lib.hid (show gText s A = (⟨#[]⟩, 0, 3) by rw [G.out, if_neg h3])
            clear e G
            go_wp2
            go_ret3
            rw [G2.out]
            exact ⟨rfl, rfl⟩
end Go.Proofs.Ytjngangojgjceaa
