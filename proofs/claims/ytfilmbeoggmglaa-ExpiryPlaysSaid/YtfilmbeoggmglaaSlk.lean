/- Layer 10's known is true. No condition. -/
import Derived.Test.YtfilmbeoggmglaaSlz
namespace Go.Proofs.Ytfilmbeoggmglaa.SL
open Go.ChangeShapes Go.WideShapes Go.ChangeAt Go.RowKit Go.Maps Go.ChangeMaps
set_option maxRecDepth 100000
set_option linter.unusedVariables false
set_option linter.unusedSimpArgs false

abbrev ka : ByteArray := ⟨#[97]⟩
abbrev kb : ByteArray := ⟨#[98]⟩
abbrev kc : ByteArray := ⟨#[99]⟩
abbrev kd : ByteArray := ⟨#[100]⟩
theorem k1 : putE 10 ka 4 [] [] = ([(ka, 4)], [], []) := by kernel_rfl
theorem k2 : putE 10 kb 4 [(ka, 4)] [] = ([(kb, 4), (ka, 4)], [], []) := by kernel_rfl
theorem k3 : hasS ka [(kb, 4), (ka, 4)] [] = some 4 := by kernel_rfl
theorem k4 : touchE 6 ka 4 [(kb, 4), (ka, 4)] [] = ([(kb, 4)], [(ka, 4)], []) := by kernel_rfl
theorem k5 : putE 10 kc 4 [(kb, 4)] [(ka, 4)] = ([(kc, 4)], [(ka, 4)], [kb]) := by kernel_rfl
theorem k6 : hasS ka [(kc, 4)] [(ka, 4)] = some 4 := by kernel_rfl
theorem k7 : hasS kb [(kc, 4)] [(ka, 4)] = none := by kernel_rfl
theorem k8 : (hasS kc [(kc, 4)] [(ka, 4)]).isSome = true := by kernel_rfl
theorem k9 : delE kc [(kc, 4)] = [] := by kernel_rfl
theorem k10 : delE kc [(ka, 4)] = [(ka, 4)] := by kernel_rfl
theorem k11 : (hasS kc [] [(ka, 4)]).isSome = false := by kernel_rfl
theorem kLe_k {l : List En} (h : l.all (fun y => decide (y.1.size ≤ 281474976710656)) = true) : kLe l := fun y hy => of_decide_eq_true (List.all_eq_true.1 h y hy)
section
variable {w0 w : World} {g n : Nat} {al ke mo : Int} {T K : List En} {O : List Kp}
theorem put_to (h : LS w0 w g n al ke mo T K O) (hal : mo ≤ al ∧ al ≤ 1073741824) (hn : n < 1099511627776) (hT : kLe T) (hK : kLe K) (k : ByteArray) (hk : k.size ≤ 281474976710656) (z : Int) (hz : 1 ≤ z) (hm : z ≤ mo) (R : List En × List En × List ByteArray) (hR : putE al k z T K = R) :
    Calls Try.prog 11 #[ptr g, .string k, .int .i64 z] w (PutP w0 g (n + 1) al ke mo R (.int .i64 0) O) := by
  subst hR; exact ls_put h hal hn hT hK k hk z hz hm
theorem touch_to (h : LS w0 w g n al ke mo T K O) (hke : 0 ≤ ke) (hsk : sumE K ≤ ke) (k : ByteArray) (hk : k.size ≤ 281474976710656) (z : Int) (hz : hasS k T K = some z) (R : List En × List En × List ByteArray) (hR : touchE ke k z T K = R) :
    Calls Try.prog 14 #[ptr g, .string k] w (PutP w0 g n al ke mo R (.bool true) O) := by
  subst hR; exact ls_touch h hke hsk k hk z hz
theorem has_to (h : LS w0 w g n al ke mo T K O) (k : ByteArray) (hk : k.size ≤ 281474976710656) (v : Value) (hv : HasV (hasS k T K) = v) :
    Calls Try.prog 19 #[ptr g, .string k] w fun e w' => e = .returned v ∧ w = w' := by
  subst hv; exact ls_has h k hk
theorem drop_to (h : LS w0 w g n al ke mo T K O) (k : ByteArray) (hk : k.size ≤ 281474976710656) (T' K' : List En) (b : Bool) (hT : delE k T = T') (hK : delE k K = K') (hb : (hasS k T K).isSome = b) :
    Calls Try.prog 16 #[ptr g, .string k] w (DropP w0 g n al ke mo T' K' b O) := by
  subst hT hK hb; exact ls_drop h k hk
end
set_option maxHeartbeats 8000000 in
theorem known_any (w : World) :
    Calls Try.prog 25 #[] w fun e w' => e = .returned (.bool true) ∧ Below w.heap.size w w' := by
  go_enter Try.func25, Try.ntmps25
  go_wp2_with fail
  refine (ls_new w _ (Below.refl _ _) 10 6 5 (by unfold okB; omega)).mono ?_
  rintro e w1 ⟨g, rfl, h1⟩
  have H := Lib.hid h1
  clear h1
  go_wp2_with fail
  refine (new_no 10 11 5 _ (by unfold okB; omega)).mono ?_
  rintro e w' ⟨rfl, rfl⟩
  go_wp2_with fail
  refine (put_to H.out ⟨by omega, by omega⟩ (by omega) (kLe_k rfl) (kLe_k rfl) ka (by decide) 4 (by omega) (by omega) _ k1).mono ?_
  rintro e w2 ⟨v2, c2, rfl, h2⟩
  have H := Lib.hid (h2.forget (O' := []) (by simp))
  clear h2
  go_wp2_with fail
  refine (put_to H.out ⟨by omega, by omega⟩ (by omega) (kLe_k rfl) (kLe_k rfl) kb (by decide) 4 (by omega) (by omega) _ k2).mono ?_
  rintro e w3 ⟨v3, c3, rfl, h3⟩
  have H := Lib.hid (h3.forget (O' := []) (by simp))
  clear h3
  go_wp2_with fail
  refine (touch_to H.out (by omega) (by decide) ka (by decide) 4 k3 _ k4).mono ?_
  rintro e w4 ⟨v4, c4, rfl, h4⟩
  have H := Lib.hid (h4.forget (O' := []) (by simp))
  clear h4
  go_wp2_with fail
  refine (put_to H.out ⟨by omega, by omega⟩ (by omega) (kLe_k rfl) (kLe_k rfl) kc (by decide) 4 (by omega) (by omega) _ k5).mono ?_
  rintro e w5 ⟨v5, c5, rfl, h5⟩
  have H := Lib.hid h5
  clear h5
  go_wp2_with fail
  refine (ls_big H.out kd 6 (by omega) (by omega)).mono ?_
  rintro e w' ⟨rfl, rfl⟩
  go_wp2_with fail
  refine (has_to H.out ka (by decide) (.tuple #[.int .i64 4, .bool true]) (by rw [k6]; rfl)).mono ?_
  rintro e w' ⟨rfl, rfl⟩
  go_wp2_with fail
  refine (has_to H.out kb (by decide) (.tuple #[.int .i64 0, .bool false]) (by rw [k7]; rfl)).mono ?_
  rintro e w' ⟨rfl, rfl⟩
  go_wp2_with fail
  obtain ⟨W, hW⟩ : ∃ W, w5.alloc (.cells #[.string kb] 9) = W := ⟨_, rfl⟩
  have hbW : Below w5.heap.size w5 W := by rw [← hW]; exact (Below.refl _ _).alloc (Nat.le_refl _) _
  have hkW : Bk W w5.heap.size 9 #[.string kb] := by rw [← hW]; exact Bk.new _ _ _
  rw [hW]
  have H := Lib.hid (H.out.below hbW)
  have HTS := Lib.hid (one_ts hkW)
  clear hW hbW hkW
  refine (ls_texts H.out (H.out.told (List.mem_cons_self ..)).ts HTS.out (show (1 : Nat) ≤ 2000000000 by omega) (show (1 : Nat) ≤ 2000000000 by omega) true (by kernel_rfl)).mono ?_
  rintro e w6 ⟨rfl, hh⟩
  have H := Lib.hid (hh.forget (O' := []) (by simp))
  clear hh HTS
  go_wp2_with fail
  refine (ls_keysK H.out).mono ?_
  rintro e w7 ⟨va, ca, rfl, hh⟩
  have H := Lib.hid hh
  clear hh
  go_wp2_with fail
  obtain ⟨W, hW⟩ : ∃ W, w7.alloc (.cells #[.string ka] 9) = W := ⟨_, rfl⟩
  have hbW : Below w7.heap.size w7 W := by rw [← hW]; exact (Below.refl _ _).alloc (Nat.le_refl _) _
  have hkW : Bk W w7.heap.size 9 #[.string ka] := by rw [← hW]; exact Bk.new _ _ _
  rw [hW]
  have H := Lib.hid (H.out.below hbW)
  have HTS := Lib.hid (one_ts hkW)
  clear hW hbW hkW
  refine (ls_texts H.out (H.out.told (List.mem_cons_self ..)).ts HTS.out (show (1 : Nat) ≤ 2000000000 by omega) (show (1 : Nat) ≤ 2000000000 by omega) true (by kernel_rfl)).mono ?_
  rintro e w8 ⟨rfl, hh⟩
  have H := Lib.hid (hh.forget (O' := []) (by simp))
  clear hh HTS
  go_wp2_with fail
  refine (ls_keysT H.out).mono ?_
  rintro e w9 ⟨va2, ca2, rfl, hh⟩
  have H := Lib.hid hh
  clear hh
  go_wp2_with fail
  obtain ⟨W, hW⟩ : ∃ W, w9.alloc (.cells #[.string kc] 9) = W := ⟨_, rfl⟩
  have hbW : Below w9.heap.size w9 W := by rw [← hW]; exact (Below.refl _ _).alloc (Nat.le_refl _) _
  have hkW : Bk W w9.heap.size 9 #[.string kc] := by rw [← hW]; exact Bk.new _ _ _
  rw [hW]
  have H := Lib.hid (H.out.below hbW)
  have HTS := Lib.hid (one_ts hkW)
  clear hW hbW hkW
  refine (ls_texts H.out (H.out.told (List.mem_cons_self ..)).ts HTS.out (show (1 : Nat) ≤ 2000000000 by omega) (show (1 : Nat) ≤ 2000000000 by omega) true (by kernel_rfl)).mono ?_
  rintro e w10 ⟨rfl, hh⟩
  have H := Lib.hid (hh.forget (O' := []) (by simp))
  clear hh HTS
  go_wp2_with fail
  refine (ls_bytesK H.out).mono ?_
  rintro e w11 ⟨rfl, hh⟩
  have H := Lib.hid hh
  clear hh
  have es : sumE [((⟨#[97]⟩ : ByteArray), (4 : Int))] = 4 := rfl
  go_wp2_with fail
  refine (drop_to H.out kc (by decide) _ _ true k9 k10 k8).mono ?_
  rintro e w12 ⟨rfl, hh⟩
  have H := Lib.hid hh
  clear hh
  go_wp2_with fail
  refine (drop_to H.out kc (by decide) [] _ false (by rfl) k10 k11).mono ?_
  rintro e w13 ⟨rfl, hh⟩
  have H := Lib.hid hh
  clear hh
  go_wp2
  go_ret
  exact ⟨rfl, H.out.bel⟩
end Go.Proofs.Ytfilmbeoggmglaa.SL
