/- SlruStays' walk. -/
import Derived.Test.YtgiajbpeiebkhaaSlj
import Derived.Laws.IdiomStrings
namespace Go.Proofs.Ytgiajbpeiebkhaa.SL
open Go.ChangeShapes Go.WideShapes Go.ChangeAt Go.RowKit Go.Maps Go.ChangeMaps
set_option maxRecDepth 100000
set_option linter.unusedVariables false
set_option linter.unusedSimpArgs false

abbrev kept : ByteArray := ⟨#[107, 101, 112, 116]⟩
def xk (j : Nat) : ByteArray := ⟨#[120, UInt8.ofNat j]⟩
theorem xk_ne {i j : Nat} (hi : i < 60) (hj : j < 60) (h : i ≠ j) : xk i ≠ xk j := by
  intro e
  unfold xk at e
  injection e with e
  have e2 : UInt8.ofNat i = UInt8.ofNat j := by
    have := congrArg (fun (x : Array UInt8) => x[1]?) e
    simpa using this
  have := congrArg UInt8.toNat e2
  rw [UInt8.toNat_ofNat', UInt8.toNat_ofNat'] at this
  omega
theorem xk_kept (i : Nat) : xk i ≠ kept := by
  intro e
  have := congrArg ByteArray.size e
  simp [xk, ByteArray.size] at this
theorem room_no {al z : Int} {T K : List En} (h : sumE T + sumE K + z ≤ al) : ∀ n, roomE al z n T K = (T, K, [])
  | 0 => rfl
  | n + 1 => by unfold roomE; rw [if_neg (by omega)]
theorem del_no {k : ByteArray} {l : List En} (h : ∀ y ∈ l, y.1 ≠ k) : delE k l = l := List.filter_eq_self.2 fun y hy => decide_eq_true (h y hy)
theorem put_no {al z : Int} {k : ByteArray} {T K : List En} (hT : ∀ y ∈ T, y.1 ≠ k) (hK : ∀ y ∈ K, y.1 ≠ k) (h : sumE T + sumE K + z ≤ al) : putE al k z T K = ((k, z) :: T, K, []) := by
  unfold putE
  rw [del_no hT, del_no hK, room_no h]
theorem touch_kept {ke : Int} (h : 5 ≤ ke) : touchE ke kept 5 [(kept, 5)] [] = ([], [(kept, 5)], []) := by
  unfold touchE
  rw [if_pos h]
  have e : delE kept [(kept, 5)] = [] := by kernel_rfl
  have e2 : delE kept [] = [] := rfl
  rw [e, e2]
  unfold shrE
  rw [if_neg (by show ¬ ke < 5 + 0; omega)]
/-- what was put stands newest first -/
def Tx (i : Nat) (T : List En) : Prop := ∀ y ∈ T, ∃ j, j < i ∧ y.1 = xk j
theorem Tx.put {i : Nat} {T : List En} (h : Tx i T) (z : Int) : Tx (i + 1) ((xk i, z) :: T) := by
  intro y hy
  rcases List.mem_cons.1 hy with rfl | hy
  · exact ⟨i, by omega, rfl⟩
  · obtain ⟨j, h1, h2⟩ := h y hy; exact ⟨j, by omega, h2⟩
theorem Tx.ne {i : Nat} {T : List En} (h : Tx i T) (hi : i < 60) : ∀ y ∈ T, y.1 ≠ xk i := by
  intro y hy
  obtain ⟨j, h1, h2⟩ := h y hy
  rw [h2]; exact xk_ne (by omega) hi (by omega)
theorem Tx.nk {i : Nat} {T : List En} (h : Tx i T) : ∀ y ∈ T, y.1 ≠ kept := by
  intro y hy
  obtain ⟨j, h1, h2⟩ := h y hy
  rw [h2]; exact xk_kept j
theorem hasE_none {k : ByteArray} {l : List En} (h : ∀ y ∈ l, y.1 ≠ k) : hasE k l = none := by
  unfold hasE
  rw [List.find?_eq_none.2 (fun y hy => by simpa using h y hy)]
  rfl
theorem Tx.kl {i : Nat} {T : List En} (h : Tx i T) : kLe T := fun y hy => by
  obtain ⟨j, _, h2⟩ := h y hy
  rw [h2]; show 2 ≤ 281474976710656; omega
theorem U8R.inv {w : World} {v : Value} {l : List Int} (h : U8R w v l) (hp : 0 < l.length) : ∃ g off cap, v = .slice (some ⟨g, off, none⟩) l.length cap ∧ l.length ≤ cap ∧ ∀ (i : Nat) (x : Int), l[i]? = some x → (0 ≤ x ∧ x ≤ 255) ∧ w.cell? ⟨g, off + i, none⟩ = some (.int .u8 x) := by
  rcases h with ⟨a, cap, rfl, rfl⟩ | h
  · simp at hp
  · exact h
theorem conv_xk (W : World) (i : Nat) (hi : i < 60) : (convert 55 9 (.slice (some ⟨W.heap.size, 0, none⟩) 2 2)).run Try.prog (W.alloc (.cells #[.int .u8 120, .int .u8 (i : Int)] 5)) = .ok (.string (xk i)) (W.alloc (.cells #[.int .u8 120, .int .u8 (i : Int)] 5)) := by
  refine run_convert_bytes_back (P := Try.prog) _ 55 9 5 ⟨W.heap.size, 0, none⟩ 2 [120, UInt8.ofNat i] Try.underlying55 Try.underlying5 Try.underlying9 ?_
  have hb := Bk.new W 5 #[.int .u8 120, .int .u8 (i : Int)]
  intro j hj
  match j, hj with
  | 0, _ => exact hb.cell 0
  | 1, _ =>
    have e : ((UInt8.ofNat i).toNat : Int) = (i : Int) := by rw [UInt8.toNat_ofNat']; omega
    show World.cell? _ ⟨W.heap.size, 1, none⟩ = some (.int .u8 ((UInt8.ofNat i).toNat : Int))
    rw [e]; exact hb.cell 1
set_option maxHeartbeats 16000000 in
theorem stays_any (v0 v1 : Value) (w : World) (hf : Fits28 v0) (ho : FitsU w v1) :
    Calls Try.prog 5 #[v0, v1] w fun e w' => e = .returned (.bool true) ∧ Below w.heap.size w w' := by
  obtain ⟨a, b, rfl, ⟨a0, a1⟩, b0, b1⟩ := hf
  obtain ⟨l, hl⟩ := ho
  obtain ⟨va, vc, rfl⟩ := hl.form
  have HL := Lib.hid hl
  have hBW := (Below.refl w.heap.size w).alloc (Nat.le_refl _) (.cells #[.int .u8 a, .int .u8 b] 54)
  have HBW := Lib.hid hBW
  obtain ⟨AL, hAL⟩ : ∃ x, 20 + a = x := ⟨_, rfl⟩
  obtain ⟨KE, hKE⟩ : ∃ x, 5 + b % 10 = x := ⟨_, rfl⟩
  have hm0 := Int.emod_nonneg b (show (10 : Int) ≠ 0 by omega)
  have hm1 := Int.emod_lt_of_pos b (show (0 : Int) < 10 by omega)
  have w1 : IntKind.i64.wrap (20 + a) = AL := by rw [← hAL]; exact IntWalk.i64_in _ (by omega)
  have w2 : IntKind.i64.wrap (5 + b % 10) = KE := by rw [← hKE]; exact IntWalk.i64_in _ (by omega)
  have w1' : wrap64 (20 + a) = AL := by rw [← hAL]; exact IntWalk.wrap64_in _ (by omega)
  have w2' : wrap64 (5 + b % 10) = KE := by rw [← hKE]; exact IntWalk.wrap64_in _ (by omega)
  have HA : Hid (20 ≤ AL ∧ AL ≤ 275 ∧ 5 ≤ KE ∧ KE ≤ 14) := Lib.hid (by omega)
  have HOK : Hid (okB AL KE AL) := Lib.hid (by unfold okB; omega)
  clear hl hBW hm0 hm1
  go_enter Try.func5, Try.ntmps5
  go_wp2_with fail
  refine (ls_new w _ HBW.out AL KE AL HOK.out).mono ?_
  rintro e w1 ⟨g, rfl, h1⟩
  have H := Lib.hid h1
  clear h1
  go_wp2_with fail
  refine (put_to H.out (by have := HA.out; omega) (by omega) (kLe_k rfl) (kLe_k rfl) kept (by decide) 5 (by omega) (by have := HA.out; omega) ([(kept, 5)], [], []) (put_no (fun y hy => by cases hy) (fun y hy => by cases hy) (by have := HA.out; show (0 : Int) + 0 + 5 ≤ AL; omega))).mono ?_
  rintro e w2 ⟨v2, c2, rfl, h2⟩
  have H := Lib.hid (h2.forget (O' := []) (fun p hp => by cases hp))
  clear h2
  go_wp2_with fail
  refine (touch_to H.out (by have := HA.out; omega) (by have := HA.out; show (0 : Int) ≤ KE; omega) kept (by decide) 5 (by kernel_rfl) _ (touch_kept (by have := HA.out; omega))).mono ?_
  rintro e w3 ⟨v3, c3, rfl, h3⟩
  have H := Lib.hid (h3.forget (O' := []) (fun p hp => by cases hp))
  clear h3
  go_wp2_with fail
  go_loopg [9, 10] 60 (fun gk u9 u10 wx => ∃ (i n : Nat) (T : List En), u10 = .int .i64 (i : Int) ∧ u9 = .int .i64 (sumE T) ∧ i + gk = 60 ∧ i ≤ l.length ∧ n ≤ i + 1 ∧ LS w wx g n AL KE AL T [(kept, 5)] [] ∧ Tx i T ∧ sumE T ≤ AL - KE)
  case atStart => exact ⟨0, 1, [], rfl, rfl, by omega, by omega, by omega, H.out, (fun y hy => by cases hy), (by have := HA.out; show (0 : Int) ≤ AL - KE; omega)⟩
  case round =>
    obtain ⟨i, n, T, rfl, rfl, hi, hil, hni, hS, hTx, hsm⟩ := hrel
    cases gk with
    | zero =>
      have hi60 : i = 60 := by omega
      subst hi60
      clear hi hni
      by_cases hlt : 60 < l.length
      · have l1 : (60 : Int) < (l.length : Int) := by omega
        have l1' : ((60 : Nat) : Int) < (l.length : Int) := by omega
        clear hlt hil
        have HH : Hid (hasS kept T [(kept, 5)] = some 5) := Lib.hid (by unfold hasS; rw [hasE_none hTx.nk]; kernel_rfl)
        have H := Lib.hid hS
        clear hS hTx hsm
        go_wp2_with fail
        refine (has_to H.out kept (by decide) (.tuple #[.int .i64 5, .bool true]) (by rw [HH.out]; rfl)).mono ?_
        rintro e w2 ⟨rfl, rfl⟩
        go_wp2_with fail
        refine (ls_keysK H.out).mono ?_
        rintro e w3 ⟨v3, c3, rfl, h3⟩
        have H := Lib.hid h3
        clear h3
        go_wp2_with fail
        obtain ⟨W, hW⟩ : ∃ W, w3.alloc (.cells #[.string kept] 9) = W := ⟨_, rfl⟩
        have hbW : Below w3.heap.size w3 W := by rw [← hW]; exact (Below.refl _ _).alloc (Nat.le_refl _) _
        have hkW : Bk W w3.heap.size 9 #[.string kept] := by rw [← hW]; exact Bk.new _ _ _
        rw [hW]
        have H := Lib.hid (H.out.below hbW)
        have HTS := Lib.hid (one_ts hkW)
        clear hW hbW hkW
        refine (ls_texts H.out (H.out.told (List.mem_cons_self ..)).ts HTS.out (show (1 : Nat) ≤ 2000000000 by omega) (show (1 : Nat) ≤ 2000000000 by omega) true (by kernel_rfl)).mono ?_
        rintro e w6 ⟨rfl, hh⟩
        have H := Lib.hid hh
        clear hh HTS
        go_wp2_with fail
        refine (ls_bytesT H.out).mono ?_
        rintro e w7 ⟨rfl, hh⟩
        have H := Lib.hid hh
        clear hh
        go_wp2_with fail
        refine (known_any _).mono ?_
        rintro e wk ⟨rfl, hk⟩
        have HKN := Lib.hid hk
        clear hk
        go_wp2
        go_ret
        exact ⟨rfl, H.out.bel.trans (HKN.out.mono H.out.bel.size)⟩
      · have l1 : ¬ ((60 : Int) < (l.length : Int)) := by omega
        have l1' : ¬ (((60 : Nat) : Int) < (l.length : Int)) := by omega
        clear hlt hil
        have HH : Hid (hasS kept T [(kept, 5)] = some 5) := Lib.hid (by unfold hasS; rw [hasE_none hTx.nk]; kernel_rfl)
        have H := Lib.hid hS
        clear hS hTx hsm
        go_wp2_with fail
        refine (has_to H.out kept (by decide) (.tuple #[.int .i64 5, .bool true]) (by rw [HH.out]; rfl)).mono ?_
        rintro e w2 ⟨rfl, rfl⟩
        go_wp2_with fail
        refine (ls_keysK H.out).mono ?_
        rintro e w3 ⟨v3, c3, rfl, h3⟩
        have H := Lib.hid h3
        clear h3
        go_wp2_with fail
        obtain ⟨W, hW⟩ : ∃ W, w3.alloc (.cells #[.string kept] 9) = W := ⟨_, rfl⟩
        have hbW : Below w3.heap.size w3 W := by rw [← hW]; exact (Below.refl _ _).alloc (Nat.le_refl _) _
        have hkW : Bk W w3.heap.size 9 #[.string kept] := by rw [← hW]; exact Bk.new _ _ _
        rw [hW]
        have H := Lib.hid (H.out.below hbW)
        have HTS := Lib.hid (one_ts hkW)
        clear hW hbW hkW
        refine (ls_texts H.out (H.out.told (List.mem_cons_self ..)).ts HTS.out (show (1 : Nat) ≤ 2000000000 by omega) (show (1 : Nat) ≤ 2000000000 by omega) true (by kernel_rfl)).mono ?_
        rintro e w6 ⟨rfl, hh⟩
        have H := Lib.hid hh
        clear hh HTS
        go_wp2_with fail
        refine (ls_bytesT H.out).mono ?_
        rintro e w7 ⟨rfl, hh⟩
        have H := Lib.hid hh
        clear hh
        go_wp2_with fail
        refine (known_any _).mono ?_
        rintro e wk ⟨rfl, hk⟩
        have HKN := Lib.hid hk
        clear hk
        go_wp2
        go_ret
        exact ⟨rfl, H.out.bel.trans (HKN.out.mono H.out.bel.size)⟩
    | succ gko =>
      have i60 : (i : Int) < 60 := by omega
      by_cases hlt : i < l.length
      · have l1 : (i : Int) < (l.length : Int) := by omega
        have l0 : (0 : Int) ≤ (i : Int) := by omega
        obtain ⟨i1, hi1⟩ : ∃ i1, i + 1 = i1 := ⟨_, rfl⟩
        have wk : IntKind.i64.wrap ((i : Int) + 1) = (i1 : Int) := by rw [show (i : Int) + 1 = (i1 : Int) by omega]; exact IntWalk.i64_in _ (by omega)
        have HI1 : Hid (i1 + gko = 60 ∧ i1 ≤ l.length ∧ n + 1 ≤ i1 + 1) := Lib.hid ⟨by omega, by omega, by omega⟩
        have HNI : Hid (n ≤ 61 ∧ i < 60) := Lib.hid (by omega)
        obtain ⟨ob, oo, oc, he, hcp, hx⟩ := (HL.out.below hS.bel).inv (show 0 < l.length by omega)
        injection he with he1 _ he3
        subst he1 he3
        obtain ⟨x, hx0⟩ : ∃ o, l[i] = o := ⟨_, rfl⟩
        obtain ⟨⟨q0, q1⟩, x0⟩ := hx i x (by rw [List.getElem?_eq_getElem hlt, hx0])
        have hm0 := Int.emod_nonneg x (show (6 : Int) ≠ 0 by omega)
        have hm1 := Int.emod_lt_of_pos x (show (0 : Int) < 6 by omega)
        obtain ⟨z, hz⟩ : ∃ z, 1 + x % 6 = z := ⟨_, rfl⟩
        have wz : IntKind.i64.wrap (1 + x % 6) = z := by rw [← hz]; exact IntWalk.i64_in _ (by omega)
        have wz' : wrap64 (1 + x % 6) = z := by rw [← hz]; exact IntWalk.wrap64_in _ (by omega)
        have hs0 := sum_nonneg hS.pos.1
        obtain ⟨SM, hSM⟩ : ∃ S, sumE T = S := ⟨_, rfl⟩
        rw [hSM] at hsm hs0
        have hAA := HA.out
        have ws : IntKind.i64.wrap (SM + z) = SM + z := IntWalk.i64_in _ (by omega)
        have ws' : wrap64 (SM + z) = SM + z := IntWalk.wrap64_in _ (by omega)
        have wd' : wrap64 (AL - KE) = AL - KE := IntWalk.wrap64_in _ (by omega)
        have wd : IntKind.i64.wrap (AL - KE) = AL - KE := IntWalk.i64_in _ (by omega)
        have HZ : Hid (1 ≤ z ∧ z ≤ 6) := Lib.hid (by omega)
        by_cases hbr : AL - KE < SM + z
        · rw [hSM]
          clear hx hcp hx0 hm0 hm1 hz hs0 hAA hi1 hi hil hni hlt
          have HSM := Lib.hid hSM
          clear hSM
          have HH : Hid (hasS kept T [(kept, 5)] = some 5) := Lib.hid (by unfold hasS; rw [hasE_none hTx.nk]; kernel_rfl)
          have H := Lib.hid hS
          clear hS hTx hsm
          go_wp2_with fail
          refine (has_to H.out kept (by decide) (.tuple #[.int .i64 5, .bool true]) (by rw [HH.out]; rfl)).mono ?_
          rintro e w2 ⟨rfl, rfl⟩
          go_wp2_with fail
          refine (ls_keysK H.out).mono ?_
          rintro e w3 ⟨v3, c3, rfl, h3⟩
          have H := Lib.hid h3
          clear h3
          go_wp2_with fail
          obtain ⟨W, hW⟩ : ∃ W, w3.alloc (.cells #[.string kept] 9) = W := ⟨_, rfl⟩
          have hbW : Below w3.heap.size w3 W := by rw [← hW]; exact (Below.refl _ _).alloc (Nat.le_refl _) _
          have hkW : Bk W w3.heap.size 9 #[.string kept] := by rw [← hW]; exact Bk.new _ _ _
          rw [hW]
          have H := Lib.hid (H.out.below hbW)
          have HTS := Lib.hid (one_ts hkW)
          clear hW hbW hkW
          refine (ls_texts H.out (H.out.told (List.mem_cons_self ..)).ts HTS.out (show (1 : Nat) ≤ 2000000000 by omega) (show (1 : Nat) ≤ 2000000000 by omega) true (by kernel_rfl)).mono ?_
          rintro e w6 ⟨rfl, hh⟩
          have H := Lib.hid hh
          clear hh HTS
          go_wp2_with fail
          refine (ls_bytesT H.out).mono ?_
          rintro e w7 ⟨rfl, hh⟩
          have H := Lib.hid hh
          clear hh
          go_wp2_with fail
          refine (known_any _).mono ?_
          rintro e wk ⟨rfl, hk⟩
          have HKN := Lib.hid hk
          clear hk
          go_wp2
          go_ret
          exact ⟨rfl, H.out.bel.trans (HKN.out.mono H.out.bel.size)⟩
        · rw [hSM]
          have HSZ : Hid (SM + z ≤ AL - KE) := Lib.hid (by omega)
          have HSM := Lib.hid hSM
          have HTX := Lib.hid hTx
          have HS := Lib.hid hS
          clear hx hcp hx0 hm0 hm1 hz hs0 hAA hi hil hni hlt hSM hTx hS hsm
          have kc := conv_xk wr i HNI.out.2
          go_wp2_with fail
          have hBX : Below wr.heap.size wr (wr.alloc (.cells #[.int .u8 120, .int .u8 (i : Int)] 5)) := (Below.refl _ _).alloc (Nat.le_refl _) _
          refine (put_to (HS.out.below hBX) (by have := HA.out; omega) (by have := HNI.out; omega) HTX.out.kl (kLe_k rfl) (xk i) (by show (2 : Nat) ≤ 281474976710656; omega) z HZ.out.1 (by have := HZ.out; have := HA.out; omega) _ (put_no (HTX.out.ne HNI.out.2) (fun y hy => by rw [List.mem_singleton.1 hy]; exact (xk_kept i).symm) (by have := HSZ.out; have := HSM.out; have := HA.out; have e5 : sumE [(kept, (5 : Int))] = 5 := rfl; omega))).mono ?_
          rintro e w2 ⟨v2, c2, rfl, h2⟩
          have H := Lib.hid (h2.forget (O' := []) (fun p hp => by cases hp))
          clear h2 kc hBX
          go_wp2
          go_roundg gko
          case measure => exact Nat.lt_succ_self _
          case rel => exact ⟨i1, n + 1, (xk i, z) :: T, rfl, (by rw [sumE, HSM.out, Int.add_comm]), HI1.out.1, HI1.out.2.1, HI1.out.2.2, H.out, hi1 ▸ HTX.out.put z, (by rw [sumE, HSM.out]; have := HSZ.out; omega)⟩
      · have l1 : ¬ ((i : Int) < (l.length : Int)) := by omega
        clear hlt hi hil hni
        have HH : Hid (hasS kept T [(kept, 5)] = some 5) := Lib.hid (by unfold hasS; rw [hasE_none hTx.nk]; kernel_rfl)
        have H := Lib.hid hS
        clear hS hTx hsm
        go_wp2_with fail
        refine (has_to H.out kept (by decide) (.tuple #[.int .i64 5, .bool true]) (by rw [HH.out]; rfl)).mono ?_
        rintro e w2 ⟨rfl, rfl⟩
        go_wp2_with fail
        refine (ls_keysK H.out).mono ?_
        rintro e w3 ⟨v3, c3, rfl, h3⟩
        have H := Lib.hid h3
        clear h3
        go_wp2_with fail
        obtain ⟨W, hW⟩ : ∃ W, w3.alloc (.cells #[.string kept] 9) = W := ⟨_, rfl⟩
        have hbW : Below w3.heap.size w3 W := by rw [← hW]; exact (Below.refl _ _).alloc (Nat.le_refl _) _
        have hkW : Bk W w3.heap.size 9 #[.string kept] := by rw [← hW]; exact Bk.new _ _ _
        rw [hW]
        have H := Lib.hid (H.out.below hbW)
        have HTS := Lib.hid (one_ts hkW)
        clear hW hbW hkW
        refine (ls_texts H.out (H.out.told (List.mem_cons_self ..)).ts HTS.out (show (1 : Nat) ≤ 2000000000 by omega) (show (1 : Nat) ≤ 2000000000 by omega) true (by kernel_rfl)).mono ?_
        rintro e w6 ⟨rfl, hh⟩
        have H := Lib.hid hh
        clear hh HTS
        go_wp2_with fail
        refine (ls_bytesT H.out).mono ?_
        rintro e w7 ⟨rfl, hh⟩
        have H := Lib.hid hh
        clear hh
        go_wp2_with fail
        refine (known_any _).mono ?_
        rintro e wk ⟨rfl, hk⟩
        have HKN := Lib.hid hk
        clear hk
        go_wp2
        go_ret
        exact ⟨rfl, H.out.bel.trans (HKN.out.mono H.out.bel.size)⟩
end Go.Proofs.Ytgiajbpeiebkhaa.SL
