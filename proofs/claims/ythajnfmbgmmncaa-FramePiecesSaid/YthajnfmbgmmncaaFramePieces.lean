/- FramePieces (layer 2): for every text and every place in it the law returns true and its arguments read as before: bytes that are fed in two pieces, and one by one, give the messages that they give at once. No condition but the form's own reach. -/
import Derived.Test.YthajnfmbgmmncaaFrq
import Derived.SizedLaws
import Derived.ChangeOld
import Derived.Carry
namespace Go.Proofs.Ythajnfmbgmmncaa.framePieces
open Go.ChangeShapes Go.WideShapes Go.ChangeAt Go.RowKit
open Go.ChangeMaps (open_string shut_string)
set_option linter.unusedVariables false

def Rel (s : ByteArray) (ga gb gc : Nat) (va vt : Value) (Ba Bt Bo : Nat) (msa mst : List Msg) (la lb : List UInt8) (fa fb : Bool) (xa xb : Int) (w0 : World) (vo gv i : Value) (wr : World) : Prop :=
  ∃ k mso lc fc xc, k ≤ s.size ∧ i = .int .i64 (k : Nat) ∧ gv = .int .i64 xc ∧ Msgs wr Bo vo mso ∧ Rd wr gc lc fc xc ∧ Piece (s.data.toList.take k) false mso lc fc xc ∧
    Msgs wr Ba va msa ∧ Msgs wr Bt vt mst ∧ Rd wr ga la fa xa ∧ Rd wr gb lb fb xb ∧ Below w0.heap.size w0 wr ∧ Bo ≤ wr.heap.size

theorem cut_join (s : ByteArray) (n : Nat) (h : n ≤ s.size) : ([] ++ (s.extract 0 n).data.toList) ++ (s.extract n s.size).data.toList = [] ++ s.data.toList := by
  have e : s.data.toList.length = s.size := by rw [← Lib.size_eq]
  rw [List.nil_append, List.nil_append, ByteArray.data_extract, ByteArray.data_extract, Array.toList_extract, Array.toList_extract]
  simp only [List.extract_eq_take_drop, List.drop_zero, Nat.sub_zero]
  rw [List.take_of_length_le (l := List.drop n _) (by rw [List.length_drop]; omega), List.take_append_drop]
theorem byte_join (s : ByteArray) (k : Nat) (h : k < s.size) : s.data.toList.take k ++ (s.extract k (k + 1)).data.toList = s.data.toList.take (k + 1) := by
  have e : s.data.toList.length = s.size := by rw [← Lib.size_eq]
  rw [ByteArray.data_extract, Array.toList_extract, List.extract_eq_take_drop, ← List.take_add, show k + (k + 1 - k) = k + 1 by omega]

set_option maxHeartbeats 2000000 in
set_option maxRecDepth 100000 in
theorem walk (s : ByteArray) (at_ : Int) (hs : s.size ≤ 140737488351232) (hw : (Lit.int .u16 at_).wf = true) (w : World) :
    Calls Try.prog 5 #[.string s, .int .u16 at_] w fun e w' => e = .returned (.bool true) ∧ Below w.heap.size w w' := by
  have ha : 0 ≤ at_ ∧ at_ < 65536 := by simp [Lit.wf, IntKind.min, IntKind.max, IntKind.signed, IntKind.bits] at hw; omega
  obtain ⟨ha0, ha1⟩ := ha
  clear hw
  by_cases hl : 3000 < s.size
  · go_enter Try.func5, Try.ntmps5
    go_wp2_with (go_at_call 8; refine (known_any _).mono ?_; rintro e w2 ⟨rfl, hb⟩)
    go_ret
    exact ⟨rfl, hb⟩
  · have hl2 : s.size ≤ 3000 := by omega
    clear hl hs
    obtain ⟨iM, hiM, hzM, hsM, hbM⟩ := info_parts infoM
    have hk0 : 0 ≤ at_ % ((s.size : Int) + 1) := Int.emod_nonneg _ (by omega)
    have hk1 : at_ % ((s.size : Int) + 1) ≤ s.size := by have := Int.emod_lt_of_pos at_ (show (0 : Int) < (s.size : Int) + 1 by omega); omega
    have hk2 : (at_ % ((s.size : Int) + 1)).toNat ≤ s.size := by omega
    go_enter Try.func5, Try.ntmps5
    go_wp2_with fail
    refine (new_any _ _).mono ?_; rintro e w1 ⟨ga, rfl, hga, hRa, hB⟩
    have hga1 := hRa.lt
    go_wp2_with fail
    refine (new_any _ _).mono ?_; rintro e w2 ⟨gb, rfl, hgb, hRb, hB2⟩
    replace hRa := hRa.below hB2
    replace hB := hB.trans (hB2.mono hB.size)
    have hgb1 := hRb.lt
    go_wp2_with fail
    refine (new_any _ _).mono ?_; rintro e w3 ⟨gc, rfl, hgc, hRc, hB3⟩
    replace hRa := hRa.below hB3
    replace hRb := hRb.below hB3
    replace hB := hB.trans (hB3.mono hB.size)
    have hw0 : w.heap.size ≤ w3.heap.size := hB.size
    have hz1 : w.heap.size ≤ w1.heap.size := by omega
    have nab : ga ≠ gb := by omega
    have nac : ga ≠ gc := by have := hB2.size; omega
    have nbc : gb ≠ gc := by omega
    have hgb0 : w.heap.size ≤ gb := by omega
    have hgc0 : w.heap.size ≤ gc := by have := hB2.size; omega
    clear hga1 hgb1 hgb hgc hB2 hB3 hw0
    -- all, e
    go_wp2_with fail
    refine (feed_piece _ _ _ _ _ _ _ _ _ hRa (Piece.none _) (by simp; omega)).mono ?_; rintro e w4 ⟨va, msa, la, fa, xa, rfl, hMa, hRa4, hg4, hPa⟩
    obtain ⟨ca, hba⟩ := hRa.blk
    replace hRb := hRb.other hba (by decide) nab.symm hg4
    replace hRc := hRc.other hba (by decide) nac.symm hg4
    replace hB := below_gb hB hg4 hB.size hga
    have hva := hMa.lt
    have hB3s := hB.size
    clear hRa hba hg4
    -- two
    go_wp2_with fail
    refine (feed_piece _ _ _ _ _ _ _ _ _ hRb (Piece.none _) (by simp; omega)).mono ?_; rintro e w5 ⟨vt, ms1, lb1, fb1, xb1, rfl, hM1, hRb5, hg5, hP1⟩
    obtain ⟨cb, hbb⟩ := hRb.blk
    replace hRa4 := hRa4.other hbb (by decide) nab hg5
    replace hRc := hRc.other hbb (by decide) nbc.symm hg5
    replace hMa := hMa.grown hbb (by decide) hg5
    replace hB := below_gb hB hg5 hB.size hgb0
    have hsz4 := hg5.size
    clear hRb hbb hg5
    go_wp2_with fail
    refine (feed_piece _ _ _ _ _ _ _ _ _ hRb5 hP1 (by simp; omega)).mono ?_; rintro e w6 ⟨vm, ms2, lb, fb, xb, rfl, hM2, hRb6, hg6, hP2⟩
    obtain ⟨cb, hbb⟩ := hRb5.blk
    replace hRa4 := hRa4.other hbb (by decide) nab hg6
    replace hRc := hRc.other hbb (by decide) nbc.symm hg6
    replace hMa := hMa.grown hbb (by decide) hg6
    replace hM1 := hM1.grown hbb (by decide) hg6
    replace hB := below_gb hB hg6 hB.size hgb0
    have hsz5 := hg6.size
    clear hRb5 hbb hg6 hP1
    rw [cut_join s _ hk2] at hP2
    have hfew := hP2.few
    rw [List.length_append] at hfew
    have hlen : ([] ++ s.data.toList : List UInt8).length = s.size := by rw [List.nil_append, ← Lib.size_eq]
    have HL := Lib.hid hlen
    clear hlen
    have hB4 : w4.heap.size ≤ w6.heap.size := by omega
    have hfew2 : ms1.length + ms2.length ≤ 3000 := by rw [List.nil_append] at hfew; have := HL.out; omega
    clear hfew
    go_wp2_with (at_builtin; go_must (
      refine wpList_append_msgs _ rfl (.tmp 65) (.tmp 66) _ rfl iM _ Try.underlying31 hiM hzM rfl hsM hbM _ _ vt vm ms1 ms2 rfl rfl hM1 hM2 (by omega) hB4 ?_
      intro vt2 w7 hMt hgr7
      have hRa7 := hRa4.row hM1 hgr7
      have hRb7 := hRb6.row hM1 hgr7
      have hRc7 := hRc.row hM1 hgr7
      have hMa7 := hMa.row hM1 hgr7 hva
      have hB7 := hB.grown hgr7 hB.size (fun k e => Nat.le_trans hB3s (World.ownsRow.lt hM1 k e).1)
      have hvt := hMt.lt
      have hB47 : w4.heap.size ≤ w7.heap.size := Nat.le_trans hB4 hgr7.size
      have hB07 : w.heap.size ≤ w7.heap.size := Nat.le_trans hB3s hB47))
    go_loopw [15, 16, 17] (Rel s ga gb gc va vt2 w3.heap.size w4.heap.size w7.heap.size msa (ms1 ++ ms2) la lb fa fb xa xb w) (fun _ _ i _ => s.size - (intOf i).toNat)
    case atStart =>
      exact ⟨0, [], [], false, 0, Nat.zero_le _, rfl, rfl, World.ownsRow_nil _ _ _ _, hRc7, Piece.none _, hMa7, hMt, hRa7, hRb7, hB7, Nat.le_refl _⟩
    case round =>
      obtain ⟨k, mso, lc, fc, xc, hk, rfl, rfl, hMo, hRcr, hPc, hMar, hMtr, hRar, hRbr, hBr, hBo⟩ := hrel
      by_cases hlt : k < s.size
      · have hk3 : k + 1 ≤ s.size := hlt
        have HK := Lib.hid hk
        have HJ := Lib.hid (byte_join s k hlt)
        clear hk hMt hRc7 hMa7 hRa7 hRb7 hB7
        go_wp2_with fail
        refine (feed_piece _ _ _ _ _ _ _ _ _ hRcr hPc (by simp; omega)).mono ?_; rintro e w8 ⟨vl, msl, lc2, fc2, xc2, rfl, hMl, hRc8, hg8, hPc2⟩
        obtain ⟨cc, hbc⟩ := hRcr.blk
        replace hRar := hRar.other hbc (by decide) nac hg8
        replace hRbr := hRbr.other hbc (by decide) nbc hg8
        replace hMar := hMar.grown hbc (by decide) hg8
        replace hMtr := hMtr.grown hbc (by decide) hg8
        replace hMo := hMo.grown hbc (by decide) hg8
        replace hBr := below_gb hBr hg8 hBr.size hgc0
        have hBo8 : w7.heap.size ≤ w8.heap.size := Nat.le_trans hBo hg8.size
        rw [HJ.out] at hPc2
        have hfew3 := hPc2.few
        rw [List.length_append, List.length_take] at hfew3
        have hfew4 : mso.length + msl.length ≤ 3000 := by omega
        clear hRcr hbc hg8 hfew3 hBo
        have hva7 : ∀ k, va.ownBlock = some k → k < w7.heap.size := fun k e => Nat.lt_of_lt_of_le (hva k e) hB47
        go_wp2_with (at_builtin; go_must (
          refine wpList_append_msgs _ rfl (.tmp 84) (.tmp 85) _ rfl iM _ Try.underlying31 hiM hzM rfl hsM hbM _ _ _ vl mso msl rfl rfl hMo hMl (by omega) hBo8 ?_
          intro vo2 w9 hMo9 hgr9
          have hRa9 := hRar.row hMo hgr9
          have hRb9 := hRbr.row hMo hgr9
          have hRc9 := hRc8.row hMo hgr9
          have hMa9 := hMar.row hMo hgr9 hva7
          have hMt9 := hMtr.row hMo hgr9 hvt
          have hB9 := hBr.grown hgr9 hBr.size (fun k e => Nat.le_trans hB07 (World.ownsRow.lt hMo k e).1)
          have hs9 := Nat.le_trans hBo8 hgr9.size))
        go_roundw
        case rel => exact ⟨k + 1, mso ++ msl, lc2, fc2, xc2, hk3, by go_num, rfl, hMo9, hRc9, hPc2, hMa9, hMt9, hRa9, hRb9, hB9, hs9⟩
        case measure => simp [intOf]; omega
      · have hkk : k = s.size := by omega
        subst hkk
        rw [List.take_of_length_le (by rw [← Lib.size_eq]; exact Nat.le_refl _)] at hPc
        rw [List.nil_append, List.nil_append] at hPa hP2
        obtain ⟨e1, e2, e3⟩ := hPa.same hP2
        obtain ⟨e4, e5, e6⟩ := hPa.same hPc
        have hfa := hPa.few
        have hsz : s.data.toList.length = s.size := by rw [← Lib.size_eq]
        rw [hsz] at hfa
        subst e2 e5 e4
        rw [← e1] at hMtr
        have E3 := Lib.hid e3
        have E6 := Lib.hid e6
        clear e1 e3 e6 hMt hRc7 hMa7 hRa7 hRb7 hB7 hPa hP2 hPc hMa hM1 hM2 hRa4 hRb6 hRc hB hgr7 hsz
        by_cases hx : xa = 0
        · have ea := E3.out hx
          have ec := E6.out hx
          subst ea ec hx
          clear E3 E6
          go_wp2_with fail
          refine (same_bel _ _ msa _ (MR.own hMar) (MR.own hMtr) (by omega)).mono ?_; rintro e w10 ⟨rfl, hb10⟩
          replace hBr := hBr.trans (hb10.mono hBr.size)
          replace hRar := hRar.below hb10
          replace hRbr := hRbr.below hb10
          replace hRcr := hRcr.below hb10
          replace hMar := hMar.below hb10
          replace hMo := hMo.below hb10
          clear hb10 hMtr
          go_wp2_with fail
          refine (same_bel _ _ msa _ (MR.own hMar) (MR.own hMo) (by omega)).mono ?_; rintro e w11 ⟨rfl, hb11⟩
          replace hBr := hBr.trans (hb11.mono hBr.size)
          replace hRar := hRar.below hb11
          replace hRbr := hRbr.below hb11
          replace hRcr := hRcr.below hb11
          clear hb11 hMar hMo
          go_wp2_with (first
            | (go_at_call 14; (first | (with_reducible refine (rest_yes _ _ _ _ _ hRar).mono ?_) | (with_reducible refine (rest_yes _ _ _ _ _ hRbr).mono ?_) | (with_reducible refine (rest_yes _ _ _ _ _ hRcr).mono ?_)); rintro e w12 ⟨rfl, rfl⟩)
            | (go_at_call 8; refine (known_any _).mono ?_; rintro e w13 ⟨rfl, hb⟩))
          go_ret
          exact ⟨rfl, hBr.trans (hb.mono hBr.size)⟩
        · have hxb : (xa != 0) = true := by simpa using hx
          clear hx E3 E6
          go_wp2_with fail
          refine (same_bel _ _ msa _ (MR.own hMar) (MR.own hMtr) (by omega)).mono ?_; rintro e w10 ⟨rfl, hb10⟩
          replace hBr := hBr.trans (hb10.mono hBr.size)
          replace hMar := hMar.below hb10
          replace hMo := hMo.below hb10
          clear hb10 hMtr
          go_wp2_with fail
          refine (same_bel _ _ msa _ (MR.own hMar) (MR.own hMo) (by omega)).mono ?_; rintro e w11 ⟨rfl, hb11⟩
          replace hBr := hBr.trans (hb11.mono hBr.size)
          clear hb11 hMar hMo
          go_wp2_with (go_at_call 8; refine (known_any _).mono ?_; rintro e w13 ⟨rfl, hb⟩)
          go_ret
          exact ⟨rfl, hBr.trans (hb.mono hBr.size)⟩

theorem own : ownKnob Try.prog.godebug = none := by kernel_rfl

set_option maxRecDepth 100000 in
theorem lifted (os : Os) (started : os.Started) (H : Type) (enc : TypeId × Value → H) :
    ReturnsInHanded {} Try.checked os 5 .any (Rows.framePiecesSpec.pre6 enc Try.prog Try.f5 Rows.framePiecesRow.domain false) (Rows.framePiecesSpec.post enc Try.prog Try.f5 false true false false) := by
  refine returnsInHanded_of_change_sized (C := Try.checked) own started (by kernel_rfl) Try.func5
    (ChangeSpec.witness6 (enc := enc) (C := Try.checked) false ⟨#[], #[.string ByteArray.empty, .int .u16 0], []⟩ 8 (by kernel_rfl) (by kernel_rfl) (by kernel_rfl) (by kernel_rfl)) ?_
  intro W base args ds gs before hval0 hW hcnd hsz0 _
  have hsz : (DataW.weightsEach Try.prog (Try.f5.params.toList ++ Rows.framePiecesSpec.plain.varTypes Try.prog) (ds ++ gs)).all (· ≤ reachBytes) = true := hsz0
  clear hsz0
  have hval : ∀ (j : Nat) t v, Try.f5.params[j]? = some t → args[j]? = some v → Value.okWide Try.prog W .any base t v := hval0
  have hW' := hW
  obtain ⟨p, q, hA0, hV, rfl, hfz, hnd⟩ := hW
  have hA : DataW.TrodAll enc Try.prog W 0 (fun _ => true) true Try.f5.params.toList args.toList ds p := hA0
  rw [Try.params5] at hA hval hsz
  obtain ⟨v0, vs0, d0, ds0, p0, q0, hargs, rfl, rfl, h0, r0⟩ := trodAll_cons hA
  obtain ⟨v1, vs1, d1, ds1, p1, q1, rfl, rfl, rfl, h1, r1⟩ := trodAll_cons r0
  obtain ⟨rfl, rfl, rfl⟩ := trodAll_nil r1
  obtain rfl : args = #[v0, v1] := by cases args; simp_all
  obtain ⟨rfl, rfl⟩ := trodVars_none hV
  obtain ⟨a0, rfl, rfl, rfl, m0⟩ := open_string Try.underlying9 (hval 0 9 v0 rfl rfl) h0
  obtain ⟨a1, rfl, rfl, rfl, w1⟩ := open_int Try.underlying42 (hval 1 42 v1 rfl rfl) h1
  clear hA0 hval0
  have s0 : a0.size ≤ 140737488351232 := by
    have := sized_string hsz (j := 0) (t := 9) (bytes := a0.data.toList) rfl rfl
    rw [← Lib.size_eq] at this; unfold reachBytes at this; exact this
  refine (walk a0 a1 s0 w1 W).mono fun e W' ⟨he, bel⟩ => ?_
  subst he
  exact ⟨_, rfl, _, _, _, [], _, [], hW', trodAll_mk1 (shut_bool Try.underlying4 _), (trodAll_cons_mk (shut_string Try.underlying9 m0) (trodAll_cons_mk (shut_int Try.underlying42 w1) trodAll_mk0)), rfl, bel.frame _, fun h => by cases h⟩

theorem over : Rows.framePiecesRow.holds Try.pinned (OpenSpec.ofChange Rows.framePiecesSpec) :=
  OpenClaim.holds_of_wide 5 Try.f5 rfl rfl rfl rfl rfl rfl rfl ⟨rfl, rfl, rfl, rfl, rfl⟩ rfl rfl rfl rfl rfl (by kernel_rfl) Try.func5 (by kernel_rfl)
    (of_decide_eq_true (by kernel_rfl)) (by unfold Func.isWrapper; rw [if_neg (by decide +kernel)]; exact ⟨rfl, rfl⟩)
    (fun os started H enc _ => lifted os started H enc)

theorem proved : Rows.FramePiecesSaid := over
end Go.Proofs.Ythajnfmbgmmncaa.framePieces
