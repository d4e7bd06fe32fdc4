/- What the functions of package back's reader do that read a whole body: row, fields. Condition: the body is of at most 2^40 bytes. -/
import Derived.Test.YtnjifbgjglniaaaBkg
namespace Go.Proofs.Ytnjifbgjglniaaa.BK
open Go.Proofs.Ytnjifbgjglniaaa
open Go.ChangeShapes Go.WideShapes Go.ChangeAt Go.RowKit
set_option linter.unusedVariables false
set_option maxRecDepth 100000
attribute [local go_sem ↓] Go.wp_at_zero Go.wp_at_succ

set_option maxHeartbeats 2000000 in
theorem rrow_any (R A : Nat) (s : ByteArray) (w0 : World) (kk : UInt8) (l : Tx) (x : Bool) (kv vv nv : Value) (w : World) (h : AI R A s w0 { kind := kk } l x kv vv nv w) (hs : s.size ≤ 1099511627776) :
    Calls Try.prog 49 #[.pointer (some ⟨R, 0, none⟩), .pointer (some ⟨A, 0, none⟩)] w (AiP R A s w0 (readD .row { kind := kk } l x)) := by
  obtain ⟨iS, hiS, hzS0, hzS1, hzS2⟩ := info_parts infoS
  obtain ⟨iB, hiB, hzB0, hzB1, hzB2⟩ := info_parts infoB
  unfold readD
  obtain ⟨n, l1, x1, e1⟩ := trip (rdC l x)
  have d1 := fun w h => rcount_any R s w l x h hs
  have hn100 := rdC_100 l x
  rw [e1] at d1 hn100
  simp only [e1] at d1 hn100 ⊢
  generalize hF : argsP n l1 x1 = F
  have HF0 := Lib.hid hF
  clear hF e1
  go_enter Try.func49, Try.ntmps49
  go_wp2_with fail
  refine (d1 _ h.rd).mono ?_; rintro e w2 ⟨rfl, hr1, hk1⟩
  have h2 := h.read hr1 hk1
  clear hr1 hk1 h d1
  go_wp2
  go_loopw [7] (fun i wr => ∃ k : Nat, k ≤ n ∧ i = .int .i64 k ∧ ∃ l x az ns kv vv nv, AI R A s w0 { kind := kk, vals := az, null := ns } l x kv vv nv wr ∧ az.length = k ∧ ns.length = k ∧
      F = (az ++ (argsP (n - k) l x).1, ns ++ (argsP (n - k) l x).2.1, (argsP (n - k) l x).2.2)) (fun i _ => n - (intOf i).toNat)
  case atStart => exact ⟨0, Nat.zero_le _, rfl, l1, x1, [], [], kv, vv, nv, h2, rfl, rfl, by rw [← HF0.out]; simp⟩
  case round =>
    obtain ⟨k, hk, rfl, l, x, az, ns, kv, vv, nv, hi, ha1, ha2, hF⟩ := hrel
    clear h2 HF0
    by_cases hlt : k < n
    · have hz1 : (strs az).length ≤ 100 := by rw [strs_len]; omega
      have hz2 : (bools ns).length ≤ 100 := by rw [bools_len]; omega
      have HF := Lib.hid hF
      have HA1 := Lib.hid ha1
      have HA2 := Lib.hid ha2
      clear hF ha1 ha2
      obtain ⟨z, l1, x1, e4⟩ := trip (rd4 l x)
      have d4 := fun w h => r4_any R s w l x h hs
      rw [e4] at d4
      simp only at d4
      have HE4 := Lib.hid e4
      clear e4
      by_cases hz : z = -1
      · subst hz
        have d5 := fun w h => rbytes_any R s w 0 l1 x1 h hs
        obtain ⟨b, l2, x2, e2⟩ := trip (rdB 0 l1 x1)
        rw [e2] at d5
        simp only at d5
        have HE2 := Lib.hid e2
        clear e2
        have q5 : wr.cell? ⟨A, 5, none⟩ = some nv := hi.cell 5
        go_wp2_with fail
        refine (d4 _ hi.rd).mono ?_; rintro e w1 ⟨rfl, hr1, hk1⟩
        have h1 := hi.read hr1 hk1
        have q5' : w1.cell? ⟨A, 5, none⟩ = some nv := h1.cell 5
        clear hr1 hk1 hi q5
        go_wp2_with (at_builtin; refine h1.law rfl _ _ _ rfl 2 nv 4 (bools ns) rfl iB _ 1 Try.underlying26 hiB hzB0 hzB1 hzB2 rfl (by decide) (.bool true) rfl (by omega) 5 rfl (by rfl) (by rfl) ?_; intro g cap w2 f4 c4 hst; have HS := Lib.hid hst; clear hst)
        have h2 := HS.out { kind := kk, vals := az, null := ns ++ [true] } kv vv (.slice (some ⟨g, 0, none⟩) ((bools ns).length + 1) cap) rfl (by rw [bools_snoc]; rfl)
        clear HS h1 f4 c4 q5'
        obtain ⟨nv2, hnv2⟩ : ∃ v, v = Value.slice (some ⟨g, 0, none⟩) ((bools ns).length + 1) cap := ⟨_, rfl⟩
        rw [← hnv2] at h2 ⊢
        clear hnv2
        generalize w2.setCell ⟨A, 5, none⟩ nv2 = w3 at *
        have q4 : w3.cell? ⟨A, 4, none⟩ = some vv := h2.cell 4
        go_wp2_with fail
        go_region_law ((first
          | (refine h4.step (by rfl) _ _ _ (by rfl) 1 vv 9 (strs az) rfl iS _ 16 Try.underlying25 hiS hzS0 hzS1 hzS2 rfl (by decide) (.string (ba b)) rfl (by omega) 4 rfl (by rfl) (by rfl) ?_; intro g5 cap5 w5 f5 c5 hst5; have HS5 := Lib.hid hst5; clear hst5)
          | (rw [if_pos (by kernel_rfl)]; go_simp; go_at_call 75; refine (d5 _ h2.drew.rd).mono ?_; rintro e w4 ⟨rfl, hr4, hk4⟩; have h4 := h2.drew.read hr4 hk4; have q4' : w4.cell? ⟨A, 4, none⟩ = some vv := h4.cell 4; have q4'' : (w4.alloc (.cells #[.string (ba b)] 9)).cell? ⟨A, 4, none⟩ = some vv := (h4.alloc _).cell 4; clear hr4 hk4)))
        all_goals
          have h5 := HS5.out { kind := kk, vals := az ++ [b], null := ns ++ [true] } kv (.slice (some ⟨g5, 0, none⟩) ((strs az).length + 1) cap5) nv2 rfl (by rw [strs_snoc]; rfl)
          clear HS5 h4 h2 f5 c5 q4 q4' q4''
          go_wp2
          go_roundw
          case rel =>
            refine ⟨k + 1, by omega, by go_num, l2, x2, az ++ [b], ns ++ [true], kv, _, nv2, h5, by simp; exact HA1.out, by simp; exact HA2.out, ?_⟩
            have hk : n - k = n - (k + 1) + 1 := by omega
            rw [HF.out, hk, argsP_succ, HE4.out]
            rw [show (if (-1 : Int) = -1 then (0 : Int) else -1) = 0 from rfl]
            rw [HE2.out]
            simp
          case measure => simp [intOf]; omega
      · have hzb : (z == -1) = false := by simpa using hz
        have HNZ := Lib.hid hz
        clear hz
        have d5 := fun w h => rbytes_any R s w z l1 x1 h hs
        obtain ⟨b, l2, x2, e2⟩ := trip (rdB z l1 x1)
        rw [e2] at d5
        simp only at d5
        have HE2 := Lib.hid e2
        clear e2
        have q5 : wr.cell? ⟨A, 5, none⟩ = some nv := hi.cell 5
        go_wp2_with fail
        refine (d4 _ hi.rd).mono ?_; rintro e w1 ⟨rfl, hr1, hk1⟩
        have h1 := hi.read hr1 hk1
        have q5' : w1.cell? ⟨A, 5, none⟩ = some nv := h1.cell 5
        clear hr1 hk1 hi q5
        go_wp2_with (at_builtin; refine h1.law rfl _ _ _ rfl 2 nv 4 (bools ns) rfl iB _ 1 Try.underlying26 hiB hzB0 hzB1 hzB2 rfl (by decide) (.bool false) rfl (by omega) 5 rfl (by rfl) (by rfl) ?_; intro g cap w2 f4 c4 hst; have HS := Lib.hid hst; clear hst)
        have h2 := HS.out { kind := kk, vals := az, null := ns ++ [false] } kv vv (.slice (some ⟨g, 0, none⟩) ((bools ns).length + 1) cap) rfl (by rw [bools_snoc]; rfl)
        clear HS h1 f4 c4 q5'
        obtain ⟨nv2, hnv2⟩ : ∃ v, v = Value.slice (some ⟨g, 0, none⟩) ((bools ns).length + 1) cap := ⟨_, rfl⟩
        rw [← hnv2] at h2 ⊢
        clear hnv2
        generalize w2.setCell ⟨A, 5, none⟩ nv2 = w3 at *
        have q4 : w3.cell? ⟨A, 4, none⟩ = some vv := h2.cell 4
        go_wp2_with fail
        go_region_law ((first
          | (refine h4.step (by rfl) _ _ _ (by rfl) 1 vv 9 (strs az) rfl iS _ 16 Try.underlying25 hiS hzS0 hzS1 hzS2 rfl (by decide) (.string (ba b)) rfl (by omega) 4 rfl (by rfl) (by rfl) ?_; intro g5 cap5 w5 f5 c5 hst5; have HS5 := Lib.hid hst5; clear hst5)
          | (rw [if_pos (by kernel_rfl)]; go_simp; go_at_call 75; refine (d5 _ h2.drew.rd).mono ?_; rintro e w4 ⟨rfl, hr4, hk4⟩; have h4 := h2.drew.read hr4 hk4; have q4' : w4.cell? ⟨A, 4, none⟩ = some vv := h4.cell 4; have q4'' : (w4.alloc (.cells #[.string (ba b)] 9)).cell? ⟨A, 4, none⟩ = some vv := (h4.alloc _).cell 4; clear hr4 hk4)))
        all_goals
          have h5 := HS5.out { kind := kk, vals := az ++ [b], null := ns ++ [false] } kv (.slice (some ⟨g5, 0, none⟩) ((strs az).length + 1) cap5) nv2 rfl (by rw [strs_snoc]; rfl)
          clear HS5 h4 h2 f5 c5 q4 q4' q4''
          go_wp2
          go_roundw
          case rel =>
            refine ⟨k + 1, by omega, by go_num, l2, x2, az ++ [b], ns ++ [false], kv, _, nv2, h5, by simp; exact HA1.out, by simp; exact HA2.out, ?_⟩
            have hk : n - k = n - (k + 1) + 1 := by omega
            rw [HF.out, hk, argsP_succ, HE4.out]
            rw [if_neg HNZ.out, decide_eq_false HNZ.out]
            rw [HE2.out]
            simp
          case measure => simp [intOf]; omega
    · have e : k = n := by omega
      subst e
      rw [Nat.sub_self] at hF
      simp only [argsP, List.append_nil] at hF
      have HFF := Lib.hid hF
      clear hlt hk hF
      go_wp2
      go_end0
      refine ⟨rfl, kv, vv, nv, ?_⟩
      rw [HFF.out]
      exact hi

def lenC : Option Value → Nat
  | some (.slice _ n _) => n
  | _ => 0
/-- what holds while fields are read: k is the next kind -/
def PR (R A : Nat) (s : ByteArray) (w0 : World) (kk : UInt8) (N : Nat) (F : List Tx × List Tx × Tx × Bool) (k : Tx) (wr : World) : Prop :=
  ∃ l x ks vs kv vv nv, AI R A s w0 { kind := kk, keys := ks, vals := vs } l x kv vv nv wr ∧ (x = false → ks.length + l.length < N) ∧ ks.length ≤ N ∧ ks.length = vs.length ∧
    F = (ks ++ (fldP k l x).1, vs ++ (fldP k l x).2.1, (fldP k l x).2.2)

set_option maxHeartbeats 2000000 in
theorem rfields_any (R A : Nat) (s : ByteArray) (w0 : World) (kk : UInt8) (l : Tx) (x : Bool) (kv vv nv : Value) (w : World) (h : AI R A s w0 { kind := kk } l x kv vv nv w) (hs : s.size ≤ 1099511627776) :
    Calls Try.prog 51 #[.pointer (some ⟨R, 0, none⟩), .pointer (some ⟨A, 0, none⟩)] w (AiP R A s w0 (readD .fields { kind := kk } l x)) := by
  obtain ⟨iS, hiS, hzS0, hzS1, hzS2⟩ := info_parts infoS
  have hN : l.length ≤ 1099511627776 := Nat.le_trans h.rd.len hs
  have hlt := rdB_less l x
  unfold readD
  simp only
  generalize hF : fldP (rdB 1 l x).1 (rdB 1 l x).2.1 (rdB 1 l x).2.2 = F
  have d1 := fun w h => rbytes_any R s w 1 l x h hs
  obtain ⟨k1, l1, x1, e1⟩ := trip (rdB 1 l x)
  rw [e1] at d1 hF hlt
  simp only at hF hlt
  clear e1
  have HF := Lib.hid hF
  have HL := Lib.hid hlt
  clear hF hlt
  go_enter Try.func51, Try.ntmps51
  go_wp2_with fail
  refine (d1 _ h.rd).mono ?_; rintro e w1 ⟨rfl, hr1, hk1⟩
  have h1 := h.read hr1 hk1
  clear hr1 hk1 h
  go_wp2
  go_loopw [4] (fun key wr => ∃ k, key = .string (ba k) ∧ PR R A s w0 kk l.length F k wr) (fun _ wr => l.length + 1 - lenC (wr.cell? ⟨A, 3, none⟩))
  case atStart =>
    exact ⟨k1, rfl, l1, x1, [], [], kv, vv, nv, h1, fun hk => by simpa using HL.out hk, by simp, rfl, by rw [HF.out]; simp⟩
  case round =>
    obtain ⟨k, rfl, l, x, ks, vs, kv, vv, nv, hi, hm, hl, hkv, hF⟩ := hrel
    clear h1 HF HL
    have c2 := hi.rd.cell2
    by_cases hk : x = true ∨ k = [0]
    · rw [fldP_stop _ _ _ hk] at hF
      simp only [List.append_nil] at hF
      obtain ⟨A4, c4, rfl, hc1, hc2⟩ := (LR.own (hi.own 0 _ _ _ rfl)).form
      have hL : (strs ks).length = ks.length := strs_len ks
      rw [hL] at hi hc1
      have q4 : wr.cell? ⟨A, 3, none⟩ = some (.slice A4 ks.length c4) := hi.cell 3
      have hb : (x || !decide ((ks.length : Int) ≤ 100)) = (x || !decide (ks.length ≤ 100)) := by
        have : decide ((ks.length : Int) ≤ 100) = decide (ks.length ≤ 100) := by rw [Bool.eq_iff_iff]; simp; omega
        rw [this]
      have HF := Lib.hid hF
      have HB := Lib.hid hb
      clear hF hb hm hkv hL hc1 hc2
      by_cases hk0 : k = [0]
      · subst hk0
        clear hk
        rw [show ba [0] = ⟨#[0]⟩ from rfl]
        go_wp2_with fail
        refine (need_any R s _ _ _ _ hi.rd).mono ?_; rintro e w2 ⟨rfl, hr2, hk2⟩
        have h2 := hi.read hr2 hk2
        go_wp2
        go_end0
        rw [HF.out]
        rw [HB.out] at h2
        exact ⟨rfl, _, _, _, h2⟩
      · have hx : x = true := hk.resolve_right hk0
        have t1 : ((ba k).toList == [0]) = false := by rw [beq_eq_false_iff_ne, Lib.toList_data, ba_list]; exact hk0
        subst hx
        clear hk hk0
        go_wp2_with fail
        refine (need_any R s _ _ _ _ hi.rd).mono ?_; rintro e w2 ⟨rfl, hr2, hk2⟩
        have h2 := hi.read hr2 hk2
        go_wp2
        go_end0
        rw [HF.out]
        rw [HB.out] at h2
        exact ⟨rfl, _, _, _, h2⟩
    · have hx : x = false := by cases x; rfl; exact absurd (Or.inl rfl) hk
      have hk0 : ¬ k = [0] := fun e => hk (.inr e)
      have HE := Lib.hid hk
      subst hx
      have hm' := hm rfl
      have t1 : ((ba k).toList == [0]) = false := by rw [beq_eq_false_iff_ne, Lib.toList_data, ba_list]; exact hk0
      have hn : (strs ks).length < 1099511627776 := by rw [strs_len]; omega
      have HF := Lib.hid hF
      have HM' := Lib.hid hm'
      have HKV := Lib.hid hkv
      clear hF hm hkv hk hm' hk0
      have q4 : wr.cell? ⟨A, 3, none⟩ = some kv := hi.cell 3
      go_wp2_with (at_builtin; refine hi.law rfl _ _ _ rfl 0 kv 9 (strs ks) rfl iS _ 16 Try.underlying25 hiS hzS0 hzS1 hzS2 rfl (by decide) (.string (ba k)) rfl (by omega) 3 rfl (by rfl) (by rfl) ?_; intro g cap w2 f4 c4 hst; have HS := Lib.hid hst; clear hst)
      have h2 := HS.out { kind := kk, keys := ks ++ [k], vals := vs } (.slice (some ⟨g, 0, none⟩) ((strs ks).length + 1) cap) vv nv rfl (by rw [strs_snoc]; rfl)
      have HQ : Hid (lenC (wr.cell? ⟨A, 3, none⟩) = ks.length) := Lib.hid (by
        obtain ⟨A4, c4', e, _, _⟩ := (LR.own (hi.own 0 _ _ _ rfl)).form
        rw [q4, e]; simp [lenC, strs_len])
      clear HS hi f4 c4 q4 c2
      obtain ⟨kv2, hkv2⟩ : ∃ v, v = Value.slice (some ⟨g, 0, none⟩) ((strs ks).length + 1) cap := ⟨_, rfl⟩
      rw [← hkv2] at h2 ⊢
      have HK2 := Lib.hid hkv2
      clear hkv2
      generalize w2.setCell ⟨A, 3, none⟩ kv2 = w3 at *
      obtain ⟨t, l2, x2, e2⟩ := trip (rdT l false)
      have d2 := fun w h => rtext_any R s w l false h hs
      rw [e2] at d2
      simp only at d2
      have HE2 := Lib.hid e2
      clear e2
      have q5 : w3.cell? ⟨A, 4, none⟩ = some vv := h2.cell 4
      have hn2 : (strs vs).length < 1099511627776 := by rw [strs_len, ← HKV.out, ← strs_len]; exact hn
      go_region_law ((first
        | (refine h4.step (by rfl) _ _ _ (by rfl) 1 vv 9 (strs vs) rfl iS _ 16 Try.underlying25 hiS hzS0 hzS1 hzS2 rfl (by decide) (.string (ba t)) rfl (by omega) 4 rfl (by rfl) (by rfl) ?_; intro g5 cap5 w5 f5 c5 hst5; have HS5 := Lib.hid hst5; clear hst5)
        | (rw [if_pos (by kernel_rfl)]; go_simp; go_at_call 76; refine (d2 _ h2.drew.rd).mono ?_; rintro e w4 ⟨rfl, hr4, hk4⟩; have h4 := h2.drew.read hr4 hk4; have q5' : w4.cell? ⟨A, 4, none⟩ = some vv := h4.cell 4; have q5'' : (w4.alloc (.cells #[.string (ba t)] 9)).cell? ⟨A, 4, none⟩ = some vv := (h4.alloc _).cell 4; clear hr4 hk4)))
      all_goals
        have h5 := HS5.out { kind := kk, keys := ks ++ [k], vals := vs ++ [t] } kv2 (.slice (some ⟨g5, 0, none⟩) ((strs vs).length + 1) cap5) nv rfl (by rw [strs_snoc]; rfl)
        clear HS5 h4 h2 f5 c5 q5 q5' q5''
        go_wp2_with fail
        refine (rbytes_any R s _ 1 _ _ h5.rd hs).mono ?_; rintro e w6 ⟨rfl, hr6, hk6⟩
        have h6 := h5.read hr6 hk6
        clear hr6 hk6 h5
        go_wp2
        go_roundw
        case rel =>
          refine ⟨_, rfl, _, _, ks ++ [k], vs ++ [t], kv2, _, nv, h6, ?_, ?_, ?_, ?_⟩
          · intro hk2
            have a1 := rdB_less l2 x2 hk2
            have a2 := rdT_len l false
            rw [HE2.out] at a2
            have a3 := HM'.out
            simp only [List.length_append, List.length_cons, List.length_nil] at a2 ⊢
            omega
          · have a3 := HM'.out
            rw [List.length_append]; simp; omega
          · have := HKV.out
            simp [this]
          · rw [HF.out, fldP_cons k l false HE.out, HE2.out]
            simp
        case measure =>
          have a1 := HQ.out
          have a2 := HM'.out
          have a3 : w6.cell? ⟨A, 3, none⟩ = some kv2 := h6.cell 3
          rw [a1, a3, HK2.out]
          simp only [lenC, strs_len]
          omega
end Go.Proofs.Ytnjifbgjglniaaa.BK
