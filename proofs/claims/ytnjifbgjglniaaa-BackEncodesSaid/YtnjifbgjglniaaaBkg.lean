/- What the functions of package back's reader do that read a whole body: columns, row. Condition: the body is of at most 2^40 bytes. -/
import Derived.Test.YtnjifbgjglniaaaBkf
namespace Go.Proofs.Ytnjifbgjglniaaa.BK
open Go.Proofs.Ytnjifbgjglniaaa
open Go.ChangeShapes Go.WideShapes Go.ChangeAt Go.RowKit
set_option linter.unusedVariables false
set_option maxRecDepth 100000
attribute [local go_sem ↓] Go.wp_at_zero Go.wp_at_succ

theorem rdC_100 (l : Tx) (x : Bool) : (rdC l x).1 ≤ 100 := by
  unfold rdC
  try simp only
  split
  · omega
  · rename_i hh
    have hh : (((rd2 l x).2.2 || !decide (0 ≤ (rd2 l x).1 ∧ (rd2 l x).1 ≤ 100)) = false) := by simpa using hh
    have := of_decide_eq_true (or_not hh).2
    omega

set_option maxHeartbeats 2000000 in
theorem rcolumns_any (R A : Nat) (s : ByteArray) (w0 : World) (kk : UInt8) (l : Tx) (x : Bool) (kv vv nv : Value) (w : World) (h : AI R A s w0 { kind := kk } l x kv vv nv w) (hs : s.size ≤ 1099511627776) :
    Calls Try.prog 47 #[.pointer (some ⟨R, 0, none⟩), .pointer (some ⟨A, 0, none⟩)] w (AiP R A s w0 (readD .columns { kind := kk } l x)) := by
  obtain ⟨iS, hiS, hzS0, hzS1, hzS2⟩ := info_parts infoS
  unfold readD
  obtain ⟨n, l1, x1, e1⟩ := trip (rdC l x)
  have d1 := fun w h => rcount_any R s w l x h hs
  have hn100 := rdC_100 l x
  rw [e1] at d1 hn100
  simp only [e1] at d1 hn100 ⊢
  generalize hF : colsP n l1 x1 = F
  have HF0 := Lib.hid hF
  have dl := fun w => column_any w
  obtain ⟨L, hL⟩ : ∃ L, L = ba like := ⟨_, rfl⟩
  have hLs : L.size ≤ 100 := by rw [hL]; decide
  have hLb : ∀ b : Tx, ((ba b).toList == L.toList) = decide (b = like) := fun b => by rw [hL]; exact ba_beq b like
  have hLi : (L.size : Int) = 18 := by rw [hL]; rfl
  rw [← hL] at dl
  have HLB := Lib.hid hLb
  have HLI := Lib.hid hLi
  clear hF e1 hL hLb hLi
  go_enter Try.func47, Try.ntmps47
  go_wp2_with fail
  refine (dl _).mono ?_; rintro e w1 ⟨rfl, hb1⟩
  have h1 := h.keep (Keeps.of hb1)
  clear hb1 h dl
  go_wp2_with fail
  refine (d1 _ h1.rd).mono ?_; rintro e w2 ⟨rfl, hr1, hk1⟩
  have h2 := h1.read hr1 hk1
  clear hr1 hk1 h1 d1
  go_wp2
  go_loopw [8] (fun i wr => ∃ k : Nat, k ≤ n ∧ i = .int .i64 k ∧ ∃ l x ks kv vv nv, AI R A s w0 { kind := kk, keys := ks } l x kv vv nv wr ∧ ks.length = k ∧
      F = (ks ++ (colsP (n - k) l x).1, (colsP (n - k) l x).2)) (fun i _ => n - (intOf i).toNat)
  case atStart => exact ⟨0, Nat.zero_le _, rfl, l1, x1, [], kv, vv, nv, h2, rfl, by rw [← HF0.out]; simp⟩
  case round =>
    obtain ⟨k, hk, rfl, l, x, ks, kv, vv, nv, hi, ha1, hF⟩ := hrel
    clear h2 HF0
    by_cases hlt : k < n
    · have hz1 : (strs ks).length ≤ 100 := by rw [strs_len]; omega
      have HF := Lib.hid hF
      have HA1 := Lib.hid ha1
      clear hF ha1
      obtain ⟨t, l1, x1, e4⟩ := trip (rdT l x)
      have d4 := fun w h => rtext_any R s w l x h hs
      rw [e4] at d4
      simp only at d4
      have HE4 := Lib.hid e4
      clear e4
      obtain ⟨b, l2, x2, e2⟩ := trip (rdB 18 l1 x1)
      have d5 := fun w h => rbytes_any R s w (L.size : Int) l1 x1 h hs
      rw [HLI.out, e2] at d5
      simp only at d5
      rw [← HLI.out] at d5
      have HE2 := Lib.hid e2
      clear e2
      have q3 : wr.cell? ⟨A, 3, none⟩ = some kv := hi.cell 3
      go_wp2_with fail
      go_region_law ((first
        | (refine h4.step (by rfl) _ _ _ (by rfl) 0 kv 9 (strs ks) rfl iS _ 16 Try.underlying25 hiS hzS0 hzS1 hzS2 rfl (by decide) (.string (ba t)) rfl (by omega) 3 rfl (by rfl) (by rfl) ?_; intro g5 cap5 w5 f5 c5 hst5; have HS5 := Lib.hid hst5; clear hst5)
        | (rw [if_pos (by kernel_rfl)]; go_simp; go_at_call 76; refine (d4 _ hi.drew.rd).mono ?_; rintro e w4 ⟨rfl, hr4, hk4⟩; have h4 := hi.drew.read hr4 hk4; have q3' : w4.cell? ⟨A, 3, none⟩ = some kv := h4.cell 3; have q3'' : (w4.alloc (.cells #[.string (ba t)] 9)).cell? ⟨A, 3, none⟩ = some kv := (h4.alloc _).cell 3; clear hr4 hk4)))
      all_goals
        have h5 := HS5.out { kind := kk, keys := ks ++ [t] } (.slice (some ⟨g5, 0, none⟩) ((strs ks).length + 1) cap5) vv nv rfl (by rw [strs_snoc]; rfl)
        clear HS5 h4 hi f5 c5 q3 q3' q3''
        go_wp2_with fail
        refine (d5 _ h5.rd).mono ?_; rintro e w6 ⟨rfl, hr6, hk6⟩
        have h6 := h5.read hr6 hk6
        clear hr6 hk6 h5
        go_wp2_with fail
        refine (need_any R s _ _ _ _ h6.rd).mono ?_; rintro e w7 ⟨rfl, hr7, hk7⟩
        have h7 := h6.read hr7 hk7
        clear hr7 hk7 h6
        go_wp2
        go_roundw
        case rel =>
          refine ⟨k + 1, by omega, by go_num, _, _, ks ++ [t], _, vv, nv, h7, by simp; exact HA1.out, ?_⟩
          have hk : n - k = n - (k + 1) + 1 := by omega
          rw [HF.out, hk, colsP_succ, HE4.out]
          simp only
          rw [HE2.out]
          simp only
          rw [HLB.out]
          simp
        case measure => simp [intOf]; omega
    · have e : k = n := by omega
      subst e
      rw [Nat.sub_self] at hF
      simp only [colsP, List.append_nil] at hF
      have HFF := Lib.hid hF
      clear hlt hk hF
      go_wp2
      go_end0
      refine ⟨rfl, kv, vv, nv, ?_⟩
      rw [HFF.out]
      exact hi
end Go.Proofs.Ytnjifbgjglniaaa.BK
