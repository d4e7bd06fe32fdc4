/- FlightOnce's walk. No condition. -/
import Derived.Test.YtldpamlmnganmaaFlw0
namespace Go.Proofs.Ytldpamlmnganmaa.FL
open Go.ChangeShapes Go.WideShapes Go.ChangeAt Go.RowKit Go.Maps Go.ChangeMaps
open Go.Proofs.Ytldpamlmnganmaa.SL
set_option maxRecDepth 100000
set_option linter.unusedVariables false
set_option linter.unusedSimpArgs false

set_option maxHeartbeats 32000000 in
theorem once_any (v : Value) (l : List Ky) (w : World) (hv : KeP w v l) :
    Calls Try.prog 4 #[v] w fun e w' => e = .returned (.bool true) ∧ Below w.heap.size w w' := by
  have HV := Lib.hid hv
  obtain ⟨va, vc, rfl⟩ := hv.form
  obtain ⟨n, hn⟩ : ∃ n, l.length = n := ⟨_, rfl⟩
  rw [hn] at HV ⊢
  have HN := Lib.hid hn
  clear hv
  by_cases hbig : 40 < n
  · have l1 : (40 : Int) < (n : Int) := by omega
    clear hn hbig
    go_enter Try.func4, Try.ntmps4
    go_wp2_with fail
    refine (lb_new w).mono ?_
    rintro e w1 ⟨a, rfl, hlb, hb⟩
    have HB := Lib.hid hb
    clear hlb hb
    go_wp2_with fail
    refine (known_any _).mono ?_
    rintro e wz ⟨rfl, hb⟩
    have HB := Lib.hid (HB.out.trans (hb.mono HB.out.size))
    clear hb
    go_wp2
    go_ret
    exact ⟨rfl, HB.out⟩
  · have l1 : ¬ (40 : Int) < (n : Int) := by omega
    have HNB : Hid (n ≤ 40) := Lib.hid (by omega)
    clear hn hbig
    go_enter Try.func4, Try.ntmps4
    go_wp2_with fail
    refine (lb_new w).mono ?_
    rintro e w1 ⟨a, rfl, hlb, hb⟩
    have HL := Lib.hid hlb
    have HB := Lib.hid hb
    clear hlb hb
    go_wp2
    go_loopg [4, 5] n (fun gk u4 u5 wx => ∃ (i s : Nat) (S : List Fl), u4 = .int .i64 (s : Int) ∧ u5 = .int .i64 (i : Int) ∧ i + gk = n ∧ s = S.length ∧ s ≤ i ∧ LB w.heap.size wx a (2 * i) S ∧ OnI l i S ∧ (∀ (j : Nat) k, j < i → l[j]? = some k → shK k = true) ∧ Below w.heap.size w wx)
    case atStart => exact ⟨0, 0, [], rfl, rfl, by omega, rfl, Nat.le_refl _, HL.out, OnI.nil _, (fun j k hj => absurd hj (Nat.not_lt_zero _)), HB.out⟩
    case round =>
      obtain ⟨i, s, S, rfl, rfl, hi, hsl, hsi, hlb, hon, hsh, hb⟩ := hrel
      clear HL HB
      have HL := Lib.hid hlb
      have HB := Lib.hid hb
      have HON := Lib.hid hon
      have HSL := Lib.hid hsl
      have HSH := Lib.hid hsh
      cases gk with
      | succ gk1 =>
        have hlt : i < l.length := by rw [HN.out]; omega
        obtain ⟨k, hk0⟩ : ∃ k, l[i] = k := ⟨_, rfl⟩
        have hk : l[i]? = some k := by rw [List.getElem?_eq_getElem hlt, hk0]
        obtain ⟨hky, b, off, cp, he, hx⟩ := HV.out.at4 hk
        rw [HN.out] at he
        injection he with e1 _ e2
        subst e1 e2
        have HX := Lib.hid hx
        have HK := Lib.hid hk
        have l0 : (0 : Int) ≤ (i : Int) := by omega
        have l2 : (i : Int) < (n : Int) := by omega
        obtain ⟨i1, hi1⟩ : ∃ j, i + 1 = j := ⟨_, rfl⟩
        have wk : IntKind.i64.wrap ((i : Int) + 1) = (i1 : Int) := by rw [show (i : Int) + 1 = (i1 : Int) by omega]; exact IntWalk.i64_in _ (by have := HNB.out; omega)
        have HI : Hid (i + 1 = i1 ∧ i1 + gk1 = n ∧ s ≤ i) := Lib.hid (by omega)
        have HSO := Lib.hid (fun W => short_any k hky W)
        have hfi := fun h => hky.fit h
        cases hshk : shK k with
        | false =>
          rw [hshk] at HSO
          clear hlb hb hon hsl hsh hlt hk0 hk hx hi hi1 hshk hfi hky hsi
          obtain ⟨db, ro, fm, no⟩ := k
          have HC := Lib.hid (HSO.out wr)
          obtain ⟨a0, a1, a2, a3⟩ := HX.out wr HB.out
          go_wp2_with fail
          refine HC.out.mono ?_
          clear HC a0 a1 a2 a3
          rintro e w2 ⟨rfl, hb⟩
          have HL := Lib.hid (HL.out.below hb)
          have HB := Lib.hid (HB.out.trans (hb.mono HB.out.size))
          clear hb
          go_wp2_with fail
          refine (known_any _).mono ?_
          rintro e wz ⟨rfl, hb⟩
          have HB := Lib.hid (HB.out.trans (hb.mono HB.out.size))
          clear hb
          go_wp2
          go_ret
          exact ⟨rfl, HB.out⟩
        | true =>
          rw [hshk] at HSO
          have HFI := Lib.hid (hfi hshk)
          have HSH1 : Hid (∀ (j : Nat) k, j < i1 → l[j]? = some k → shK k = true) := Lib.hid (fun j k' hj hk' => by
            by_cases hji : j = i
            · subst hji
              rw [hk] at hk'
              injection hk' with hk'
              rw [← hk']; exact hshk
            · exact hsh j k' (by omega) hk')
          have hwf := hlb.wf
          obtain ⟨fo, hfo⟩ : ∃ o, findF S k = o := ⟨_, rfl⟩
          cases fo with
          | none =>
            have HAS := Lib.hid (hon.ask_open hfo)
            have hon1 : OnI l (i + 1) (openS S k i) := hon.opened hk
            obtain ⟨u, hu1, hu2⟩ := hon1.sits hk (open_mem S k i) (by simp)
            have HAG : Hid (∀ k', askS (openS S k i) k' (i : Int) = (openS S k i, false, 10)) := Lib.hid (fun k' => again_of (by omega) hu1)
            have HWA : Hid (waitS (openS S k i) (i : Int) = (k, true)) := Lib.hid (waits_of hu1 hu2)
            rw [hi1] at hon1
            have HON1 := Lib.hid hon1
            have HLN : Hid ((openS S k i).length = s + 1) := Lib.hid (by rw [open_length, ← hsl])
            have HLD : Hid (leadS S k = (0, false)) := Lib.hid (by unfold leadS; rw [hfo]; rfl)
            have HE := Lib.hid (fun W => neq_ky k k W)
            rw [eqK_iff.2 rfl] at HE
            obtain ⟨S1, hS1⟩ : ∃ X, openS S k i = X := ⟨_, rfl⟩
            rw [hS1] at HAS HAG HWA HON1 HLN
            clear hlb hb hon hsl hsh hlt hk0 hk hx hi hi1 hshk hfi hky hsi hon1 hu1 hu2 hwf hfo hS1
            obtain ⟨db, ro, fm, no⟩ := k
            have HC := Lib.hid (HSO.out wr)
            obtain ⟨a0, a1, a2, a3⟩ := HX.out wr HB.out
            go_wp2_with fail
            refine HC.out.mono ?_
            clear HC a0 a1 a2 a3
            rintro e w2 ⟨rfl, hb⟩
            have HL := Lib.hid (HL.out.below hb)
            have HB := Lib.hid (HB.out.trans (hb.mono HB.out.size))
            clear hb
            have HC := Lib.hid (lb_lead HL.out _ HFI.out)
            rw [HLD.out] at HC
            obtain ⟨a0, a1, a2, a3⟩ := HX.out w2 HB.out
            go_wp2_with fail
            refine HC.out.mono ?_
            clear HC a0 a1 a2 a3
            rintro e w3 ⟨rfl, hb⟩
            have HL := Lib.hid (HL.out.below hb)
            have HB := Lib.hid (HB.out.trans (hb.mono HB.out.size))
            clear hb
            have HC := Lib.hid (lb_ask HL.out (by have := HI.out; have := HNB.out; omega) _ HFI.out (i : Int) ⟨by omega, by have := HI.out; have := HNB.out; omega⟩)
            rw [HAS.out] at HC
            obtain ⟨a0, a1, a2, a3⟩ := HX.out w3 HB.out
            go_wp2_with fail
            refine HC.out.mono ?_
            clear HC a0 a1 a2 a3
            rintro e w4 ⟨rfl, hs⟩
            have HL := Lib.hid hs.lb
            have HB := Lib.hid (HB.out.trans hs.bel)
            clear hs
            have HC := Lib.hid (lb_ask HL.out (by have := HI.out; have := HNB.out; omega) _ HFI.out (i : Int) ⟨by omega, by have := HI.out; have := HNB.out; omega⟩)
            rw [HAG.out] at HC
            obtain ⟨a0, a1, a2, a3⟩ := HX.out w4 HB.out
            go_wp2_with fail
            refine HC.out.mono ?_
            clear HC a0 a1 a2 a3
            rintro e w5 ⟨rfl, hs⟩
            have HL := Lib.hid hs.lb
            have HB := Lib.hid (HB.out.trans hs.bel)
            clear hs
            have HC := Lib.hid (lb_waits HL.out (i : Int) ⟨by omega, by have := HI.out; have := HNB.out; omega⟩)
            rw [HWA.out] at HC
            have HD : Hid (Calls Try.prog 21 #[ptr a, .int .i64 (i : Int)] w5 (RdP (.tuple #[.agg #[.string db, .string ro, .int .i64 fm, .string no], .bool true]) w5)) := HC
            clear HC
            have HC := HD
            clear HD
            obtain ⟨a0, a1, a2, a3⟩ := HX.out w5 HB.out
            go_wp2_with fail
            refine HC.out.mono ?_
            clear HC a0 a1 a2 a3
            rintro e w6 ⟨rfl, hb⟩
            have HL := Lib.hid (HL.out.below hb)
            have HB := Lib.hid (HB.out.trans (hb.mono HB.out.size))
            clear hb
            obtain ⟨W9, hW9⟩ : ∃ W, w6.alloc (.cells #[.string db, .string ro, .int .i64 fm, .string no] 30) = W := ⟨_, rfl⟩
            obtain ⟨xb, hxb⟩ : ∃ b, w6.heap.size = b := ⟨_, rfl⟩
            have b9 : Below w6.heap.size w6 W9 := by rw [← hW9]; exact (Below.refl _ _).alloc (Nat.le_refl _) _
            have HXX := Lib.hid (show Bk W9 xb 30 (kC (db, ro, fm, no)) by rw [← hW9, ← hxb]; exact Bk.new _ _ _)
            have HL := Lib.hid (HL.out.below b9)
            have HB := Lib.hid (HB.out.trans (b9.mono HB.out.size))
            clear b9
            obtain ⟨a0, a1, a2, a3⟩ := HX.out W9 HB.out
            have x0 : W9.cell? ⟨xb, 0, none⟩ = some (.string db) := HXX.out.cell 0
            have x1 : W9.cell? ⟨xb, 1, none⟩ = some (.string ro) := HXX.out.cell 1
            have x2 : W9.cell? ⟨xb, 2, none⟩ = some (.int .i64 fm) := HXX.out.cell 2
            have x3 : W9.cell? ⟨xb, 3, none⟩ = some (.string no) := HXX.out.cell 3
            go_wp2_with fail
            try rw [hW9]
            try rw [hxb]
            clear hW9 hxb
            refine wp_region_held_drew (S := (fun w' => w'.cell? ⟨b, off + i * 4, none⟩ = some (.string db) ∧ w'.cell? ⟨b, off + i * 4 + 1, none⟩ = some (.string ro) ∧ w'.cell? ⟨b, off + i * 4 + 2, none⟩ = some (.int .i64 fm) ∧ w'.cell? ⟨b, off + i * 4 + 3, none⟩ = some (.string no) ∧ w'.cell? ⟨xb, 0, none⟩ = some (.string db) ∧ w'.cell? ⟨xb, 1, none⟩ = some (.string ro) ∧ w'.cell? ⟨xb, 2, none⟩ = some (.int .i64 fm) ∧ w'.cell? ⟨xb, 3, none⟩ = some (.string no))) (by kernel_rfl) ?_ (fun hS => ?_)
            · exact ⟨a0, a1, a2, a3, x0, x1, x2, x3⟩
            refine tkY 0 ?_ rfl hS ?_ ?_
            rotate_left
            · intro wz hz
              go_simp
              all_goals first | with_reducible rfl | omega
            try simp only [Act.put, pu]
            refine tkY 1 (.bool false) rfl hS ?_ ?_
            · intro wz hz
              go_simp
              all_goals first | with_reducible rfl | omega
            try simp only [Act.put, pu]
            refine tkY 2 (.bool false) rfl hS ?_ ?_
            · intro wz hz
              go_simp
              all_goals first | with_reducible rfl | omega
            try simp only [Act.put, pu]
            refine tkY 3 ?_ rfl hS ?_ ?_
            rotate_left
            · intro wz hz
              go_simp
              all_goals first | with_reducible rfl | omega
            try simp only [Act.put, pu]
            refine tkY 4 ?_ rfl hS ?_ ?_
            rotate_left
            · intro wz hz
              go_simp
              all_goals first | with_reducible rfl | omega
            try simp only [Act.put, pu]
            refine tkY 5 (.bool false) rfl hS ?_ ?_
            · intro wz hz
              go_simp
              all_goals first | with_reducible rfl | omega
            try simp only [Act.put, pu]
            refine tkY 6 (.bool false) rfl hS ?_ ?_
            · intro wz hz
              go_simp
              all_goals first | with_reducible rfl | omega
            try simp only [Act.put, pu]
            refine tkY 7 (.bool false) rfl hS ?_ ?_
            · intro wz hz
              go_simp
              all_goals first | with_reducible rfl | omega
            try simp only [Act.put, pu]
            refine tkY 8 ?_ rfl hS ?_ ?_
            rotate_left
            · intro wz hz
              go_simp
              all_goals first | with_reducible rfl | omega
            try simp only [Act.put, pu]
            refine tkY 9 (.bool false) rfl hS ?_ ?_
            · intro wz hz
              go_simp
              all_goals first | with_reducible rfl | omega
            try simp only [Act.put, pu]
            refine tkY 10 (.bool false) rfl hS ?_ ?_
            · intro wz hz
              go_simp
              all_goals first | with_reducible rfl | omega
            try simp only [Act.put, pu]
            refine tkY 11 (.bool false) rfl hS ?_ ?_
            · intro wz hz
              go_simp
              all_goals first | with_reducible rfl | omega
            try simp only [Act.put, pu]
            refine tkY 12 ?_ rfl hS ?_ ?_
            rotate_left
            · intro wz hz
              go_simp
              all_goals first | with_reducible rfl | omega
            try simp only [Act.put, pu]
            refine tkY 13 (.bool false) rfl hS ?_ ?_
            · intro wz hz
              go_simp
              all_goals first | with_reducible rfl | omega
            try simp only [Act.put, pu]
            refine tkY 14 (.bool false) rfl hS ?_ ?_
            · intro wz hz
              go_simp
              all_goals first | with_reducible rfl | omega
            try simp only [Act.put, pu]
            refine tkY 15 (.bool false) rfl hS ?_ ?_
            · intro wz hz
              go_simp
              all_goals first | with_reducible rfl | omega
            try simp only [Act.put, pu]
            refine tkY 16 ?_ rfl hS ?_ ?_
            rotate_left
            · intro wz hz
              obtain ⟨z0, z1, z2, z3, z4, z5, z6, z7⟩ := hz
              go_simp
              all_goals first | with_reducible rfl | omega
            try simp only [Act.put, pu]
            refine tkY 17 ?_ rfl hS ?_ ?_
            rotate_left
            · intro wz hz
              go_simp
              all_goals first | with_reducible rfl | omega
            try simp only [Act.put, pu]
            refine tkY 18 ?_ rfl hS ?_ ?_
            rotate_left
            · intro wz hz
              go_simp
              all_goals first | with_reducible rfl | omega
            try simp only [Act.put, pu]
            refine tkY 19 ?_ rfl hS ?_ ?_
            rotate_left
            · intro wz hz
              go_simp
              all_goals first | with_reducible rfl | omega
            try simp only [Act.put, pu]
            refine tkY 20 ?_ rfl hS ?_ ?_
            rotate_left
            · intro wz hz
              obtain ⟨z0, z1, z2, z3, z4, z5, z6, z7⟩ := hz
              go_simp
              all_goals first | with_reducible rfl | omega
            try simp only [Act.put, pu]
            refine tkY 21 (.bool false) rfl hS ?_ ?_
            · intro wz hz
              have hee := HE.out
              simp only [Bool.not_true] at hee
              go_simp
              all_goals first | with_reducible rfl | omega
            try simp only [Act.put, pu]
            refine tkY 22 (.bool false) rfl hS ?_ ?_
            · intro wz hz
              go_simp
              all_goals first | with_reducible rfl | omega
            try simp only [Act.put, pu]
            refine wpAnyH_done (by kernel_rfl) ?_ _
            clear hS
            have HL := Lib.hid (HL.out.below ((Below.refl W9.heap.size W9).drew))
            have HB := Lib.hid (HB.out.trans ((Below.refl W9.heap.size W9).drew.mono HB.out.size))
            clear a0 a1 a2 a3 x0 x1 x2 x3
            obtain ⟨s1, hs1⟩ : ∃ j, s + 1 = j := ⟨_, rfl⟩
            rw [hs1] at HLN
            have ws : IntKind.i64.wrap ((s : Int) + 1) = (s1 : Int) := by rw [show (s : Int) + 1 = (s1 : Int) by omega]; exact IntWalk.i64_in _ (by have := HI.out; have := HNB.out; omega)
            have HS1 : Hid (s1 ≤ i1) := Lib.hid (by have := HI.out; omega)
            clear hs1
            go_wp2
            go_roundg gk1
            case measure => exact Nat.lt_succ_self _
            case rel => exact ⟨i1, s1, S1, rfl, rfl, HI.out.2.1, HLN.out.symm, HS1.out, (HL.out).mono (by have := HI.out; omega), HON1.out, HSH1.out, HB.out⟩
          | some fl =>
            have HAS := Lib.hid (hon.ask_join hfo)
            have hon1 : OnI l (i + 1) (joinS S k i) := hon.joined hwf hk hfo
            obtain ⟨u, hu1, hu2⟩ := hon1.sits hk (join_mem (findF_mem hfo)) (by simp)
            have HAG : Hid (∀ k', askS (joinS S k i) k' (i : Int) = (joinS S k i, false, 10)) := Lib.hid (fun k' => again_of (by omega) hu1)
            have HWA : Hid (waitS (joinS S k i) (i : Int) = (k, true)) := Lib.hid (waits_of hu1 hu2)
            rw [hi1] at hon1
            have HON1 := Lib.hid hon1
            have HLN : Hid ((joinS S k i).length = s) := Lib.hid (by rw [join_len, ← hsl])
            have HLD : Hid (leadS S k = (fl.headD 0, true)) := Lib.hid (by unfold leadS; rw [hfo]; rfl)
            have HE := Lib.hid (fun W => neq_ky k k W)
            rw [eqK_iff.2 rfl] at HE
            obtain ⟨S1, hS1⟩ : ∃ X, joinS S k i = X := ⟨_, rfl⟩
            rw [hS1] at HAS HAG HWA HON1 HLN
            clear hlb hb hon hsl hsh hlt hk0 hk hx hi hi1 hshk hfi hky hsi hon1 hu1 hu2 hwf hfo hS1
            obtain ⟨db, ro, fm, no⟩ := k
            have HC := Lib.hid (HSO.out wr)
            obtain ⟨a0, a1, a2, a3⟩ := HX.out wr HB.out
            go_wp2_with fail
            refine HC.out.mono ?_
            clear HC a0 a1 a2 a3
            rintro e w2 ⟨rfl, hb⟩
            have HL := Lib.hid (HL.out.below hb)
            have HB := Lib.hid (HB.out.trans (hb.mono HB.out.size))
            clear hb
            obtain ⟨hd, hhd⟩ : ∃ h, fl.headD 0 = h := ⟨_, rfl⟩
            rw [hhd] at HLD
            clear hhd
            have HC := Lib.hid (lb_lead HL.out _ HFI.out)
            rw [HLD.out] at HC
            obtain ⟨a0, a1, a2, a3⟩ := HX.out w2 HB.out
            go_wp2_with fail
            refine HC.out.mono ?_
            clear HC a0 a1 a2 a3
            rintro e w3 ⟨rfl, hb⟩
            have HL := Lib.hid (HL.out.below hb)
            have HB := Lib.hid (HB.out.trans (hb.mono HB.out.size))
            clear hb
            have HC := Lib.hid (lb_ask HL.out (by have := HI.out; have := HNB.out; omega) _ HFI.out (i : Int) ⟨by omega, by have := HI.out; have := HNB.out; omega⟩)
            rw [HAS.out] at HC
            obtain ⟨a0, a1, a2, a3⟩ := HX.out w3 HB.out
            go_wp2_with fail
            refine HC.out.mono ?_
            clear HC a0 a1 a2 a3
            rintro e w4 ⟨rfl, hs⟩
            have HL := Lib.hid hs.lb
            have HB := Lib.hid (HB.out.trans hs.bel)
            clear hs
            have HC := Lib.hid (lb_ask HL.out (by have := HI.out; have := HNB.out; omega) _ HFI.out (i : Int) ⟨by omega, by have := HI.out; have := HNB.out; omega⟩)
            rw [HAG.out] at HC
            obtain ⟨a0, a1, a2, a3⟩ := HX.out w4 HB.out
            go_wp2_with fail
            refine HC.out.mono ?_
            clear HC a0 a1 a2 a3
            rintro e w5 ⟨rfl, hs⟩
            have HL := Lib.hid hs.lb
            have HB := Lib.hid (HB.out.trans hs.bel)
            clear hs
            have HC := Lib.hid (lb_waits HL.out (i : Int) ⟨by omega, by have := HI.out; have := HNB.out; omega⟩)
            rw [HWA.out] at HC
            have HD : Hid (Calls Try.prog 21 #[ptr a, .int .i64 (i : Int)] w5 (RdP (.tuple #[.agg #[.string db, .string ro, .int .i64 fm, .string no], .bool true]) w5)) := HC
            clear HC
            have HC := HD
            clear HD
            obtain ⟨a0, a1, a2, a3⟩ := HX.out w5 HB.out
            go_wp2_with fail
            refine HC.out.mono ?_
            clear HC a0 a1 a2 a3
            rintro e w6 ⟨rfl, hb⟩
            have HL := Lib.hid (HL.out.below hb)
            have HB := Lib.hid (HB.out.trans (hb.mono HB.out.size))
            clear hb
            obtain ⟨W9, hW9⟩ : ∃ W, w6.alloc (.cells #[.string db, .string ro, .int .i64 fm, .string no] 30) = W := ⟨_, rfl⟩
            obtain ⟨xb, hxb⟩ : ∃ b, w6.heap.size = b := ⟨_, rfl⟩
            have b9 : Below w6.heap.size w6 W9 := by rw [← hW9]; exact (Below.refl _ _).alloc (Nat.le_refl _) _
            have HXX := Lib.hid (show Bk W9 xb 30 (kC (db, ro, fm, no)) by rw [← hW9, ← hxb]; exact Bk.new _ _ _)
            have HL := Lib.hid (HL.out.below b9)
            have HB := Lib.hid (HB.out.trans (b9.mono HB.out.size))
            clear b9
            obtain ⟨a0, a1, a2, a3⟩ := HX.out W9 HB.out
            have x0 : W9.cell? ⟨xb, 0, none⟩ = some (.string db) := HXX.out.cell 0
            have x1 : W9.cell? ⟨xb, 1, none⟩ = some (.string ro) := HXX.out.cell 1
            have x2 : W9.cell? ⟨xb, 2, none⟩ = some (.int .i64 fm) := HXX.out.cell 2
            have x3 : W9.cell? ⟨xb, 3, none⟩ = some (.string no) := HXX.out.cell 3
            go_wp2_with fail
            try rw [hW9]
            try rw [hxb]
            clear hW9 hxb
            refine wp_region_held_drew (S := (fun w' => w'.cell? ⟨b, off + i * 4, none⟩ = some (.string db) ∧ w'.cell? ⟨b, off + i * 4 + 1, none⟩ = some (.string ro) ∧ w'.cell? ⟨b, off + i * 4 + 2, none⟩ = some (.int .i64 fm) ∧ w'.cell? ⟨b, off + i * 4 + 3, none⟩ = some (.string no) ∧ w'.cell? ⟨xb, 0, none⟩ = some (.string db) ∧ w'.cell? ⟨xb, 1, none⟩ = some (.string ro) ∧ w'.cell? ⟨xb, 2, none⟩ = some (.int .i64 fm) ∧ w'.cell? ⟨xb, 3, none⟩ = some (.string no))) (by kernel_rfl) ?_ (fun hS => ?_)
            · exact ⟨a0, a1, a2, a3, x0, x1, x2, x3⟩
            refine tkY 0 ?_ rfl hS ?_ ?_
            rotate_left
            · intro wz hz
              go_simp
              all_goals first | with_reducible rfl | omega
            try simp only [Act.put, pu]
            refine tkY 1 (.bool false) rfl hS ?_ ?_
            · intro wz hz
              go_simp
              all_goals first | with_reducible rfl | omega
            try simp only [Act.put, pu]
            refine tkY 2 (.bool false) rfl hS ?_ ?_
            · intro wz hz
              go_simp
              all_goals first | with_reducible rfl | omega
            try simp only [Act.put, pu]
            refine tkY 3 ?_ rfl hS ?_ ?_
            rotate_left
            · intro wz hz
              go_simp
              all_goals first | with_reducible rfl | omega
            try simp only [Act.put, pu]
            refine tkY 4 ?_ rfl hS ?_ ?_
            rotate_left
            · intro wz hz
              go_simp
              all_goals first | with_reducible rfl | omega
            try simp only [Act.put, pu]
            refine tkY 5 (.bool false) rfl hS ?_ ?_
            · intro wz hz
              go_simp
              all_goals first | with_reducible rfl | omega
            try simp only [Act.put, pu]
            refine tkY 6 (.bool false) rfl hS ?_ ?_
            · intro wz hz
              go_simp
              all_goals first | with_reducible rfl | omega
            try simp only [Act.put, pu]
            refine tkY 7 (.bool false) rfl hS ?_ ?_
            · intro wz hz
              go_simp
              all_goals first | with_reducible rfl | omega
            try simp only [Act.put, pu]
            refine tkY 8 ?_ rfl hS ?_ ?_
            rotate_left
            · intro wz hz
              go_simp
              all_goals first | with_reducible rfl | omega
            try simp only [Act.put, pu]
            refine tkY 9 (.bool false) rfl hS ?_ ?_
            · intro wz hz
              go_simp
              all_goals first | with_reducible rfl | omega
            try simp only [Act.put, pu]
            refine tkY 10 (.bool false) rfl hS ?_ ?_
            · intro wz hz
              go_simp
              all_goals first | with_reducible rfl | omega
            try simp only [Act.put, pu]
            refine tkY 11 (.bool false) rfl hS ?_ ?_
            · intro wz hz
              go_simp
              all_goals first | with_reducible rfl | omega
            try simp only [Act.put, pu]
            refine tkY 12 ?_ rfl hS ?_ ?_
            rotate_left
            · intro wz hz
              go_simp
              all_goals first | with_reducible rfl | omega
            try simp only [Act.put, pu]
            refine tkY 13 (.bool false) rfl hS ?_ ?_
            · intro wz hz
              go_simp
              all_goals first | with_reducible rfl | omega
            try simp only [Act.put, pu]
            refine tkY 14 (.bool false) rfl hS ?_ ?_
            · intro wz hz
              go_simp
              all_goals first | with_reducible rfl | omega
            try simp only [Act.put, pu]
            refine tkY 15 (.bool false) rfl hS ?_ ?_
            · intro wz hz
              go_simp
              all_goals first | with_reducible rfl | omega
            try simp only [Act.put, pu]
            refine tkY 16 ?_ rfl hS ?_ ?_
            rotate_left
            · intro wz hz
              obtain ⟨z0, z1, z2, z3, z4, z5, z6, z7⟩ := hz
              go_simp
              all_goals first | with_reducible rfl | omega
            try simp only [Act.put, pu]
            refine tkY 17 ?_ rfl hS ?_ ?_
            rotate_left
            · intro wz hz
              go_simp
              all_goals first | with_reducible rfl | omega
            try simp only [Act.put, pu]
            refine tkY 18 ?_ rfl hS ?_ ?_
            rotate_left
            · intro wz hz
              go_simp
              all_goals first | with_reducible rfl | omega
            try simp only [Act.put, pu]
            refine tkY 19 ?_ rfl hS ?_ ?_
            rotate_left
            · intro wz hz
              go_simp
              all_goals first | with_reducible rfl | omega
            try simp only [Act.put, pu]
            refine tkY 20 ?_ rfl hS ?_ ?_
            rotate_left
            · intro wz hz
              obtain ⟨z0, z1, z2, z3, z4, z5, z6, z7⟩ := hz
              go_simp
              all_goals first | with_reducible rfl | omega
            try simp only [Act.put, pu]
            refine tkY 21 (.bool false) rfl hS ?_ ?_
            · intro wz hz
              have hee := HE.out
              simp only [Bool.not_true] at hee
              go_simp
              all_goals first | with_reducible rfl | omega
            try simp only [Act.put, pu]
            refine tkY 22 (.bool false) rfl hS ?_ ?_
            · intro wz hz
              go_simp
              all_goals first | with_reducible rfl | omega
            try simp only [Act.put, pu]
            refine wpAnyH_done (by kernel_rfl) ?_ _
            clear hS
            have HL := Lib.hid (HL.out.below ((Below.refl W9.heap.size W9).drew))
            have HB := Lib.hid (HB.out.trans ((Below.refl W9.heap.size W9).drew.mono HB.out.size))
            clear a0 a1 a2 a3 x0 x1 x2 x3
            go_wp2
            go_roundg gk1
            case measure => exact Nat.lt_succ_self _
            case rel => exact ⟨i1, s, S1, rfl, rfl, HI.out.2.1, HLN.out.symm, by have := HI.out; omega, (HL.out).mono (by have := HI.out; omega), HON1.out, HSH1.out, HB.out⟩
      | zero =>
        have hie : i = n := by omega
        subst hie
        have l2 : ¬ ((i : Int) < (i : Int)) := by omega
        have HO := Lib.hid (lb_open hlb)
        rw [← hsl] at HO
        have HOF := Lib.hid hon.off
        have HSHA := Lib.hid hsh
        clear hlb hb hon hsl hsh hi hsi HON HSL HSH
        go_wp2_with fail
        refine HO.out.mono ?_
        rintro e wq ⟨rfl, rfl⟩
        clear HO
        go_wp2
        go_loopg [14, 15] i (fun gk u14 u15 wx => ∃ (j told : Nat) (T : List Fl), u14 = .int .i64 (told : Int) ∧ u15 = .int .i64 (j : Int) ∧ j + gk = i ∧ LB w.heap.size wx a (2 * i) T ∧ OffI l j i told T ∧ Below w.heap.size w wx)
        case atStart => exact ⟨0, 0, S, rfl, rfl, by omega, HL.out, HOF.out, HB.out⟩
        case round =>
          obtain ⟨j, told, T, rfl, rfl, hj, hlb, hof, hb⟩ := hrel
          clear HL HB HOF
          have HL := Lib.hid hlb
          have HB := Lib.hid hb
          have HOF := Lib.hid hof
          cases gk with
          | zero =>
            have hje : j = i := by omega
            subst hje
            obtain ⟨hT, ht⟩ := hof.end_ hlb.wf
            have l3 : ¬ ((j : Int) < (j : Int)) := by omega
            have HO : Hid (Calls Try.prog 23 #[ptr a] wr fun e w' => e = .returned (.int .i64 0) ∧ wr = w') := Lib.hid (by have := lb_open hlb; rw [hT] at this; exact this)
            subst ht
            clear hlb hb hof hj hT
            go_wp2_with fail
            refine HO.out.mono ?_
            rintro e wy ⟨rfl, rfl⟩
            go_wp2_with fail
            refine (known_any _).mono ?_
            rintro e wz ⟨rfl, hb⟩
            have HB := Lib.hid (HB.out.trans (hb.mono HB.out.size))
            clear hb
            go_wp2
            go_ret
            exact ⟨rfl, HB.out⟩
          | succ gk1 =>
            have hlt : j < l.length := by rw [HN.out]; omega
            obtain ⟨k, hk0⟩ : ∃ k, l[j] = k := ⟨_, rfl⟩
            have hk : l[j]? = some k := by rw [List.getElem?_eq_getElem hlt, hk0]
            obtain ⟨hky, b, off, cp, he, hx⟩ := HV.out.at4 hk
            rw [HN.out] at he
            injection he with e1 _ e2
            subst e1 e2
            have HX := Lib.hid hx
            have HFI := Lib.hid (hky.fit (HSHA.out j k (by omega) hk))
            have l0 : (0 : Int) ≤ (j : Int) := by omega
            have l3 : (j : Int) < (i : Int) := by omega
            obtain ⟨j1, hj1⟩ : ∃ x, j + 1 = x := ⟨_, rfl⟩
            have wk : IntKind.i64.wrap ((j : Int) + 1) = (j1 : Int) := by rw [show (j : Int) + 1 = (j1 : Int) by omega]; exact IntWalk.i64_in _ (by have := HNB.out; omega)
            have HJ : Hid (j1 + gk1 = i ∧ j < i) := Lib.hid (by omega)
            have hwf := hlb.wf
            obtain ⟨zk, hzk⟩ : ∃ k, zKy = k := ⟨_, rfl⟩
            obtain ⟨y0, y1, y2, y3⟩ := zk
            have HZK := Lib.hid hzk
            clear hzk
            obtain ⟨fo, hfo⟩ : ∃ o, findF T k = o := ⟨_, rfl⟩
            cases fo with
            | none =>
              have hof1 := hof.skip hk hfo
              have HWA : Hid (waitS T (j : Int) = ((y0, y1, y2, y3), false)) := Lib.hid (by rw [wait_free hof1.gone, HZK.out])
              have HLA := Lib.hid (land_none hfo)
              rw [hj1] at hof1
              have HOF1 := Lib.hid hof1
              clear hlb hb hof hlt hk0 hk hky hx hj hj1 hwf hfo hof1
              obtain ⟨db, ro, fm, no⟩ := k
              have HC := Lib.hid (lb_land HL.out (by have := HNB.out; omega) _ HFI.out)
              rw [HLA.out] at HC
              obtain ⟨a0, a1, a2, a3⟩ := HX.out wr HB.out
              go_wp2_with fail
              refine HC.out.mono ?_
              clear HC a0 a1 a2 a3
              rintro e w4 ⟨v1, rfl, hi1, hs⟩
              have HL := Lib.hid hs.lb
              have HB := Lib.hid (HB.out.trans hs.bel)
              obtain ⟨va1, vc1, rfl⟩ := hi1.form
              clear hs hi1
              have HC := Lib.hid (lb_waits HL.out (j : Int) ⟨by omega, by have := HJ.out; have := HNB.out; omega⟩)
              rw [HWA.out] at HC
              go_wp2_with fail
              refine HC.out.mono ?_
              clear HC
              rintro e w6 ⟨rfl, hb⟩
              have HL := Lib.hid (HL.out.below hb)
              have HB := Lib.hid (HB.out.trans (hb.mono HB.out.size))
              clear hb
              have b7 : Below w6.heap.size w6 (w6.alloc (.cells (kC (y0, y1, y2, y3)) 30)) := (Below.refl _ _).alloc (Nat.le_refl _) _
              have HL := Lib.hid (HL.out.below b7)
              have HB := Lib.hid (HB.out.trans (b7.mono HB.out.size))
              clear b7
              obtain ⟨W7, hW7⟩ : ∃ W, w6.alloc (.cells (kC (y0, y1, y2, y3)) 30) = W := ⟨_, rfl⟩
              rw [hW7] at HL HB
              go_wp2
              go_roundg gk1
              case measure => exact Nat.lt_succ_self _
              case rel => exact ⟨j1, told, T, rfl, rfl, HJ.out.1, HL.out, HOF1.out, HB.out⟩
            | some fl =>
              have hof1 := hof.land hwf hk hfo
              have HWA : Hid (waitS (closeS T k) (j : Int) = ((y0, y1, y2, y3), false)) := Lib.hid (by rw [wait_free hof1.gone, HZK.out])
              have HLA := Lib.hid (land_some hfo)
              have hhm := headD_mem (hwf.some_ _ (findF_mem hfo))
              obtain ⟨h9, hh9, hh9l, hh9k⟩ := hof.cl _ (findF_mem hfo) _ hhm
              simp only at hh9 hh9k
              rw [hh9] at HLA
              obtain ⟨_, b9, off9, cp9, he9, hx9⟩ := HV.out.at4 hh9k
              rw [HN.out] at he9
              injection he9 with e1 _ e2
              injection e1 with e1
              injection e1 with e3 e4 _
              clear e2
              subst e3 e4
              have HX9 := Lib.hid hx9
              have l4 : (0 : Int) ≤ (h9 : Int) := by omega
              have l5 : (h9 : Int) < (i : Int) := by omega
              have hfl : 1 ≤ fl.length := by
                cases fl with
                | nil => exact absurd rfl (hwf.some_ _ (findF_mem hfo))
                | cons _ _ => simp
              have htl : fl.tail.length + 1 = fl.length := by rw [List.length_tail]; omega
              have htt := hof1.tt
              obtain ⟨tl, htl2⟩ : ∃ x, fl.tail.length = x := ⟨_, rfl⟩
              have HTL := Lib.hid htl2
              rw [htl2] at htl
              obtain ⟨t1, ht1⟩ : ∃ x, told + 1 = x := ⟨_, rfl⟩
              obtain ⟨t2, ht2⟩ : ∃ x, told + fl.length = x := ⟨_, rfl⟩
              rw [hj1, ht2] at hof1
              have wt1 : IntKind.i64.wrap ((told : Int) + 1) = (t1 : Int) := by rw [show (told : Int) + 1 = (t1 : Int) by omega]; exact IntWalk.i64_in _ (by have := HNB.out; omega)
              have wt2 : IntKind.i64.wrap ((t1 : Int) + (tl : Int)) = (t2 : Int) := by rw [show (t1 : Int) + (tl : Int) = (t2 : Int) by omega]; exact IntWalk.i64_in _ (by have := HNB.out; omega)
              have HOF1 := Lib.hid hof1
              have HE := Lib.hid (fun W => neq_ky k k W)
              rw [eqK_iff.2 rfl] at HE
              obtain ⟨T1, hT1⟩ : ∃ X, closeS T k = X := ⟨_, rfl⟩
              rw [hT1] at HWA HLA HOF1
              clear hlb hb hof hlt hk0 hk hky hx hj hj1 hwf hfo hof1 hhm hh9 hh9l hh9k hx9 hfl htl htt ht1 ht2 hT1 htl2
              obtain ⟨db, ro, fm, no⟩ := k
              have HC := Lib.hid (lb_land HL.out (by have := HNB.out; omega) _ HFI.out)
              rw [HLA.out] at HC
              obtain ⟨a0, a1, a2, a3⟩ := HX.out wr HB.out
              go_wp2_with fail
              refine HC.out.mono ?_
              clear HC a0 a1 a2 a3
              rintro e w4 ⟨v1, rfl, hi1, hs⟩
              have HL := Lib.hid hs.lb
              have HB := Lib.hid (HB.out.trans hs.bel)
              obtain ⟨va1, vc1, hv⟩ := hi1.form
              rw [HTL.out] at hv
              subst hv
              clear hs hi1
              obtain ⟨a0, a1, a2, a3⟩ := HX.out w4 HB.out
              obtain ⟨c0, c1, c2, c3⟩ := HX9.out w4 HB.out
              go_wp2_with fail
              refine wp_region_held_drew (S := (fun w' => w'.cell? ⟨b, off + j * 4, none⟩ = some (.string db) ∧ w'.cell? ⟨b, off + j * 4 + 1, none⟩ = some (.string ro) ∧ w'.cell? ⟨b, off + j * 4 + 2, none⟩ = some (.int .i64 fm) ∧ w'.cell? ⟨b, off + j * 4 + 3, none⟩ = some (.string no) ∧ w'.cell? ⟨b, off + h9 * 4, none⟩ = some (.string db) ∧ w'.cell? ⟨b, off + h9 * 4 + 1, none⟩ = some (.string ro) ∧ w'.cell? ⟨b, off + h9 * 4 + 2, none⟩ = some (.int .i64 fm) ∧ w'.cell? ⟨b, off + h9 * 4 + 3, none⟩ = some (.string no))) (by kernel_rfl) ?_ (fun hS => ?_)
              · exact ⟨a0, a1, a2, a3, c0, c1, c2, c3⟩
              refine tkY 0 ?_ rfl hS ?_ ?_
              rotate_left
              · intro wz hz
                go_simp
                all_goals first | with_reducible rfl | omega
              try simp only [Act.put, pu]
              refine tkY 1 ?_ rfl hS ?_ ?_
              rotate_left
              · intro wz hz
                go_simp
                all_goals first | with_reducible rfl | omega
              try simp only [Act.put, pu]
              refine tkY 2 ?_ rfl hS ?_ ?_
              rotate_left
              · intro wz hz
                go_simp
                all_goals first | with_reducible rfl | omega
              try simp only [Act.put, pu]
              refine tkY 3 ?_ rfl hS ?_ ?_
              rotate_left
              · intro wz hz
                obtain ⟨z0, z1, z2, z3, z4, z5, z6, z7⟩ := hz
                go_simp
                all_goals first | with_reducible rfl | omega
              try simp only [Act.put, pu]
              refine tkY 4 ?_ rfl hS ?_ ?_
              rotate_left
              · intro wz hz
                go_simp
                all_goals first | with_reducible rfl | omega
              try simp only [Act.put, pu]
              refine tkY 5 ?_ rfl hS ?_ ?_
              rotate_left
              · intro wz hz
                go_simp
                all_goals first | with_reducible rfl | omega
              try simp only [Act.put, pu]
              refine tkY 6 ?_ rfl hS ?_ ?_
              rotate_left
              · intro wz hz
                go_simp
                all_goals first | with_reducible rfl | omega
              try simp only [Act.put, pu]
              refine tkY 7 ?_ rfl hS ?_ ?_
              rotate_left
              · intro wz hz
                obtain ⟨z0, z1, z2, z3, z4, z5, z6, z7⟩ := hz
                go_simp
                all_goals first | with_reducible rfl | omega
              try simp only [Act.put, pu]
              refine tkY 8 (.bool false) rfl hS ?_ ?_
              · intro wz hz
                have hee := HE.out
                simp only [Bool.not_true] at hee
                go_simp
                all_goals first | with_reducible rfl | omega
              try simp only [Act.put, pu]
              refine wpAnyH_done (by kernel_rfl) ?_ _
              clear hS
              have HL := Lib.hid (HL.out.below ((Below.refl w4.heap.size w4).drew))
              have HB := Lib.hid (HB.out.trans ((Below.refl w4.heap.size w4).drew.mono HB.out.size))
              clear a0 a1 a2 a3 c0 c1 c2 c3
              have HC := Lib.hid (lb_waits HL.out (j : Int) ⟨by omega, by have := HJ.out; have := HNB.out; omega⟩)
              rw [HWA.out] at HC
              go_wp2_with fail
              refine HC.out.mono ?_
              clear HC
              rintro e w6 ⟨rfl, hb⟩
              have HL := Lib.hid (HL.out.below hb)
              have HB := Lib.hid (HB.out.trans (hb.mono HB.out.size))
              clear hb
              have b7 : Below w6.heap.size w6 (w6.alloc (.cells (kC (y0, y1, y2, y3)) 30)) := (Below.refl _ _).alloc (Nat.le_refl _) _
              have HL := Lib.hid (HL.out.below b7)
              have HB := Lib.hid (HB.out.trans (b7.mono HB.out.size))
              clear b7
              obtain ⟨W7, hW7⟩ : ∃ W, w6.alloc (.cells (kC (y0, y1, y2, y3)) 30) = W := ⟨_, rfl⟩
              rw [hW7] at HL HB
              go_wp2
              go_roundg gk1
              case measure => exact Nat.lt_succ_self _
              case rel => exact ⟨j1, t2, T1, rfl, rfl, HJ.out.1, HL.out, HOF1.out, HB.out⟩
theorem once_law (v : Value) (w : World) (hf : FitsKs w v) :
    Calls Try.prog 4 #[v] w fun e w' => e = .returned (.bool true) ∧ Below w.heap.size w w' := by
  obtain ⟨l, hl⟩ := hf
  exact once_any v l w hl
end Go.Proofs.Ytldpamlmnganmaa.FL
