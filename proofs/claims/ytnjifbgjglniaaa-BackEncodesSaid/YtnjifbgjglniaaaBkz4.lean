/- BackEncodes' walk: for every list of tells it returns true. Condition: the texts are within the form's reach. -/
import Derived.Test.YtnjifbgjglniaaaBkrf
import Derived.Test.YtnjifbgjglniaaaBkwb
import Derived.Test.YtnjifbgjglniaaaBkx2
import Derived.Test.YtnjifbgjglniaaaBky
import Derived.Test.YtnjifbgjglniaaaBkz1
namespace Go.Proofs.Ytnjifbgjglniaaa.BK
open Go.Proofs.Ytnjifbgjglniaaa
open Go.ChangeShapes Go.WideShapes Go.ChangeAt Go.RowKit
set_option linter.unusedVariables false
set_option linter.unusedSimpArgs false
set_option maxRecDepth 100000
attribute [local go_sem ↓] Go.wp_at_zero Go.wp_at_succ

theorem keep_cell {wr X : World} (h : Below wr.heap.size wr X) {g i : Nat} {v : Value} (c : wr.cell? ⟨g, i, none⟩ = some v) : X.cell? ⟨g, i, none⟩ = some v :=
  ((bcell h).1 _ _ (World.block_lt_of_cell? _ _ c)).trans c
set_option maxHeartbeats 4000000 in
theorem encodes_walk (v : Value) (W : World) (hF : FitsL W v) :
    Calls Try.prog 4 #[v] W fun e w' => e = .returned (.bool true) ∧ Below W.heap.size W w' := by
  obtain ⟨l, hT, hS⟩ := hF
  obtain ⟨A, cap, rfl, hc1, hc2, _⟩ := id hT
  have HT := Lib.hid hT
  have HSZ := Lib.hid hS
  clear hT hS
  by_cases h20 : l.length ≤ 20
  · go_enter Try.func4, Try.ntmps4
    go_wp2
    go_loopw [3] (fun i wr => ∃ k : Nat, k ≤ l.length ∧ i = .int .i64 k ∧ Below W.heap.size W wr ∧ (∀ u ∈ l.take k, Few u)) (fun i _ => l.length - (intOf i).toNat)
    case atStart => exact ⟨0, Nat.zero_le _, rfl, Below.refl _ _, by simp⟩
    case round =>
      obtain ⟨k, hk, rfl, hB, hFew⟩ := hrel
      have HFew := Lib.hid hFew
      have HB := Lib.hid hB
      clear hFew
      by_cases hlt : k < l.length
      · obtain ⟨gg, off, A1, p1, A2, p2, A3, p3, n1, n2, n3, rfl, hg, ⟨c0, c1, c2, c3, c4, c5, c6, c7⟩, har⟩ := HT.out.at_ hB k hlt
        have dl := light_any wr l[k] _ har (HSZ.out _ (List.getElem_mem _))
        have HTK := Lib.hid (show l.take (k + 1) = l.take k ++ [l[k]] from List.take_succ_eq_append_getElem hlt)
        have HAR := Lib.hid har
        clear hB har
        have C0 := Lib.hid c0
        have C1 := Lib.hid c1
        have C2 := Lib.hid c2
        have C3 := Lib.hid c3
        have C4 := Lib.hid c4
        have C5 := Lib.hid c5
        have C6 := Lib.hid c6
        have C7 := Lib.hid c7
        go_wp2_with fail
        refine dl.mono ?_; rintro e w1 ⟨b, rfl, hb, hb1⟩
        have HB1 := Lib.hid (grow_ HB.out hb1)
        have HR1 := Lib.hid hb1
        clear hb1 dl c0 c1 c2 c3 c4 c5 c6 c7
        cases b
        · go_wp2_with fail
          refine (known_any _).mono ?_; rintro e w2 ⟨rfl, hb2⟩
          have hfin := grow_ HB1.out hb2
          go_wp2
          go_ret
          exact ⟨rfl, hfin⟩
        · have hf := hb rfl
          have HFK : Hid (∀ u ∈ l.take (k + 1), Few u) := Lib.hid (by
            rw [HTK.out]
            intro u hu
            rcases List.mem_append.1 hu with hu | hu
            · exact HFew.out u hu
            · rw [List.mem_singleton.1 hu]; exact hf)
          obtain ⟨a, ha⟩ : ∃ a, a = l[k] := ⟨_, rfl⟩
          rw [← ha] at hf HAR C0 C1 C2 C6 C7
          have HE := Lib.hid (fun X (h : Below wr.heap.size wr X) => enc_any a _ X hf (AR.grow HAR.out h))
          have HE2 := Lib.hid (fun X (h : Below wr.heap.size wr X) => renc_any X a _ hf (AR.grow HAR.out h))
          have HRI := Lib.hid (fun X (h : Below wr.heap.size wr X) => bright_any a _ X hf (AR.grow HAR.out h))
          have HRI2 := Lib.hid (fun X (h : Below wr.heap.size wr X) => rright_d X a _ hf (AR.grow HAR.out h))
          obtain ⟨r, hr⟩ : ∃ r, r = encP a := ⟨_, rfl⟩
          rw [← hr] at HE HE2 HRI HRI2
          obtain ⟨⟨kk, bl⟩, er⟩ := r
          clear hb hf ha hr
          unfold EncP at HE HE2
          dsimp only at HE HE2 HRI HRI2
          obtain ⟨bb, hbb⟩ : ∃ bb, bb = ba bl := ⟨_, rfl⟩
          rw [← hbb] at HE HE2
          clear hbb
          unfold u8 at HE HE2
          have c0 := keep_cell HR1.out C0.out
          have c1 := keep_cell HR1.out C1.out
          have c2 := keep_cell HR1.out C2.out
          have c3 := keep_cell HR1.out C3.out
          have c4 := keep_cell HR1.out C4.out
          have c5 := keep_cell HR1.out C5.out
          have c6 := keep_cell HR1.out C6.out
          have c7 := keep_cell HR1.out C7.out
          go_wp2_with fail
          refine (HE.out _ HR1.out).mono ?_; rintro e w2 ⟨rfl, hb2⟩
          have HR2 := Lib.hid (grow_ (grow_ HR1.out hb2) (bel_alloc w2 (.cells #[.int .u8 (kk.toNat : Int), .string bb] 23)))
          have HQ2 := Lib.hid (Blk.new w2 23 #[.int .u8 (kk.toNat : Int), .string bb])
          have hz2 : gg < w2.heap.size := Nat.lt_of_lt_of_le (World.block_lt_of_cell? _ _ c0) hb2.size
          clear hb2 c0 c1 c2 c3 c4 c5 c6 c7
          have c0 := keep_cell HR2.out C0.out
          have c1 := keep_cell HR2.out C1.out
          have c2 := keep_cell HR2.out C2.out
          have c3 := keep_cell HR2.out C3.out
          have c4 := keep_cell HR2.out C4.out
          have c5 := keep_cell HR2.out C5.out
          have c6 := keep_cell HR2.out C6.out
          have c7 := keep_cell HR2.out C7.out
          go_wp2_with fail
          refine (HE2.out _ HR2.out).mono ?_; rintro e w3 ⟨rfl, hb3⟩
          have q3 := HQ2.out.below hb3 HQ2.out.lt
          have hR3 := grow_ (grow_ HR2.out hb3) (bel_alloc w3 (.cells #[.int .u8 (kk.toNat : Int), .string bb] 23))
          have q4 := q3.alloc (.cells #[.int .u8 (kk.toNat : Int), .string bb] 23)
          have q5 := Blk.new w3 23 #[.int .u8 (kk.toNat : Int), .string bb]
          have hn4 : w3.heap.size ≠ 0 := by have := hb3.size; simp at this; omega
          clear c0 c1 c2 c3 c4 c5 c6 c7 hz2 q3 hb3
          go_wp2
          go_upto_region 10 with fail
          generalize hw4 : w3.alloc (.cells #[.int .u8 (kk.toNat : Int), .string bb] 23) = w4 at *
          have y0 : w4.cell? ⟨w2.heap.size, 0, none⟩ = some (.int .u8 (kk.toNat : Int)) := q4.cell 0
          have y1 : w4.cell? ⟨w2.heap.size, 1, none⟩ = some (.string bb) := q4.cell 1
          have y2 : w4.cell? ⟨w3.heap.size, 0, none⟩ = some (.int .u8 (kk.toNat : Int)) := q5.cell 0
          have y3 : w4.cell? ⟨w3.heap.size, 1, none⟩ = some (.string bb) := q5.cell 1
          have c0 := keep_cell hR3 C0.out
          have c1 := keep_cell hR3 C1.out
          have c2 := keep_cell hR3 C2.out
          have c3 := keep_cell hR3 C3.out
          have c4 := keep_cell hR3 C4.out
          have c5 := keep_cell hR3 C5.out
          have c6 := keep_cell hR3 C6.out
          have c7 := keep_cell hR3 C7.out
          have HR3 := Lib.hid hR3
          clear q4 q5 hR3 hw4
          go_cut [65] (fun s wx => s = .bool false ∧ Below wr.heap.size wr wx)
          case first =>
            refine wp_region_held_drew (S := (fun X => X.cell? ⟨w2.heap.size, 0, none⟩ = some (.int .u8 (kk.toNat : Int)) ∧ X.cell? ⟨w2.heap.size, 1, none⟩ = some (.string bb) ∧ X.cell? ⟨w3.heap.size, 0, none⟩ = some (.int .u8 (kk.toNat : Int)) ∧ X.cell? ⟨w3.heap.size, 1, none⟩ = some (.string bb) ∧ X.cell? ⟨gg, off + k * 8, none⟩ = some (.int .u8 (a.kind.toNat : Int)) ∧ X.cell? ⟨gg, off + k * 8 + 1, none⟩ = some (.int .u8 (a.status.toNat : Int)) ∧ X.cell? ⟨gg, off + k * 8 + 2, none⟩ = some (.string (ba a.text)) ∧ X.cell? ⟨gg, off + k * 8 + 3, none⟩ = some (.slice A1 n1 p1) ∧ X.cell? ⟨gg, off + k * 8 + 4, none⟩ = some (.slice A2 n2 p2) ∧ X.cell? ⟨gg, off + k * 8 + 5, none⟩ = some (.slice A3 n3 p3) ∧ X.cell? ⟨gg, off + k * 8 + 6, none⟩ = some (.int .i64 a.n) ∧ X.cell? ⟨gg, off + k * 8 + 7, none⟩ = some (.int .i64 a.m) ∧ Below wr.heap.size wr X)) (by kernel_rfl) ?_ (fun hS => ?_)
            · exact ⟨y0, y1, y2, y3, c0, c1, c2, c3, c4, c5, c6, c7, HR3.out.drew⟩
            clear y0 y1 y2 y3 c0 c1 c2 c3 c4 c5 c6 c7
            refine tkY 0 (.agg #[.int .u8 (kk.toNat : Int), .string bb]) rfl hS ?_ ?_
            · intro wz hz
              obtain ⟨y0, y1, y2, y3, c0, c1, c2, c3, c4, c5, c6, c7, hbx⟩ := hz
              go_simp
              all_goals first | with_reducible rfl | omega
            try simp only [Act.put, pu]
            refine tkY 1 (.agg #[.int .u8 (kk.toNat : Int), .string bb]) rfl hS ?_ ?_
            · intro wz hz
              obtain ⟨y0, y1, y2, y3, c0, c1, c2, c3, c4, c5, c6, c7, hbx⟩ := hz
              go_simp
              all_goals first | with_reducible rfl | omega
            try simp only [Act.put, pu]
            refine tkY 2 ?_ rfl hS ?_ ?_
            rotate_left
            · intro wz hz
              obtain ⟨y0, y1, y2, y3, c0, c1, c2, c3, c4, c5, c6, c7, hbx⟩ := hz
              go_simp
              all_goals first | with_reducible rfl | omega
            try simp only [Act.put, pu]
            refine tkY 3 ?_ rfl hS ?_ ?_
            rotate_left
            · intro wz hz
              obtain ⟨y0, y1, y2, y3, c0, c1, c2, c3, c4, c5, c6, c7, hbx⟩ := hz
              go_simp
              all_goals first | with_reducible rfl | omega
            try simp only [Act.put, pu]
            refine tkY 4 ?_ rfl hS ?_ ?_
            rotate_left
            · intro wz hz
              obtain ⟨y0, y1, y2, y3, c0, c1, c2, c3, c4, c5, c6, c7, hbx⟩ := hz
              go_simp
              all_goals first | with_reducible rfl | omega
            try simp only [Act.put, pu]
            refine tkY 5 ?_ rfl hS ?_ ?_
            rotate_left
            · intro wz hz
              obtain ⟨y0, y1, y2, y3, c0, c1, c2, c3, c4, c5, c6, c7, hbx⟩ := hz
              go_simp
              all_goals first | with_reducible rfl | omega
            try simp only [Act.put, pu]
            refine tkY 6 ?_ rfl hS ?_ ?_
            rotate_left
            · intro wz hz
              obtain ⟨y0, y1, y2, y3, c0, c1, c2, c3, c4, c5, c6, c7, hbx⟩ := hz
              go_simp
              all_goals first | with_reducible rfl | omega
            try simp only [Act.put, pu]
            refine tkY 7 ?_ rfl hS ?_ ?_
            rotate_left
            · intro wz hz
              obtain ⟨y0, y1, y2, y3, c0, c1, c2, c3, c4, c5, c6, c7, hbx⟩ := hz
              go_simp
              all_goals first | with_reducible rfl | omega
            try simp only [Act.put, pu]
            refine tkY 8 ?_ rfl hS ?_ ?_
            rotate_left
            · intro wz hz
              obtain ⟨y0, y1, y2, y3, c0, c1, c2, c3, c4, c5, c6, c7, hbx⟩ := hz
              go_simp
              all_goals first | with_reducible rfl | omega
            try simp only [Act.put, pu]
            refine tkY 9 ?_ rfl hS ?_ ?_
            rotate_left
            · intro wz hz
              obtain ⟨y0, y1, y2, y3, c0, c1, c2, c3, c4, c5, c6, c7, hbx⟩ := hz
              go_simp
              all_goals first | with_reducible rfl | omega
            try simp only [Act.put, pu]
            refine tkY 10 ?_ rfl hS ?_ ?_
            rotate_left
            · intro wz hz
              obtain ⟨y0, y1, y2, y3, c0, c1, c2, c3, c4, c5, c6, c7, hbx⟩ := hz
              go_simp
              all_goals first | with_reducible rfl | omega
            try simp only [Act.put, pu]
            refine tkY 11 ?_ rfl hS ?_ ?_
            rotate_left
            · intro wz hz
              obtain ⟨y0, y1, y2, y3, c0, c1, c2, c3, c4, c5, c6, c7, hbx⟩ := hz
              go_simp
              all_goals first | with_reducible rfl | omega
            try simp only [Act.put, pu]
            refine tkY 12 (.agg #[.int .u8 (a.kind.toNat : Int), .int .u8 (a.status.toNat : Int), .string (ba a.text), .slice A1 n1 p1, .slice A2 n2 p2, .slice A3 n3 p3, .int .i64 a.n, .int .i64 a.m]) rfl hS ?_ ?_
            · intro wz hz
              obtain ⟨y0, y1, y2, y3, c0, c1, c2, c3, c4, c5, c6, c7, hbx⟩ := hz
              go_simp
              all_goals first | with_reducible rfl | omega
            try simp only [Act.put, pu]
            refine tkY 14 ?_ rfl hS ?_ ?_
            rotate_left
            · intro wz hz
              obtain ⟨y0, y1, y2, y3, c0, c1, c2, c3, c4, c5, c6, c7, hbx⟩ := hz
              go_simp
              all_goals first | with_reducible rfl | omega
            try simp only [Act.put, pu]
            refine tkY 15 ?_ rfl hS ?_ ?_
            rotate_left
            · intro wz hz
              obtain ⟨y0, y1, y2, y3, c0, c1, c2, c3, c4, c5, c6, c7, hbx⟩ := hz
              go_simp
              all_goals first | with_reducible rfl | omega
            try simp only [Act.put, pu]
            refine tkY 16 ?_ rfl hS ?_ ?_
            rotate_left
            · intro wz hz
              obtain ⟨y0, y1, y2, y3, c0, c1, c2, c3, c4, c5, c6, c7, hbx⟩ := hz
              go_simp
              all_goals first | with_reducible rfl | omega
            try simp only [Act.put, pu]
            refine tkY 17 (.agg #[.int .u8 (a.kind.toNat : Int), .int .u8 (a.status.toNat : Int), .string (ba a.text), .slice A1 n1 p1, .slice A2 n2 p2, .slice A3 n3 p3, .int .i64 a.n, .int .i64 a.m]) rfl hS ?_ ?_
            · intro wz hz
              obtain ⟨y0, y1, y2, y3, c0, c1, c2, c3, c4, c5, c6, c7, hbx⟩ := hz
              go_simp
              all_goals first | with_reducible rfl | omega
            try simp only [Act.put, pu]
            refine wpAnyH_ready (rs := [13]) (by kernel_rfl) (by simp) (AllReadyH.cons rfl (fun K' hK' => ?_) AllReadyH.nil)
            go_simp
            obtain ⟨hy0, hy1, hy2, hy3, hc0, hc1, hc2, hc3, hc4, hc5, hc6, hc7, hbX⟩ := hS
            refine (HRI.out _ hbX).mono ?_; rintro e wz ⟨rfl, hbz⟩
            refine hK'.out _ _ ?_ (fun hSn => ?_)
            · exact ⟨keep_cell hbz hy0, keep_cell hbz hy1, keep_cell hbz hy2, keep_cell hbz hy3, keep_cell hbz hc0, keep_cell hbz hc1, keep_cell hbz hc2, keep_cell hbz hc3, keep_cell hbz hc4, keep_cell hbz hc5, keep_cell hbz hc6, keep_cell hbz hc7, grow_ hbX hbz⟩
            clear hK' K'
            have hS := hSn
            clear hSn
            try simp only [Act.put, pu]
            refine wpAnyH_ready (rs := [18]) (by kernel_rfl) (by simp) (AllReadyH.cons rfl (fun K' hK' => ?_) AllReadyH.nil)
            go_simp
            obtain ⟨hy0, hy1, hy2, hy3, hc0, hc1, hc2, hc3, hc4, hc5, hc6, hc7, hbX⟩ := hS
            refine (HRI2.out _ hbX).mono ?_; rintro e wz ⟨rfl, hbz⟩
            refine hK'.out _ _ ?_ (fun hSn => ?_)
            · exact ⟨keep_cell hbz hy0, keep_cell hbz hy1, keep_cell hbz hy2, keep_cell hbz hy3, keep_cell hbz hc0, keep_cell hbz hc1, keep_cell hbz hc2, keep_cell hbz hc3, keep_cell hbz hc4, keep_cell hbz hc5, keep_cell hbz hc6, keep_cell hbz hc7, grow_ hbX hbz⟩
            clear hK' K'
            have hS := hSn
            clear hSn
            try simp only [Act.put, pu]
            refine tkY 19 ?_ rfl hS ?_ ?_
            rotate_left
            · intro wz hz
              obtain ⟨y0, y1, y2, y3, c0, c1, c2, c3, c4, c5, c6, c7, hbx⟩ := hz
              go_simp
              all_goals first | with_reducible rfl | omega
            try simp only [Act.put, pu]
            refine tkY 20 ?_ rfl hS ?_ ?_
            rotate_left
            · intro wz hz
              obtain ⟨y0, y1, y2, y3, c0, c1, c2, c3, c4, c5, c6, c7, hbx⟩ := hz
              go_simp
              all_goals first | with_reducible rfl | omega
            try simp only [Act.put, pu]
            obtain ⟨hy0, hy1, hy2, hy3, hc0, hc1, hc2, hc3, hc4, hc5, hc6, hc7, hbX⟩ := hS
            have HBX := Lib.hid hbX
            have hS : True := trivial
            refine wpAnyH_done (by kernel_rfl) ?_ _
            clear hS
            go_wp2_with fail
            go_meet
            exact ⟨rfl, HBX.out⟩
          case rest =>
            obtain ⟨rfl, h7⟩ := hcut
            have h8 := grow_ HB.out h7
            clear h7 c0 c1 c2 c3 c4 c5 c6 c7
            go_wp2
            go_roundw
            case rel => exact ⟨k + 1, by omega, by go_num, h8, HFK.out⟩
            case measure => simp [intOf]; omega
      · have e : k = l.length := by omega
        subst e
        have hFa : ∀ u ∈ l, Few u := by have := HFew.out; rwa [List.take_length] at this
        have d1 := bytes_any l _ wr (by omega) hFa (HT.out.below hB)
        have HD2 := Lib.hid (fun X (h : Below W.heap.size W X) => rbyt_any l _ X (by omega) hFa (HT.out.below h))
        obtain ⟨s, hs⟩ : ∃ s, s = ba (bytesP l).1 := ⟨_, rfl⟩
        obtain ⟨er, her⟩ : ∃ e, e = (bytesP l).2 := ⟨_, rfl⟩
        rw [← hs, ← her] at d1 HD2
        clear hFa hB hs her
        go_wp2_with fail
        refine d1.mono ?_; rintro e w2 ⟨rfl, hb2⟩
        have g2 := grow_ HB.out hb2
        clear hb2 d1
        go_wp2_with fail
        refine (HD2.out _ g2).mono ?_; rintro e w3 ⟨rfl, hb3⟩
        have g3 := grow_ g2 hb3
        clear hb3 g2
        go_wp2_with fail
        refine (known_any _).mono ?_; rintro e w7 ⟨rfl, hb7⟩
        have hfin := grow_ g3 hb7
        go_wp2
        go_ret
        exact ⟨rfl, hfin⟩
  · have hlm : l.length ≤ 9223372036854775807 := by unfold maxLen at hc2; omega
    go_enter Try.func4, Try.ntmps4
    go_wp2_with (go_at_call 8; refine (known_any _).mono ?_; rintro e w' ⟨rfl, hb⟩)
    go_ret
    exact ⟨rfl, hb⟩
end Go.Proofs.Ytnjifbgjglniaaa.BK
