/- BackFrames' walk: for every list of tells it returns true. Condition: the texts are within the form's reach. -/
import Derived.Test.YtnjifbgjglniaaaBkz3a
import Derived.Test.YtnjifbgjglniaaaBkz1
namespace Go.Proofs.Ytnjifbgjglniaaa.BK
open Go.Proofs.Ytnjifbgjglniaaa
open Go.ChangeShapes Go.WideShapes Go.ChangeAt Go.RowKit
set_option linter.unusedVariables false
set_option linter.unusedSimpArgs false
set_option maxRecDepth 100000
attribute [local go_sem ↓] Go.wp_at_zero Go.wp_at_succ

set_option maxHeartbeats 2000000 in
theorem frames_walk (v : Value) (W : World) (hF : FitsL W v) :
    Calls Try.prog 6 #[v] W fun e w' => e = .returned (.bool true) ∧ Below W.heap.size W w' := by
  obtain ⟨l, hT, hS⟩ := hF
  obtain ⟨A, cap, rfl, hc1, hc2, _⟩ := id hT
  have HT := Lib.hid hT
  have HSZ := Lib.hid hS
  clear hT hS
  by_cases h20 : l.length ≤ 20
  · go_enter Try.func6, Try.ntmps6
    go_wp2
    go_loopw [3] (fun i wr => ∃ k : Nat, k ≤ l.length ∧ i = .int .i64 k ∧ Below W.heap.size W wr ∧ (∀ u ∈ l.take k, Few u)) (fun i _ => l.length - (intOf i).toNat)
    case atStart => exact ⟨0, Nat.zero_le _, rfl, Below.refl _ _, by simp⟩
    case round =>
      obtain ⟨k, hk, rfl, hB, hFew⟩ := hrel
      have HFew := Lib.hid hFew
      have HB := Lib.hid hB
      clear hFew
      by_cases hlt : k < l.length
      · obtain ⟨gg, off, A1, p1, A2, p2, A3, p3, n1, n2, n3, rfl, hg, ⟨c0, c1, c2, c3, c4, c5, c6, c7⟩, har⟩ := HT.out.at_ hB k hlt
        have dl := light_any wr l[k] _ har (HSZ.out _ (List.getElem_mem _))
        have HTK := Lib.hid (show l.take (k + 1) = l.take k ++ [l[k]] from List.take_succ_eq_append_getElem hlt)
        clear hB har
        go_wp2_with fail
        refine dl.mono ?_; rintro e w1 ⟨b, rfl, hb, hb1⟩
        have HB1 := Lib.hid (grow_ HB.out hb1)
        clear hb1 dl c0 c1 c2 c3 c4 c5 c6 c7
        cases b
        · go_wp2_with fail
          refine (known_any _).mono ?_; rintro e w2 ⟨rfl, hb2⟩
          have hfin := grow_ HB1.out hb2
          go_wp2
          go_ret
          exact ⟨rfl, hfin⟩
        · have hf := hb rfl
          have HFK : Hid (∀ u ∈ l.take (k + 1), Few u) := Lib.hid (by
            rw [HTK.out]
            intro u hu
            rcases List.mem_append.1 hu with hu | hu
            · exact HFew.out u hu
            · rw [List.mem_singleton.1 hu]; exact hf)
          clear hb hf
          go_wp2
          go_roundw
          case rel => exact ⟨k + 1, by omega, by go_num, HB1.out, HFK.out⟩
          case measure => simp [intOf]; omega
      · have e : k = l.length := by omega
        subst e
        have hFa : ∀ u ∈ l, Few u := by have := HFew.out; rwa [List.take_length] at this
        have dby := bytes_any l _ wr (by omega) hFa (HT.out.below hB)
        have HFA := Lib.hid hFa
        clear hFa hB
        rcases Classical.em (∀ t ∈ l, RightP t) with hr | hr
        · rw [bytesP_yes hr] at dby
          have HRA := Lib.hid hr
          have hz : (allL (msgsOf l)).length ≤ 4097000 := by
            have h1 := allL_len (msgsOf l)
            have h2 : (msgsOf l).length ≤ 1000 := by simp only [msgsOf, List.length_map]; omega
            have h3 := Nat.mul_le_mul_right 4097 h2
            omega
          clear hr
          go_wp2_with fail
          refine dby.mono ?_; rintro e w2 ⟨rfl, hb2⟩
          have hB2 := grow_ HB.out hb2
          clear dby hb2
          have hB3 := grow_ hB2 (bel_alloc w2 (.cells #[.string ⟨#[]⟩, .bool false, .int .i64 0] 44))
          have df := feed_right l (by omega) HRA.out w2.heap.size (w2.alloc (.cells #[.string ⟨#[]⟩, .bool false, .int .i64 0] 44)) (Blk.new w2 44 #[.string ⟨#[]⟩, .bool false, .int .i64 0])
          have HG0 := Lib.hid hB2.size
          generalize allL (msgsOf l) = S at *
          go_wp2_with fail
          refine df.mono ?_; rintro e w3 ⟨v, rfl, hM, x0, hgr⟩
          have hB4 := grown_bel hB3 hgr HG0.out
          clear df hB2 hB3 hgr
          obtain ⟨AM, capm, rfl, hcm, _⟩ := id hM
          have hml : (msgsOf l).length = l.length := by simp [msgsOf]
          have HM := Lib.hid hM
          have HB4 := Lib.hid hB4
          clear hM hB4
          rw [hml] at hcm ⊢
          have HML := Lib.hid hml
          clear hml
          go_wp2
          go_loopw [9] (fun i wr => ∃ k : Nat, k ≤ l.length ∧ i = .int .i64 k ∧ Below w3.heap.size w3 wr) (fun i _ => l.length - (intOf i).toNat)
          case atStart => exact ⟨0, Nat.zero_le _, rfl, Below.refl _ _⟩
          case round =>
            obtain ⟨k, hk, rfl, hC⟩ := hrel
            have HC := Lib.hid hC
            have HD := Lib.hid (grow_ HB4.out hC)
            clear hC x0
            by_cases hlt : k < l.length
            · obtain ⟨gg, off, A1, p1, A2, p2, A3, p3, n1, n2, n3, rfl, hg, hcells, har⟩ := HT.out.at_ HD.out k hlt
              have hMz := HM.out.below HC.out
              obtain ⟨AM', capm', em, _, hmx⟩ := hMz
              injection em with em _ ec
              subst em
              subst ec
              obtain ⟨gm, rfl, hgm, hmc⟩ := hmx (by intro e; have := congrArg List.length e; rw [HML.out] at this; simp at this; rw [this] at hlt; simp at hlt)
              have hmk : (msgsOf l)[k]? = some (l[k].kind, body l[k]) := by simp [msgsOf, hlt]
              obtain ⟨m0, m1⟩ := hmc k _ hmk
              have hrk := HRA.out l[k] (List.getElem_mem _)
              have hfk := HFA.out l[k] (List.getElem_mem _)
              obtain ⟨a, ha⟩ : ∃ a, a = l[k] := ⟨_, rfl⟩
              rw [← ha] at hcells har m0 m1 hrk hfk
              clear hmc hmx hmk ha
              obtain ⟨c0, c1, c2, c3, c4, c5, c6, c7⟩ := hcells
              have HAR := Lib.hid har
              have m0 : wr.cell? ⟨gm, k * 2, none⟩ = some (.int .u8 (a.kind.toNat : Int)) := m0
              have dd := dec_o a.kind (ba (body a)) wr (by rw [ba_size]; have := hrk.len; omega) (a, 0) (by rw [ba_list]; exact dec_ok hrk)
              have hgz : gg < wr.heap.size := World.block_lt_of_cell? _ _ c0
              clear har
              go_wp2_with fail
              refine dd.mono ?_; rintro e w4 ⟨B1, Bm1, Bq1, B2, Bm2, Bq2, B3, Bm3, Bq3, rfl, hu, hb4⟩
              dsimp only at hu ⊢
              have hbx := Blk.new w4 28 #[.int .u8 (a.kind.toNat : Int), .int .u8 (a.status.toNat : Int), .string (ba a.text), .slice B1 Bm1 Bq1, .slice B2 Bm2 Bq2, .slice B3 Bm3 Bq3, .int .i64 a.n, .int .i64 a.m]
              have hb5 := grow_ hb4 (bel_alloc w4 (.cells #[.int .u8 (a.kind.toNat : Int), .int .u8 (a.status.toNat : Int), .string (ba a.text), .slice B1 Bm1 Bq1, .slice B2 Bm2 Bq2, .slice B3 Bm3 Bq3, .int .i64 a.n, .int .i64 a.m] 28))
              have hu := AR.grow hu (bel_alloc w4 (.cells #[.int .u8 (a.kind.toNat : Int), .int .u8 (a.status.toNat : Int), .string (ba a.text), .slice B1 Bm1 Bq1, .slice B2 Bm2 Bq2, .slice B3 Bm3 Bq3, .int .i64 a.n, .int .i64 a.m] 28))
              have har := AR.grow HAR.out hb5
              have e0 := ((bcell hb4).1 gg (off + k * 8) hgz).trans c0
              have e1 := ((bcell hb4).1 gg (off + k * 8 + 1) hgz).trans c1
              have e2 := ((bcell hb4).1 gg (off + k * 8 + 2) hgz).trans c2
              have e3 := ((bcell hb4).1 gg (off + k * 8 + 3) hgz).trans c3
              have e4 := ((bcell hb4).1 gg (off + k * 8 + 4) hgz).trans c4
              have e5 := ((bcell hb4).1 gg (off + k * 8 + 5) hgz).trans c5
              have e6 := ((bcell hb4).1 gg (off + k * 8 + 6) hgz).trans c6
              have e7 := ((bcell hb4).1 gg (off + k * 8 + 7) hgz).trans c7
              have hg4 : gg < w4.heap.size := Nat.lt_of_lt_of_le hgz hb4.size
              have ds := fun n => same_yes ((w4.alloc (.cells #[.int .u8 (a.kind.toNat : Int), .int .u8 (a.status.toNat : Int), .string (ba a.text), .slice B1 Bm1 Bq1, .slice B2 Bm2 Bq2, .slice B3 Bm3 Bq3, .int .i64 a.n, .int .i64 a.m] 28)).drewN n) a _ _ (AR.grow hu (below_drewN (Below.refl _ _) n)) (AR.grow har (below_drewN (Below.refl _ _) n)) hfk.lens
              have ds1 := same_yes ((w4.alloc (.cells #[.int .u8 (a.kind.toNat : Int), .int .u8 (a.status.toNat : Int), .string (ba a.text), .slice B1 Bm1 Bq1, .slice B2 Bm2 Bq2, .slice B3 Bm3 Bq3, .int .i64 a.n, .int .i64 a.m] 28)).drew) a _ _ (AR.grow hu (Below.refl _ _).drew) (AR.grow har (Below.refl _ _).drew) hfk.lens
              have HB5 := Lib.hid hb5
              clear hu har hbx hb5 hb4 c0 c1 c2 c3 c4 c5 c6 c7 m0 m1 dd
              go_wp2
              go_upto_region 19 with fail
              go_cut [89] (fun s wx => s = .bool false ∧ Below wr.heap.size wr wx)
              case first =>
                go_region_with (go_at_call 11; refine ds1.mono ?_; rintro e w6 ⟨rfl, hb6⟩)
                all_goals
                  have h7 : Below wr.heap.size wr w6 := grow_ (grow_ HB5.out ((Below.refl _ _).drew)) hb6
                  clear hb6 e0 e1 e2 e3 e4 e5 e6 e7
                  go_wp2_with fail
                  go_meet
                  exact ⟨rfl, h7⟩
              case rest =>
                obtain ⟨rfl, h7⟩ := hcut
                have h8 := grow_ HC.out h7
                clear h7 e0 e1 e2 e3 e4 e5 e6 e7
                go_wp2
                go_roundw
                case rel => exact ⟨k + 1, by omega, by go_num, h8⟩
                case measure => simp [intOf]; omega
            · have e : k = l.length := by omega
              subst e
              go_wp2_with fail
              refine (known_any _).mono ?_; rintro e w7 ⟨rfl, hb7⟩
              have hfin := grow_ HD.out hb7
              go_wp2
              go_ret
              exact ⟨rfl, hfin⟩
        · have e0 : bytesP l = ([], 4) := by unfold bytesP; rw [if_neg hr]
          rw [e0] at dby
          clear e0 hr
          go_wp2_with fail
          refine dby.mono ?_; rintro e w2 ⟨rfl, hb2⟩
          have HB2 := Lib.hid (grow_ HB.out hb2)
          rw [show ba [] = ⟨#[]⟩ from rfl]
          clear dby hb2
          go_wp2_with fail
          refine (known_any _).mono ?_; rintro e w3 ⟨rfl, hb3⟩
          have hfin := grow_ HB2.out hb3
          go_wp2
          go_ret
          exact ⟨rfl, hfin⟩
  · have hlm : l.length ≤ 9223372036854775807 := by unfold maxLen at hc2; omega
    go_enter Try.func6, Try.ntmps6
    go_wp2_with (go_at_call 8; refine (known_any _).mono ?_; rintro e w' ⟨rfl, hb⟩)
    go_ret
    exact ⟨rfl, hb⟩
end Go.Proofs.Ytnjifbgjglniaaa.BK
