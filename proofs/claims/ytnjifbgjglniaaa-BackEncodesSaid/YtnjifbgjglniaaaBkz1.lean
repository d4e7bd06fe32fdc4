/- BackJoins' walk: for every list of tells it returns true. Condition: the texts are within the form's reach. -/
import Derived.Test.YtnjifbgjglniaaaBky
namespace Go.Proofs.Ytnjifbgjglniaaa.BK
open Go.Proofs.Ytnjifbgjglniaaa
open Go.ChangeShapes Go.WideShapes Go.ChangeAt Go.RowKit
set_option linter.unusedVariables false
set_option linter.unusedSimpArgs false
set_option maxRecDepth 100000
attribute [local go_sem ↓] Go.wp_at_zero Go.wp_at_succ

theorem bytesP_one (t : Tell) : (RightP t ∧ bytesP [t] = (putL (t.kind, body t), 0)) ∨ (¬ RightP t ∧ bytesP [t] = ([], 4)) := by
  by_cases h : RightP t
  · refine .inl ⟨h, ?_⟩
    rw [bytesP_yes (by intro u hu; simp at hu; rw [hu]; exact h)]
    simp [msgsOf, allL]
  · exact .inr ⟨h, bytesP_no (l := [t]) (k := 0) (by simp) h⟩
/-- the cells of the k-th tell of a list, and what it reads as -/
theorem TL.at_ {w wr : World} {A : Option Addr} {n cap : Nat} {l : List Tell} (h : TL w (.slice A n cap) l) (hb : Below w.heap.size w wr) (k : Nat) (hk : k < l.length) :
    ∃ g off A1 p1 A2 p2 A3 p3 n1 n2 n3, A = some ⟨g, off, none⟩ ∧ g < w.heap.size ∧
      (wr.cell? ⟨g, off + k * 8, none⟩ = some (.int .u8 (l[k].kind.toNat : Int)) ∧ wr.cell? ⟨g, off + k * 8 + 1, none⟩ = some (.int .u8 (l[k].status.toNat : Int)) ∧ wr.cell? ⟨g, off + k * 8 + 2, none⟩ = some (.string (ba l[k].text)) ∧
       wr.cell? ⟨g, off + k * 8 + 3, none⟩ = some (.slice A1 n1 p1) ∧ wr.cell? ⟨g, off + k * 8 + 4, none⟩ = some (.slice A2 n2 p2) ∧ wr.cell? ⟨g, off + k * 8 + 5, none⟩ = some (.slice A3 n3 p3) ∧
       wr.cell? ⟨g, off + k * 8 + 6, none⟩ = some (.int .i64 l[k].n) ∧ wr.cell? ⟨g, off + k * 8 + 7, none⟩ = some (.int .i64 l[k].m)) ∧
      AR (fun b => b < wr.heap.size) wr (.agg #[.int .u8 (l[k].kind.toNat : Int), .int .u8 (l[k].status.toNat : Int), .string (ba l[k].text), .slice A1 n1 p1, .slice A2 n2 p2, .slice A3 n3 p3, .int .i64 l[k].n, .int .i64 l[k].m]) l[k] := by
  obtain ⟨A', cap', e, h1, h2, h3⟩ := h
  injection e with e _ _
  subst e
  obtain ⟨g, off, rfl, hg, hx⟩ := h3 (by intro e; rw [e] at hk; simp at hk)
  obtain ⟨kv, vv, nv, hcs, har⟩ := hx k l[k] (List.getElem?_eq_getElem hk)
  obtain ⟨o1, o2, o3⟩ := lrs_at har w (Below.refl _ _)
  obtain ⟨A1, p1, rfl, _, _⟩ := o1.form
  obtain ⟨A2, p2, rfl, _, _⟩ := o2.form
  obtain ⟨A3, p3, rfl, _, _⟩ := o3.form
  have cc : ∀ (i : Nat) x, (tellV l[k] (.slice A1 (strs l[k].keys).length p1) (.slice A2 (strs l[k].vals).length p2) (.slice A3 (bools l[k].null).length p3))[i]? = some x → wr.cell? ⟨g, off + k * 8 + i, none⟩ = some x := fun i x hx => by rw [(bcell hb).1 _ _ hg]; exact hcs i x hx
  exact ⟨g, off, A1, p1, A2, p2, A3, p3, _, _, _, rfl, hg, ⟨cc 0 _ rfl, cc 1 _ rfl, cc 2 _ rfl, cc 3 _ rfl, cc 4 _ rfl, cc 5 _ rfl, cc 6 _ rfl, cc 7 _ rfl⟩, AR.grow har hb⟩
/-- one of a list, alone -/
theorem TL.one {w : World} {g off n cap c2 : Nat} {l : List Tell} (h : TL w (.slice (some ⟨g, off, none⟩) n cap) l) (k : Nat) (hk : k < l.length) (hc : 1 ≤ c2) (hm : c2 ≤ maxLen) : TL w (.slice (some ⟨g, off + k * 8, none⟩) 1 c2) [l[k]] := by
  obtain ⟨A', cap', e, h1, h2, h3⟩ := h
  injection e with e _ _
  obtain ⟨g', off', e2, hg, hx⟩ := h3 (by intro e; rw [e] at hk; simp at hk)
  rw [e2] at e
  injection e with e
  injection e with e5 e6
  subst e5 e6
  refine ⟨_, c2, rfl, hc, hm, fun _ => ⟨g, off + k * 8, rfl, hg, fun j a ha => ?_⟩⟩
  match j, ha with
  | 0, ha =>
    injection ha with ha; subst ha
    obtain ⟨kv, vv, nv, hcs, har⟩ := hx k l[k] (List.getElem?_eq_getElem hk)
    exact ⟨kv, vv, nv, fun i x hx => by rw [Nat.zero_mul, Nat.add_zero]; exact hcs i x hx, har⟩
  | j + 1, ha => simp at ha

set_option maxHeartbeats 2000000 in
theorem joins_walk (v : Value) (W : World) (hF : FitsL W v) :
    Calls Try.prog 7 #[v] W fun e w' => e = .returned (.bool true) ∧ Below W.heap.size W w' := by
  obtain ⟨l, hT, hS⟩ := hF
  obtain ⟨A, cap, rfl, hc1, hc2, _⟩ := id hT
  have HT := Lib.hid hT
  have HSZ := Lib.hid hS
  clear hT hS
  by_cases h20 : l.length ≤ 20
  · go_enter Try.func7, Try.ntmps7
    go_wp2
    go_loopw [3, 4, 5] (fun s gd i wr => ∃ (k : Nat) (t : Tx) (g : Bool), k ≤ l.length ∧ i = .int .i64 k ∧ s = .string (ba t) ∧ gd = .bool g ∧ Below W.heap.size W wr ∧ t.length ≤ 4097 * k ∧ (∀ u ∈ l.take k, Few u) ∧
      (g = true → (∀ u ∈ l.take k, RightP u) ∧ t = allL (msgsOf (l.take k))) ∧ (g = false → ∃ j, ∃ h : j < l.length, ¬ RightP l[j])) (fun _ _ i _ => l.length - (intOf i).toNat)
    case atStart => exact ⟨0, [], true, Nat.zero_le _, rfl, rfl, rfl, Below.refl _ _, by simp, by simp, fun _ => ⟨by simp, by simp [msgsOf, allL]⟩, fun h => by cases h⟩
    case round =>
      obtain ⟨k, t, g, hk, rfl, rfl, rfl, hB, htl, hFew, hG1, hG2⟩ := hrel
      have HFew := Lib.hid hFew
      have HG1 := Lib.hid hG1
      have HG2 := Lib.hid hG2
      have HB := Lib.hid hB
      clear hFew hG1 hG2
      by_cases hlt : k < l.length
      · obtain ⟨gg, off, A1, p1, A2, p2, A3, p3, n1, n2, n3, rfl, hg, ⟨c0, c1, c2, c3, c4, c5, c6, c7⟩, har⟩ := HT.out.at_ hB k hlt
        have dl := light_any wr l[k] _ har (HSZ.out _ (List.getElem_mem _))
        have HTK := Lib.hid (show l.take (k + 1) = l.take k ++ [l[k]] from List.take_succ_eq_append_getElem hlt)
        have HL := Lib.hid (allL_step l k hlt)
        clear hB har
        go_wp2_with fail
        refine dl.mono ?_; rintro e w1 ⟨b, rfl, hb, hb1⟩
        have HB1 := Lib.hid (grow_ HB.out hb1)
        clear hb1 dl c0 c1 c2 c3 c4 c5 c6 c7
        cases b
        · go_wp2_with fail
          refine (known_any _).mono ?_; rintro e w2 ⟨rfl, hb2⟩
          have hfin := grow_ HB1.out hb2
          go_wp2
          go_ret
          exact ⟨rfl, hfin⟩
        · have hf := hb rfl
          have HF := Lib.hid hf
          clear hb hf
          have hcap : 1 ≤ cap - k := by omega
          have hcap2 : cap - k ≤ maxLen := by omega
          have dby := bytes_any [l[k]] _ w1 (by simp) (by intro u hu; simp at hu; rw [hu]; exact HF.out) ((HT.out.below HB1.out).one k hlt hcap hcap2)
          have hszt : (ba t).size ≤ 81940 := by rw [ba_size]; omega
          have HFK : Hid (∀ u ∈ l.take (k + 1), Few u) := Lib.hid (by
            rw [HTK.out]
            intro u hu
            rcases List.mem_append.1 hu with hu | hu
            · exact HFew.out u hu
            · rw [List.mem_singleton.1 hu]; exact HF.out)
          go_wp2_with fail
          refine dby.mono ?_
          rcases bytesP_one l[k] with ⟨hr, he⟩ | ⟨hr, he⟩
          · rw [he]
            rintro e w2 ⟨rfl, hb2⟩
            have HB2 := Lib.hid (grow_ HB1.out hb2)
            have hpl := putL_len (l[k].kind, body l[k])
            have HN1 : Hid (g = true → (∀ u ∈ l.take (k + 1), RightP u) ∧ t ++ putL (l[k].kind, body l[k]) = allL (msgsOf (l.take (k + 1)))) := Lib.hid (fun hg1 => by
              obtain ⟨q1, q2⟩ := HG1.out hg1
              refine ⟨?_, by rw [HL.out, q2]⟩
              rw [HTK.out]
              intro u hu
              rcases List.mem_append.1 hu with hu | hu
              · exact q1 u hu
              · rw [List.mem_singleton.1 hu]; exact hr)
            clear dby hb2 he hr
            generalize putL (l[k].kind, body l[k]) = P at *
            have hszp : (ba P).size ≤ 4097 := by rw [ba_size]; exact hpl
            have HCAT : Hid (ba t ++ ba P = ba (t ++ P)) := Lib.hid (by apply ba_ext; rw [ba_list]; simp [ba_list, ByteArray.data_append, Array.toList_append])
            cases g
            all_goals
              go_wp2
              go_roundw
              case rel => exact ⟨k + 1, t ++ P, _, by omega, by go_num, by rw [← HCAT.out], rfl, HB2.out, by rw [List.length_append]; omega, HFK.out, by first | (simp; done) | simpa using HN1.out, by first | (simp; done) | simpa using HG2.out⟩
              case measure => simp [intOf]; omega
          · rw [he]
            rintro e w2 ⟨rfl, hb2⟩
            have HB2 := Lib.hid (grow_ HB1.out hb2)
            have HN2 : Hid (∃ j, ∃ h : j < l.length, ¬ RightP l[j]) := Lib.hid ⟨k, hlt, hr⟩
            have HBA : Hid (ba t ++ ⟨#[]⟩ = ba t) := Lib.hid (by apply ba_ext; simp [ByteArray.data_append])
            clear dby hb2 he hr
            rw [show ba [] = ⟨#[]⟩ from rfl]
            cases g
            all_goals
              go_wp2
              go_roundw
              case rel => exact ⟨k + 1, t, false, by omega, by go_num, by first | rfl | rw [HBA.out], rfl, HB2.out, by omega, HFK.out, (fun h => by cases h), fun _ => HN2.out⟩
              case measure => simp [intOf]; omega
      · have e : k = l.length := by omega
        subst e
        have hFa : ∀ u ∈ l, Few u := by have := HFew.out; rwa [List.take_length] at this
        have dby := bytes_any l _ wr (by omega) hFa (HT.out.below hB)
        have HFA := Lib.hid hFa
        have hszt : (ba t).size ≤ 81940 := by rw [ba_size]; omega
        clear hFa hB
        cases g
        · obtain ⟨j, hj, hnr⟩ := HG2.out rfl
          rw [bytesP_no hj hnr] at dby
          go_wp2_with fail
          refine dby.mono ?_; rintro e w2 ⟨rfl, hb2⟩
          have HB2 := Lib.hid (grow_ HB.out hb2)
          rw [show ba [] = ⟨#[]⟩ from rfl]
          clear dby hb2
          go_wp2_with fail
          refine (known_any _).mono ?_; rintro e w3 ⟨rfl, hb3⟩
          have hfin := grow_ HB2.out hb3
          go_wp2
          go_ret
          exact ⟨rfl, hfin⟩
        · obtain ⟨hra, ht⟩ := HG1.out rfl
          rw [List.take_length] at hra ht
          rw [bytesP_yes hra, ← ht] at dby
          go_wp2_with fail
          refine dby.mono ?_; rintro e w2 ⟨rfl, hb2⟩
          have HB2 := Lib.hid (grow_ HB.out hb2)
          clear dby hb2
          go_wp2_with fail
          refine (known_any _).mono ?_; rintro e w3 ⟨rfl, hb3⟩
          have hfin := grow_ HB2.out hb3
          go_wp2
          go_ret
          exact ⟨rfl, hfin⟩
  · have hlm : l.length ≤ 9223372036854775807 := by unfold maxLen at hc2; omega
    go_enter Try.func7, Try.ntmps7
    go_wp2_with (go_at_call 8; refine (known_any _).mono ?_; rintro e w' ⟨rfl, hb⟩)
    go_ret
    exact ⟨rfl, hb⟩
end Go.Proofs.Ytnjifbgjglniaaa.BK
