/- What package slru's shrinkKept, Touch and Put do to a store. Conditions: how long keys are, how many puts there were. -/
import Derived.Test.YtfilmbeoggmglaaSlu
namespace Go.Proofs.Ytfilmbeoggmglaa.SL
open Go.ChangeShapes Go.WideShapes Go.ChangeAt Go.RowKit Go.Maps Go.ChangeMaps
set_option maxRecDepth 100000
set_option linter.unusedVariables false
set_option linter.unusedSimpArgs false

theorem St.len {w : World} {g n : Nat} {al ke mo : Int} {x : Sx} (h : St w g n al ke mo x) : x.tE.length + x.kE.length ≤ 1073741824 := by
  have := sum_pos h.gg.en_pos.1; have := sum_pos h.gg.en_pos.2; have := h.lim
  have e1 : sumE x.tE = sumE (en x.F x.T) := rfl
  have e2 : sumE x.kE = sumE (en x.F x.K) := rfl
  have e3 : x.tE.length = (en x.F x.T).length := rfl
  have e4 : x.kE.length = (en x.F x.K).length := rfl
  omega
set_option maxHeartbeats 2000000 in
theorem shrink_any (w : World) (g n : Nat) (al ke mo : Int) (x : Sx) (h : St w g n al ke mo x) (hke : 0 ≤ ke) (R : List En × List En × List ByteArray) (hR : shrE ke x.kE.length x.tE x.kE = R) :
    Calls Try.prog 49 #[ptr g] w (RoomP g n al ke mo x R w) := by
  have HH := Lib.hid h
  have HR := Lib.hid hR
  have HKE := Lib.hid hke
  have HN := Lib.hid h.len
  clear h hR hke
  go_enter Try.func49, Try.ntmps49
  go_wp2
  go_loopg [3] x.kE.length (fun gk u3 wx => ∃ x' gone, St wx g n al ke mo x' ∧ OT w.heap.size wx u3 gone ∧ x'.kE.length = gk ∧ gone.length + gk = x.kE.length ∧ (shrE ke gk x'.tE x'.kE).1 = R.1 ∧ (shrE ke gk x'.tE x'.kE).2.1 = R.2.1 ∧ gone ++ (shrE ke gk x'.tE x'.kE).2.2 = R.2.2 ∧ (∀ y, x'.own g y → x.own g y) ∧ Chg (x.own g) w wx)
  case atStart => exact ⟨x, [], HH.out, OT.nil _ _, rfl, by simp, by rw [HR.out], by rw [HR.out], by rw [HR.out]; rfl, fun _ e => e, Chg.refl _ _⟩
  case round =>
    obtain ⟨x', gone, hst, hot, hgk, hln, hr1, hr2, hr3, hown, hchg⟩ := hrel
    have hsum := hst.sums
    have hlim := hst.lim
    obtain ⟨c0, _, c2, _, _, _, c6, _, _⟩ := hst.cells
    obtain ⟨sK, hsK⟩ : ∃ s, sumE x'.kE = s := ⟨_, rfl⟩
    have HBT := Lib.hid (fun N => bytes_true (wr.drewN N) g n al ke mo x' (hst.sm ⟨rfl, rfl, rfl, rfl⟩))
    rw [hsK] at HBT hsum hlim
    by_cases hc : ke < sK
    · have w5 : decide (ke < sK) = true := decide_eq_true hc
      go_wp2
      go_quiet ((go_at_call 23; (with_reducible exact Calls.quiet_of (HBT.out _))))
      obtain ⟨W0, hW0⟩ : ∃ W0, wr.drewN nq = W0 := ⟨_, rfl⟩
      have sm0 : Sm wr W0 := by rw [← hW0]; exact ⟨rfl, rfl, rfl, rfl⟩
      rw [hW0]
      obtain ⟨b0, b1, _, _, b4, _, b6, _, _⟩ := (hst.sm sm0).cells
      obtain ⟨_, _, _, v3, _⟩ := (hst.sm sm0).node (b := x'.e1) (.inr (.inl rfl))
      clear HBT c0 c2 c6
      rcases hst.gg.swap.last with ⟨hKn, _⟩ | ⟨L, c, hL, hnw2⟩
      · exfalso
        have h2 : sK = 0 := by rw [← hsK]; show sumE (en x'.F x'.K) = 0; rw [hKn]; rfl
        have := HKE.out
        omega
      rw [hnw2] at v3
      obtain ⟨kc, hkc⟩ : ∃ k, (x'.F c).k = k := ⟨_, rfl⟩
      obtain ⟨zc, hzc⟩ : ∃ z, (x'.F c).z = z := ⟨_, rfl⟩
      obtain ⟨q1, q2, q3, q4, q5, q6, q7, q8⟩ := hst.lastK hL
      have hcK : c ∈ x'.K := by rw [hL]; simp
      have HMV := Lib.hid (move_KT W0 g n al ke mo x' (hst.sm sm0) c hcK)
      rw [hkc] at q1 q2 q3 q8
      rw [hzc] at q3 q7 q8
      rw [hkc, hzc] at HMV
      have hend : ∀ w2 (x2 : Sx), x2.tE = (kc, zc) :: delE kc x'.tE → St w2 g n al ke mo x2 → w2.cell? ⟨c, 0, none⟩ = some (.string kc) → True := fun _ _ _ _ _ => trivial
      obtain ⟨gko, hgo⟩ : ∃ gko, gk = gko + 1 := ⟨gk - 1, by omega⟩
      subst hgo
      have hroom : shrE ke (gko + 1) x'.tE x'.kE = ((shrE ke gko ((kc, zc) :: x'.tE) x'.kE.dropLast).1, (shrE ke gko ((kc, zc) :: x'.tE) x'.kE.dropLast).2.1, kc :: (shrE ke gko ((kc, zc) :: x'.tE) x'.kE.dropLast).2.2) := by
        rw [shrE, hsK, if_pos hc, q3]
      rw [hroom] at hr1 hr2 hr3
      simp only at hr1 hr2 hr3
      have hlt := fun b hb => (hst.sm sm0).lt (b := b) hb
      have HLT := Lib.hid hlt
      have HW0 := Lib.hid (show Chg (x.own g) w W0 from hchg.trans (sm0.chg _))
      have HOT0 := Lib.hid (show OT w.heap.size W0 u3 gone from hot.keep fun q hq => by rw [sm0.heap])
      have HOWN := Lib.hid hown
      have HR1 := Lib.hid hr1
      have HR2 := Lib.hid hr2
      have HR3 := Lib.hid hr3
      have HGL := Lib.hid hln
      have Q1 := Lib.hid q1
      have Q2 := Lib.hid q2
      have HLEN := Lib.hid (show x'.kE.dropLast.length = gko by omega)
      have HL1 := Lib.hid (last_any W0 g 6 x'.e1 c b6 v3)
      have HC0 := Lib.hid (show x'.nd c from q6)
      have HKC := Lib.hid (show (x'.F c).k = kc from hkc)
      have HCF := Lib.hid (hst.sm sm0)
      clear hst hot hgk hln hr1 hr2 hr3 hown hchg hsK hc sm0 hW0 hlt hroom q1 q2 q3 q4 q5 q6 q7 q8 hkc hzc hL hnw2 hcK hend
      go_wp2_with fail
      refine HL1.out.mono ?_
      rintro e w' ⟨rfl, rfl⟩
      go_wp2_with fail
      refine HMV.out.mono ?_
      rintro e w2 ⟨rfl, hp⟩
      obtain ⟨⟨x2, s1, s2, s3, s4, s5, s6⟩, z0⟩ := hp
      have hot2 : OT w.heap.size w2 u3 gone := HOT0.out.chg s5 (fun q hq e => by have h1 := (World.ownsRow.lt HOT0.out q hq).1; have h2 := HH.out.lt (HOWN.out _ e); omega)
      have HOT2 := Lib.hid hot2
      have HC2 := Lib.hid (show Chg (x.own g) w w2 from HW0.out.trans (s5.mono fun b _ hb => HOWN.out b hb))
      have HS2 := Lib.hid s1
      have HT2 := Lib.hid s2
      have HK2 := Lib.hid s3
      have HO2 := Lib.hid (show ∀ y, x2.own g y → x.own g y from fun y hy => HOWN.out y (s4 y hy))
      have HWS := Lib.hid (show w.heap.size ≤ w2.heap.size from HC2.out.size)
      clear hot2 s1 s2 s3 s4 s5 s6
      go_wp2_with (at_builtin; refine wpList_app_text w.heap.size u3 gone kc w2.heap.size rfl _ _ rfl rfl (HOT2.out.below ((Below.refl _ _).alloc (Nat.le_refl _) _)) rfl (Bk.new w2 _ _) (by have := HGL.out; have := HN.out; omega) (by have := HWS.out; simp; omega) ?_; intro g9 cap9 w9 o9 gr9)
      have HO9 := Lib.hid o9
      have HG9 := Lib.hid gr9
      clear o9 gr9
      go_wp2
      go_roundg gko
      case measure => exact Nat.lt_succ_self _
      case rel =>
        have hgr : ∀ b, b < w2.heap.size → (∀ k, u3.ownBlock = some k → b ≠ k) → w9.heap[b]? = w2.heap[b]? := fun b hb hn => (HG9.out.block b (by simp; omega) (fun e => hn b e.symm rfl)).trans (Below.heap_alloc _ _ _ hb)
        have hnr : ∀ b, x.own g b → ∀ k, u3.ownBlock = some k → b ≠ k := fun b hb k hk e => by have h1 := (World.ownsRow.lt HOT0.out k hk).1; have h2 := HH.out.lt hb; omega
        refine ⟨x2, gone ++ [kc], HS2.out.keep fun b hb => hgr b (HS2.out.lt hb) (hnr b (HO2.out b hb)), ?_, ?_, ?_, ?_, ?_, ?_, HO2.out, ?_⟩
        · have := HO9.out
          simpa using this
        · rw [HK2.out, Q1.out]; exact HLEN.out
        · have := HGL.out; simp; omega
        · rw [HT2.out, HK2.out, Q1.out, Q2.out]; exact HR1.out
        · rw [HT2.out, HK2.out, Q1.out, Q2.out]; exact HR2.out
        · rw [HT2.out, HK2.out, Q1.out, Q2.out, List.append_assoc]; exact HR3.out
        · exact ((HC2.out.alloc _).grown HG9.out fun k hk hlt => by have h1 := (World.ownsRow.lt HOT0.out k hk).1; omega)
    · have w5 : decide (ke < sK) = false := decide_eq_false hc
      have hfin : ∀ N, RoomP g n al ke mo x R w (.returned u3) (wr.drewN N) := by
        have e : shrE ke gk x'.tE x'.kE = (x'.tE, x'.kE, []) := by
          cases gk with
          | zero => rfl
          | succ gk => unfold shrE; rw [hsK, if_neg hc]
        rw [e] at hr1 hr2 hr3
        exact fun N => ⟨u3, x', rfl, (by rw [← hr3, List.append_nil]; exact hot : OT w.heap.size wr u3 R.2.2), hst.sm ⟨rfl, rfl, rfl, rfl⟩, hr1, hr2, hown, hchg.drewN N⟩
      have HFIN := Lib.hid hfin
      clear hst hot hgk hln hr1 hr2 hr3 hown hchg hsK hc hfin
      go_wp2
      go_quiet ((go_at_call 23; (with_reducible exact Calls.quiet_of (HBT.out _))))
      go_wp2
      go_ret
      exact HFIN.out _
end Go.Proofs.Ytfilmbeoggmglaa.SL
