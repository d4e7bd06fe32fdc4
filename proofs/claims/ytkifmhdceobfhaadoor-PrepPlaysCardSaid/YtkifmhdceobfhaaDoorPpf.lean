/- Package prep, its code: Close, Leave, Forget, made, New, number, Need. Conditions: sizes; how many calls there were. -/
import Derived.Test.YtkifmhdceobfhaaDoorPpe
namespace Go.Proofs.YtkifmhdceobfhaaDoor.PP
open Go.ChangeShapes Go.WideShapes Go.ChangeAt Go.RowKit Go.Maps Go.ChangeMaps
open Go.Proofs.YtkifmhdceobfhaaDoor.SL
set_option maxRecDepth 100000
set_option linter.unusedVariables false
set_option linter.unusedSimpArgs false

section
variable {B : Nat} {w w' : World} {a N : Nat} {C : Cf} {S : St}
set_option maxHeartbeats 4000000 in
theorem leave_any (h : CB B w a N C S) (c : Int) (hI : I9 c) :
    Calls Tryd.prog 13 #[ptr a, nV c] w fun e w' => e = .returned (nV ((ofE c S.L).length : Int)) ∧ StC B a N C (leaS c S) w w' := by
  obtain ⟨c0, c1, c2, _⟩ := h.cells
  have hG := given_yes w a c0
  have HD : Hid (Calls Tryd.prog 30 #[mpV C.hb, nV c] w fun e w' => e = .returned (nV ((ofE c S.L).length : Int)) ∧ StC B a N C (leaS c S) w w') := Lib.hid (by
    refine (drop_s h.hc c hI).mono ?_
    rintro e w' ⟨rfl, F', H, hcg, ho⟩
    exact ⟨rfl, h.clients (Nat.le_refl N) ⟨F', H.congr (fun x => cC_no S.L c x) (fun x kl => gC_no S.L c x kl), hcg, ho⟩ (ul_filter h.inv.ul _) (Nat.le_trans (List.length_filter_le _ _) h.few.1)⟩)
  generalize (ofE c S.L).length = n at *
  generalize leaS c S = S2 at *
  clear h hI
  go_enter Tryd.func13, Tryd.ntmps13
  go_wp2_with (go_at_call 27; refine hG.mono ?_; rintro e w' ⟨rfl, rfl⟩)
  refine HD.out.mono ?_
  rintro e w' ⟨rfl, hst⟩
  have HST := Lib.hid hst
  clear hst
  go_wp2
  go_ret
  exact ⟨rfl, HST.out⟩
set_option maxHeartbeats 4000000 in
theorem forget_any (h : CB B w a N C S) (c : Int) (hI : I9 c) :
    Calls Tryd.prog 17 #[ptr a, nV c] w fun e w' => e = .returned (nV ((nms S.D c).length : Int)) ∧ StC B a N C (forS c S) w w' := by
  obtain ⟨c0, c1, c2, _⟩ := h.cells
  have hG := given_yes w a c0
  have HD : Hid (Calls Tryd.prog 35 #[mpV C.cb, nV c] w fun e w' => e = .returned (nV ((nms S.D c).length : Int)) ∧ StC B a N C (forS c S) w w') := Lib.hid (by
    refine (drop_i h.hd c hI).mono ?_
    rintro e w' ⟨rfl, F', H, hcg, ho⟩
    exact ⟨rfl, h.conns (Nat.le_refl N) ⟨F', H.congr (fun x => cD_no S.D c x) (fun x kl => gD_no S.D c x kl), hcg, ho⟩ (List.Pairwise.filter _ h.inv.ud) (fun e he => h.inv.nr e (List.mem_filter.1 he).1) (Nat.le_trans (List.length_filter_le _ _) h.few.2.1)⟩)
  generalize (nms S.D c).length = n at *
  generalize forS c S = S2 at *
  clear h hI
  go_enter Tryd.func17, Tryd.ntmps17
  go_wp2_with (go_at_call 27; refine hG.mono ?_; rintro e w' ⟨rfl, rfl⟩)
  refine HD.out.mono ?_
  rintro e w' ⟨rfl, hst⟩
  have HST := Lib.hid hst
  clear hst
  go_wp2
  go_ret
  exact ⟨rfl, HST.out⟩
set_option maxHeartbeats 4000000 in
theorem close_any (h : CB B w a N C S) (hN : N ≤ 1000000) (c : Int) (hI : I9 c) (n : Tx) (hn : n.size ≤ 281474976710656) :
    Calls Tryd.prog 11 #[ptr a, nV c, .string n] w fun e w' => e = .returned (.bool (fnd S.L c n).isSome) ∧ StC B a N C (clsS c n S) w w' := by
  have HF := Lib.hid (find_any h c hI n hn)
  cases hf : fnd S.L c n with
  | none =>
    rw [hf] at HF
    have HR : Hid (∀ W, Below w.heap.size w W → StC B a N C (clsS c n S) w W) := Lib.hid fun W hb => by
      have := StC.of_below h hb
      unfold clsS
      rw [wo_id hf]
      exact this
    clear h hf hI hn
    go_enter Tryd.func11, Tryd.ntmps11
    go_wp2_with (go_at_call 20; refine HF.out.mono ?_; rintro e w1 ⟨rfl, hb⟩)
    go_ret
    exact ⟨rfl, HR.out _ hb⟩
  | some s =>
    rw [hf] at HF
    have HX : Hid (∀ W, Below w.heap.size w W → ∃ b W2, C.F c = some b ∧ (Instr.lookup 47 (mpV C.hb) (nV c) false).run Tryd.prog W = .ok (.map (some b)) W ∧ W.cell? ⟨a, 1, none⟩ = some (mpV C.hb) ∧
        (Builtin.delete_ #[58, 9] 0 #[.map (some b), .string n]).run Tryd.prog W = .ok (.tuple #[]) W2 ∧ W2.cell? ⟨a, 1, none⟩ = some (mpV C.hb) ∧
        (Instr.lookup 47 (mpV C.hb) (nV c) false).run Tryd.prog W2 = .ok (.map (some b)) W2 ∧
        (∀ ty, (Builtin.len_ #[58] ty #[.map (some b)]).run Tryd.prog W2 = .ok (nV ((ofE c (woE c n S.L)).length : Int)) W2) ∧
        StC B a N C (clsS c n S) w W2 ∧ ((ofE c (woE c n S.L)).length = 0 → Calls Tryd.prog 30 #[mpV C.hb, nV c] W2 fun e w' => e = .returned (nV 0) ∧ StC B a N C (clsS c n S) w w')) := Lib.hid fun W hb => by
      have hW := h.below hb
      obtain ⟨b, hF⟩ : ∃ b, C.F c = some b := by
        cases hF : C.F c with
        | none =>
          have := (hW.hc.m0 c hF).2 (.string n.data.toList)
          rw [gC_at, hf] at this
          cases this
        | some b => exact ⟨b, rfl⟩
      obtain ⟨W2, hr2, H2, hc2⟩ := hW.hc.del strK Tryd.underlying58 hF (keyB n hn) 0
      have hp : HeldP 9 C.hb N C.F (cC (woE c n S.L)) (gC (woE c n S.L)) W W2 := ⟨C.F, H2.congr (fun x => cC_wo S.L h.inv.ul c n x) (fun x kl => gC_wo S.L c n x kl), hc2.mono fun x _ e => .inr ⟨c, by rw [hF, e]⟩, fun x hx => .inl hx⟩
      have hst := hW.clients (Nat.le_refl N) hp (ul_filter h.inv.ul _) (Nat.le_trans (List.length_filter_le _ _) h.few.1)
      have hO := (hW.lookC c hI n hn).1
      rw [hF] at hO
      have H3 : Held 9 W2 C.hb N C.F (cC (woE c n S.L)) (gC (woE c n S.L)) := H2.congr (fun x => cC_wo S.L h.inv.ul c n x) (fun x kl => gC_wo S.L c n x kl)
      have hO2 := H3.out Tryd.underlying47 (zo_s W2) c hI
      have hL2 := fun ty => H3.len Tryd.underlying58 c ty
      rw [hF] at hO2 hL2
      refine ⟨b, W2, hF, hO, hW.cells.2.1, hr2, ?_, hO2, hL2, StC.pre hb hst, fun h0 => ?_⟩
      · obtain ⟨C', _, _, hk, _⟩ := hst
        exact (hk.bk hW.bk).cell 1
      · refine (drop_s H3 c hI).mono ?_
        rintro e w' ⟨rfl, F', H, hcg, ho⟩
        refine ⟨by rw [show cC (woE c n S.L) c = 0 from h0]; rfl, StC.pre hb (hW.clients (Nat.le_refl N) ⟨F', ?_, (hp.choose_spec.2.1).trans' hcg ?_, ?_⟩ (ul_filter h.inv.ul _) (Nat.le_trans (List.length_filter_le _ _) h.few.1))⟩
        · refine H.congr (fun x => ?_) (fun x kl => ?_)
          · by_cases e : x = c
            · subst e; rw [upd_at]; exact h0.symm
            · rw [upd_ne _ _ e]
          · by_cases e : x = c
            · subst e
              rw [upd_at]
              unfold gC MV.fS
              cases kl with
              | string l => show none = (fnd (woE x n S.L) x _).map stV; rw [of_none h0]; rfl
              | _ => rfl
            · rw [upd_ne _ _ e]
        · exact fun x _ hx => hx
        · intro x hx
          rcases ho x hx with e | e
          · exact .inl e
          · exact .inr (Nat.le_trans hc2.size e)
    clear h hf hI hn
    go_enter Tryd.func11, Tryd.ntmps11
    go_wp2_with fail
    refine HF.out.mono ?_
    rintro e w1 ⟨rfl, hb⟩
    obtain ⟨b, W2, -, x1, x2, x3, x4, x5, x6, hst, hdr⟩ := HX.out w1 hb
    have HST := Lib.hid hst
    generalize hm : (ofE c (woE c n S.L)).length = m at *
    clear hb hst HX HF hm
    cases m with
    | zero =>
      have HDR := Lib.hid (hdr rfl)
      clear hdr
      go_wp2_with (go_at_call 30; refine HDR.out.mono ?_; rintro e w3 ⟨rfl, hst3⟩)
      go_ret
      exact ⟨rfl, hst3⟩
    | succ m =>
      have l0 : ¬ ((m + 1 : Nat) : Int) = 0 := by omega
      clear hdr
      go_wp2
      go_ret
      exact ⟨rfl, HST.out⟩
end
end Go.Proofs.YtkifmhdceobfhaaDoor.PP
