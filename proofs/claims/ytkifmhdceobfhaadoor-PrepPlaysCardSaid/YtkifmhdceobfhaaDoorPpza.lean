/- The document's book: Has, Define, Need. Conditions: how many. -/
import Derived.Test.YtkifmhdceobfhaaDoorPpy
namespace Go.Proofs.YtkifmhdceobfhaaDoor.PP
open Go.ChangeShapes Go.WideShapes Go.ChangeAt Go.RowKit Go.Maps Go.ChangeMaps
open Go.Proofs.YtkifmhdceobfhaaDoor.SL Go.Proofs.YtkifmhdceobfhaaDoor.RW
set_option maxRecDepth 100000
set_option linter.unusedVariables false
set_option linter.unusedSimpArgs false

theorem tx_at {w : World} {v : Value} {l : List ByteArray} (h : TS w v l) {i : Nat} {x : Tx} (hx : l[i]? = some x) : ∃ g off cap, v = .slice (some ⟨g, off, none⟩) l.length cap ∧ l.length ≤ cap ∧ ∀ W, Below w.heap.size w W → W.cell? ⟨g, off + i, none⟩ = some (.string x) := by
  have hl := (List.getElem?_eq_some_iff.1 hx).1
  obtain ⟨g, off, cap, he, hc, hat⟩ := h.inv (by omega)
  exact ⟨g, off, cap, he, hc, fun W hb => (hb.cell (p := ⟨g, off + i, none⟩) (World.block_lt_of_cell? w _ (hat i x hx))).trans (hat i x hx)⟩
section
variable {B : Nat} {w w' : World} {r N : Nat} {S : St} {v1 v2 v3 : Value}
set_option maxHeartbeats 8000000 in
theorem rhas_any (h : RV B w r N S v1 v2 v3) (hN : N ≤ 1000000) (c : Int) :
    Calls Tryd.prog 24 #[ptr r, nV c] w fun e w' => ∃ v, e = .returned v ∧ OT w.heap.size w' v ((nms S.D c).map nm) ∧ Below w.heap.size w w' := by
  have xr := h.cells.2.2
  have HM := Lib.hid h.h3
  have HL : Hid (S.D.length ≤ 1000000) := Lib.hid (Nat.le_trans h.few.2.1 hN)
  have HCELL : Hid (∀ w1, Below w.heap.size w w1 → w1.cell? ⟨r, 2, none⟩ = some v3) := Lib.hid fun w1 hb => (h.below hb).cells.2.2
  obtain ⟨a1, q1, rfl⟩ := h.h3.form
  obtain ⟨L, hL⟩ : ∃ L, S.D = L := ⟨_, rfl⟩
  rw [hL] at HM HL HCELL xr ⊢
  clear h hN hL
  go_enter Tryd.func24, Tryd.ntmps24
  go_wp2
  go_loopg [5, 6] L.length (fun gk u5 u6 wx => ∃ i : Nat, u6 = .int .i64 (i : Int) ∧ i + gk = L.length ∧ Hid (OT w.heap.size wx u5 ((nms (L.take i) c).map nm)) ∧ Hid (Below w.heap.size w wx))
  case atStart => exact ⟨0, rfl, by omega, Lib.hid (SL.OT.nil _ _), Lib.hid (Below.refl _ _)⟩
  case round =>
    obtain ⟨i, rfl, hi, HO, HB⟩ := hrel
    have xw := HCELL.out wr HB.out
    cases gk with
    | zero =>
      have l1 : ¬ ((i : Int) < (L.length : Int)) := by omega
      have hfl : nms (L.take i) c = nms L c := by rw [show i = L.length by omega, List.take_length]
      rw [hfl] at HO
      clear hi hfl
      go_wp2
      go_ret
      exact ⟨_, rfl, HO.out, HB.out⟩
    | succ gk =>
      have hlt : i < L.length := by omega
      obtain ⟨y, hy⟩ : ∃ y, L[i]? = some y := ⟨_, List.getElem?_eq_getElem hlt⟩
      obtain ⟨g, cap, he, hg, hat⟩ := (HM.out.below HB.out).at_ hy
      injection he with e1 _ e3
      subst e1 e3
      have y0 := hat 0 _ rfl
      have y1 := hat 1 _ rfl
      rw [Nat.add_zero] at y0
      have l0 : (0 : Int) ≤ (i : Int) := by omega
      have l1 : (i : Int) < (L.length : Int) := by omega
      obtain ⟨i1, hi1⟩ : ∃ k, i + 1 = k := ⟨_, rfl⟩
      have wk : IntKind.i64.wrap ((i : Int) + 1) = (i1 : Int) := by rw [show (i : Int) + 1 = (i1 : Int) by omega]; exact IntWalk.i64_in _ (by have := HL.out; omega)
      have HI1 : Hid (i1 + gk = L.length) := Lib.hid (by omega)
      have htk := nms_take c hy
      rw [hi1] at htk
      have HLEN : Hid (((nms (L.take i) c).map nm).length ≤ 1000000) := Lib.hid (by rw [List.length_map]; exact Nat.le_trans (nms_len _ _) (by rw [List.length_take]; have := HL.out; omega))
      obtain ⟨yc, yk⟩ := y
      simp only at htk
      clear hi hlt hy hat hi1
      by_cases hc : yc = c
      · rw [if_pos hc] at htk
        obtain ⟨z, hz⟩ : ∃ z, nm yk = z := ⟨_, rfl⟩
        have htk2 : (nms (L.take i1) c).map nm = (nms (L.take i) c).map nm ++ [z] := by rw [htk, List.map_append, ← hz]; rfl
        have HTK := Lib.hid htk2
        rw [hz] at y1
        obtain ⟨D, hD⟩ : ∃ D, (nms (L.take i) c).map nm = D := ⟨_, rfl⟩
        rw [hD] at HTK HO HLEN
        obtain ⟨W4, hW4⟩ : ∃ W, wr.alloc (.cells #[.string z] 9) = W := ⟨_, rfl⟩
        obtain ⟨nb, hnb⟩ : ∃ b, wr.heap.size = b := ⟨_, rfl⟩
        have hb4 : Below wr.heap.size wr W4 := by rw [← hW4]; exact (Below.refl _ _).alloc (Nat.le_refl _) _
        have HK4 : Hid (Bk W4 nb 9 #[.string z]) := Lib.hid (by rw [← hW4, ← hnb]; exact Bk.new _ _ _)
        have HO4 := Lib.hid (show OT w.heap.size W4 u5 D from HO.out.keep fun g hg => hb4.block g (World.ownsRow.lt HO.out g hg).2)
        have HB4 := Lib.hid (HB.out.trans (hb4.mono HB.out.size))
        have ec : (yc == c) = true := by rw [beq_iff_eq]; exact hc
        clear htk htk2 hD hb4 hz hc
        go_wp2_with (at_builtin; refine wpList_app_text w.heap.size u5 D z nb rfl _ _ rfl rfl HO4.out rfl HK4.out (by have := HLEN.out; omega) HB4.out.size ?_; intro g5 cap5 w5 o5 gr5)
        have HO5 : Hid (OT w.heap.size w5 (.slice (some ⟨g5, 0, none⟩) (D.length + 1) cap5) ((nms (L.take i1) c).map nm)) := Lib.hid (by rw [HTK.out]; exact o5)
        have HB5 : Hid (Below w.heap.size w w5) := Lib.hid (HB4.out.grown gr5 HB4.out.size fun k hk => (World.ownsRow.lt HO4.out k hk).1)
        try clear hW4 hnb
        clear o5 gr5
        go_wp2
        go_roundg gk
        case measure => exact Nat.lt_succ_self _
        case rel => exact ⟨i1, rfl, HI1.out, HO5, HB5⟩
      · rw [if_neg hc] at htk
        have HO : Hid (OT w.heap.size wr u5 ((nms (L.take i1) c).map nm)) := Lib.hid (by rw [htk]; exact HO.out)
        clear htk
        go_wp2
        go_roundg gk
        case measure => exact Nat.lt_succ_self _
        case rel => exact ⟨i1, rfl, HI1.out, HO, HB⟩
set_option maxHeartbeats 8000000 in
theorem rdef_any (h : RV B w r N S v1 v2 v3) (hN : N ≤ 1000000) (c : Int) (n s : Tx) :
    Calls Tryd.prog 10 #[ptr r, nV c, .string n, .string s] w (RetR B r (N + 1) (defS c n s S) (nV (defA c n s S)) w) := by
  have HR : Hid (RBk B w r (N + 1) S) := Lib.hid (RBk.mono ⟨_, _, _, h⟩ (Nat.le_succ N))
  have HF := Lib.hid (rfind_any h hN c n)
  have HC := Lib.hid (rclose_any h hN c n)
  have hn0 : n = ByteArray.empty ↔ n.toList.isEmpty = true := by
    have h1 : (n.toList == ByteArray.empty.toList) = decide (n = ByteArray.empty) := tl_dec _ _
    have h2 : ByteArray.empty.toList = [] := by kernel_rfl
    rw [h2] at h1
    rw [show n.toList.isEmpty = (n.toList == []) by cases n.toList <;> rfl, h1, decide_eq_true_eq]
  have HND := Lib.hid (show fnd (woE c n S.L) c n = none by rw [fnd_wo, if_pos ⟨rfl, rfl⟩])
  have HLN : Hid (S.L.length ≤ N ∧ N ≤ 1000000) := Lib.hid ⟨h.few.1, hN⟩
  unfold RetR defA defS
  by_cases hbig : 2000 < s.size
  · rw [if_pos hbig, if_pos hbig]
    have l1 : (2000 : Int) < (s.size : Int) := by omega
    clear h hN hn0 hbig
    go_enter Tryd.func10, Tryd.ntmps10
    go_wp2
    go_ret
    exact ⟨rfl, HR.out, Fk.refl _ _⟩
  · rw [if_neg hbig, if_neg hbig]
    have l1 : ¬ (2000 : Int) < (s.size : Int) := by omega
    by_cases hc : (fnd S.L c n).isSome = true ∧ n ≠ ByteArray.empty
    · rw [if_pos hc, if_pos hc]
      have e1 : n.toList.isEmpty = false := by
        rw [Bool.eq_false_iff]; exact fun e => hc.2 (hn0.2 e)
      rw [hc.1] at HF
      generalize (fnd S.L c n).getD ByteArray.empty = x at *
      clear h hN hn0 hbig hc
      go_enter Tryd.func10, Tryd.ntmps10
      go_wp2_with fail
      refine HF.out.mono ?_
      rintro e w1 ⟨rfl, rfl⟩
      go_wp2
      go_ret
      exact ⟨rfl, HR.out, Fk.refl _ _⟩
    · rw [if_neg hc, if_neg hc]
      have l2 : (fnd S.L c n).isSome = false ∨ ((fnd S.L c n).isSome = true ∧ n.toList.isEmpty = true) := by
        by_cases e : n = ByteArray.empty
        · cases (fnd S.L c n).isSome with
          | false => exact .inl rfl
          | true => exact .inr ⟨rfl, hn0.1 e⟩
        · exact .inl (Bool.eq_false_iff.2 fun e2 => hc ⟨e2, e⟩)
      generalize (fnd S.L c n).getD ByteArray.empty = x at *
      generalize (fnd S.L c n).isSome = bo at *
      obtain ⟨L, hL⟩ : ∃ L, woE c n S.L = L := ⟨_, rfl⟩
      rw [hL]
      rw [hL] at HND
      have HLE := Lib.hid hL
      clear h hN hn0 hbig hc HR hL
      rcases l2 with rfl | ⟨rfl, e1⟩
      · go_enter Tryd.func10, Tryd.ntmps10
        go_wp2_with fail
        refine HF.out.mono ?_
        rintro e w1 ⟨rfl, rfl⟩
        go_wp2_with fail
        refine HC.out.mono ?_
        rintro e w2 ⟨rfl, ⟨p1, p2, p3, hv⟩, hk⟩
        have hL := HLE.out
        have hL2 : (clsS c n S).L = L := hL
        have HND2 := HND.out
        have HLL : Hid (L.length ≤ N) := Lib.hid (by rw [← hL]; exact Nat.le_trans (wo_len _ _ _) HLN.out.1)
        have HV := Lib.hid hv
        have HK := Lib.hid hk
        have x0 := hv.cells.1
        have ho : OM B w2 p1 L := by rw [← hL2]; exact hv.h1
        obtain ⟨pa, pc, rfl⟩ := ho.form
        obtain ⟨W4, hW4⟩ : ∃ W, w2.alloc (.cells #[nV c, .string n, .string s] 62) = W := ⟨_, rfl⟩
        obtain ⟨nb, hnb⟩ : ∃ b, w2.heap.size = b := ⟨_, rfl⟩
        have hb4 : Below w2.heap.size w2 W4 := by rw [← hW4]; exact (Below.refl _ _).alloc (Nat.le_refl _) _
        have HK4 : Hid (Bk W4 nb 62 #[nV c, .string n, .string s]) := Lib.hid (by rw [← hW4, ← hnb]; exact Bk.new _ _ _)
        have HO4 := Lib.hid (ho.below hb4)
        have HV4 := Lib.hid (hv.below hb4)
        have HF4 : Hid (Fk B w W4) := Lib.hid (hk.trans (Fk.below hb4 hv.le))
        have HU : Hid (UniqE (L ++ [(c, n, s)])) := Lib.hid (ul_app (by rw [← hL2]; exact hv.inv.ul) c n s HND2)
        have HSL := Lib.hid hL2
        clear hL hL2 HND2 HND hv hk ho hb4 HC HF
        go_wp2_with (at_builtin; refine wpList_app_OM B (.slice pa L.length pc) L (c, n, s) nb rfl _ _ rfl rfl HO4.out rfl HK4.out (by have := HLL.out; have := HLN.out.2; omega) HV4.out.le ?_; intro g5 cap5 w5 o5 gr5; (have hbk5 := Bk.row HV4.out.bk gr5 (fun b hb => HO4.out.ty hb) (by decide)); (have x5 := hbk5.cell 0); (have f5 := hbk5.frozen 0); (rw [List.length_append]))
        have h5 : RV B w5 r N (clsS c n S) (.slice pa L.length pc) p2 p3 ∨ True := .inr trivial
        have HV5 : Hid (RV B (w5.setCell ⟨r, 0, none⟩ (.slice g5 (L.length + 1) cap5)) r (N + 1) { clsS c n S with L := L ++ [(c, n, s)] } (.slice g5 (L.length + 1) cap5) p2 p3 ∧ Fk B w (w5.setCell ⟨r, 0, none⟩ (.slice g5 (L.length + 1) cap5))) := Lib.hid (by
          have h0 := HV4.out
          have hfar : ∀ k, k ≠ r → (w5.setCell ⟨r, 0, none⟩ (.slice g5 (L.length + 1) cap5)).heap[k]? = w5.heap[k]? := fun k hk => Below.heap_setCell w5 ⟨r, 0, none⟩ _ k hk
          have ho5 : OM B w5 (.slice g5 (L.length + 1) cap5) (L ++ [(c, n, s)]) := by have := o5; rw [List.length_append] at this; exact this
          have t2 : OT B w5 p2 S.T := SL.OT.keep (show OT B W4 p2 S.T from h0.h2) fun g hg => gr5.block g (World.ownsRow.lt h0.h2 g hg).2 fun e => own_ne (fun b hb => PP.OT.ty h0.h2 hb) (fun b hb => HO4.out.ty hb) (by decide) hg (by rw [← e])
          have t3 : OC B w5 p3 S.D := OC.keep (show OC B W4 p3 S.D from h0.h3) fun g hg => gr5.block g (h0.h3.lt g hg).2 fun e => own_ne (fun b hb => h0.h3.ty hb) (fun b hb => HO4.out.ty hb) (by decide) hg (by rw [← e])
          have nr : ∀ {T : TypeId} {u : Value}, (∀ b, u.ownBlock = some b → ∃ cur, w5.heap[b]? = some (.cells cur T (0, 0))) → T ≠ 30 → ∀ g, u.ownBlock = some g → g ≠ r := fun hu hT g hg e => by
            obtain ⟨cur, hc⟩ := hu g hg
            subst e
            have := hbk5
            unfold Bk at this
            rw [this] at hc
            injection hc with hc
            injection hc with _ hc
            exact hT hc.symm
          have hbel5 : Below B W4 w5 := (Below.refl B W4).grown gr5 h0.le fun k hk => (HO4.out.lt k hk).1
          refine ⟨⟨hbk5.set_ 0 _, ho5.keep fun g hg => hfar g (nr (fun b hb => ho5.ty hb) (by decide) g hg), t2.keep fun g hg => hfar g (nr (fun b hb => PP.OT.ty t2 hb) (by decide) g hg), t3.keep fun g hg => hfar g (nr (fun b hb => t3.ty hb) (by decide) g hg), h0.ge, ⟨HU.out, h0.inv.ut, h0.inv.ud, h0.inv.nr⟩, ?_, Nat.le_trans h0.few.2.1 (Nat.le_succ N), Nat.le_trans h0.few.2.2 (Nat.le_succ N)⟩, HF4.out.trans ⟨hbel5.setCell (p := ⟨r, 0, none⟩) h0.ge _, (Kr.grown gr5 (fun b hb => HO4.out.ty hb) (.inr (.inl rfl))).trans (Kr.set hbk5 0 _)⟩⟩
          show (L ++ [(c, n, s)]).length ≤ N + 1
          rw [List.length_append]
          have := HLL.out
          show L.length + 1 ≤ N + 1
          omega)
        try clear hW4 hnb
        clear h5 o5 gr5 hbk5
        go_wp2
        go_ret
        refine ⟨rfl, ⟨_, _, _, HV5.out.1⟩, HV5.out.2⟩
      · go_enter Tryd.func10, Tryd.ntmps10
        go_wp2_with fail
        refine HF.out.mono ?_
        rintro e w1 ⟨rfl, rfl⟩
        go_wp2_with fail
        refine HC.out.mono ?_
        rintro e w2 ⟨rfl, ⟨p1, p2, p3, hv⟩, hk⟩
        have hL := HLE.out
        have hL2 : (clsS c n S).L = L := hL
        have HND2 := HND.out
        have HLL : Hid (L.length ≤ N) := Lib.hid (by rw [← hL]; exact Nat.le_trans (wo_len _ _ _) HLN.out.1)
        have HV := Lib.hid hv
        have HK := Lib.hid hk
        have x0 := hv.cells.1
        have ho : OM B w2 p1 L := by rw [← hL2]; exact hv.h1
        obtain ⟨pa, pc, rfl⟩ := ho.form
        obtain ⟨W4, hW4⟩ : ∃ W, w2.alloc (.cells #[nV c, .string n, .string s] 62) = W := ⟨_, rfl⟩
        obtain ⟨nb, hnb⟩ : ∃ b, w2.heap.size = b := ⟨_, rfl⟩
        have hb4 : Below w2.heap.size w2 W4 := by rw [← hW4]; exact (Below.refl _ _).alloc (Nat.le_refl _) _
        have HK4 : Hid (Bk W4 nb 62 #[nV c, .string n, .string s]) := Lib.hid (by rw [← hW4, ← hnb]; exact Bk.new _ _ _)
        have HO4 := Lib.hid (ho.below hb4)
        have HV4 := Lib.hid (hv.below hb4)
        have HF4 : Hid (Fk B w W4) := Lib.hid (hk.trans (Fk.below hb4 hv.le))
        have HU : Hid (UniqE (L ++ [(c, n, s)])) := Lib.hid (ul_app (by rw [← hL2]; exact hv.inv.ul) c n s HND2)
        have HSL := Lib.hid hL2
        clear hL hL2 HND2 HND hv hk ho hb4 HC HF
        go_wp2_with (at_builtin; refine wpList_app_OM B (.slice pa L.length pc) L (c, n, s) nb rfl _ _ rfl rfl HO4.out rfl HK4.out (by have := HLL.out; have := HLN.out.2; omega) HV4.out.le ?_; intro g5 cap5 w5 o5 gr5; (have hbk5 := Bk.row HV4.out.bk gr5 (fun b hb => HO4.out.ty hb) (by decide)); (have x5 := hbk5.cell 0); (have f5 := hbk5.frozen 0); (rw [List.length_append]))
        have h5 : RV B w5 r N (clsS c n S) (.slice pa L.length pc) p2 p3 ∨ True := .inr trivial
        have HV5 : Hid (RV B (w5.setCell ⟨r, 0, none⟩ (.slice g5 (L.length + 1) cap5)) r (N + 1) { clsS c n S with L := L ++ [(c, n, s)] } (.slice g5 (L.length + 1) cap5) p2 p3 ∧ Fk B w (w5.setCell ⟨r, 0, none⟩ (.slice g5 (L.length + 1) cap5))) := Lib.hid (by
          have h0 := HV4.out
          have hfar : ∀ k, k ≠ r → (w5.setCell ⟨r, 0, none⟩ (.slice g5 (L.length + 1) cap5)).heap[k]? = w5.heap[k]? := fun k hk => Below.heap_setCell w5 ⟨r, 0, none⟩ _ k hk
          have ho5 : OM B w5 (.slice g5 (L.length + 1) cap5) (L ++ [(c, n, s)]) := by have := o5; rw [List.length_append] at this; exact this
          have t2 : OT B w5 p2 S.T := SL.OT.keep (show OT B W4 p2 S.T from h0.h2) fun g hg => gr5.block g (World.ownsRow.lt h0.h2 g hg).2 fun e => own_ne (fun b hb => PP.OT.ty h0.h2 hb) (fun b hb => HO4.out.ty hb) (by decide) hg (by rw [← e])
          have t3 : OC B w5 p3 S.D := OC.keep (show OC B W4 p3 S.D from h0.h3) fun g hg => gr5.block g (h0.h3.lt g hg).2 fun e => own_ne (fun b hb => h0.h3.ty hb) (fun b hb => HO4.out.ty hb) (by decide) hg (by rw [← e])
          have nr : ∀ {T : TypeId} {u : Value}, (∀ b, u.ownBlock = some b → ∃ cur, w5.heap[b]? = some (.cells cur T (0, 0))) → T ≠ 30 → ∀ g, u.ownBlock = some g → g ≠ r := fun hu hT g hg e => by
            obtain ⟨cur, hc⟩ := hu g hg
            subst e
            have := hbk5
            unfold Bk at this
            rw [this] at hc
            injection hc with hc
            injection hc with _ hc
            exact hT hc.symm
          have hbel5 : Below B W4 w5 := (Below.refl B W4).grown gr5 h0.le fun k hk => (HO4.out.lt k hk).1
          refine ⟨⟨hbk5.set_ 0 _, ho5.keep fun g hg => hfar g (nr (fun b hb => ho5.ty hb) (by decide) g hg), t2.keep fun g hg => hfar g (nr (fun b hb => PP.OT.ty t2 hb) (by decide) g hg), t3.keep fun g hg => hfar g (nr (fun b hb => t3.ty hb) (by decide) g hg), h0.ge, ⟨HU.out, h0.inv.ut, h0.inv.ud, h0.inv.nr⟩, ?_, Nat.le_trans h0.few.2.1 (Nat.le_succ N), Nat.le_trans h0.few.2.2 (Nat.le_succ N)⟩, HF4.out.trans ⟨hbel5.setCell (p := ⟨r, 0, none⟩) h0.ge _, (Kr.grown gr5 (fun b hb => HO4.out.ty hb) (.inr (.inl rfl))).trans (Kr.set hbk5 0 _)⟩⟩
          show (L ++ [(c, n, s)]).length ≤ N + 1
          rw [List.length_append]
          have := HLL.out
          show L.length + 1 ≤ N + 1
          omega)
        try clear hW4 hnb
        clear h5 o5 gr5 hbk5
        go_wp2
        go_ret
        refine ⟨rfl, ⟨_, _, _, HV5.out.1⟩, HV5.out.2⟩
end
end Go.Proofs.YtkifmhdceobfhaaDoor.PP
