/- The document's book: Need. Conditions: how many. -/
import Derived.Test.YtkifmhdceobfhaaDoorPpza
namespace Go.Proofs.YtkifmhdceobfhaaDoor.PP
open Go.ChangeShapes Go.WideShapes Go.ChangeAt Go.RowKit Go.Maps Go.ChangeMaps
open Go.Proofs.YtkifmhdceobfhaaDoor.SL Go.Proofs.YtkifmhdceobfhaaDoor.RW
set_option maxRecDepth 100000
set_option linter.unusedVariables false
set_option linter.unusedSimpArgs false

section
variable {B : Nat} {w w' : World} {r N : Nat} {S : St} {v1 v2 v3 : Value}
theorem RV.appT (h : RV B w r N S v1 v2 v3) (gr : w.grownBy w' v2.ownBlock) {x : Value} {t : Tx} (o : OT B w' x (S.T ++ [t])) (hu : (S.T ++ [t]).Nodup) : RV B (w'.setCell ⟨r, 1, none⟩ x) r (N + 1) { S with T := S.T ++ [t] } v1 x v3 ∧ Fk B w (w'.setCell ⟨r, 1, none⟩ x) := by
  have ty2 : ∀ b, v2.ownBlock = some b → ∃ cur, w.heap[b]? = some (.cells cur 9 (0, 0)) := fun b hb => PP.OT.ty h.h2 hb
  have hbk := Bk.row h.bk gr ty2 (by decide)
  have t1 : OM B w' v1 S.L := h.h1.keep fun g hg => gr.block g (h.h1.lt g hg).2 fun e => own_ne (fun b hb => h.h1.ty hb) ty2 (by decide) hg (by rw [← e])
  have t3 : OC B w' v3 S.D := h.h3.keep fun g hg => gr.block g (h.h3.lt g hg).2 fun e => own_ne (fun b hb => h.h3.ty hb) ty2 (by decide) hg (by rw [← e])
  have hbel : Below B w w' := (Below.refl B w).grown gr h.le fun k hk => (World.ownsRow.lt h.h2 k hk).1
  have hr0 : RV B w' r N { S with T := S.T } v1 v2 v3 ∨ True := .inr trivial
  have far : ∀ k, k ≠ r → (w'.setCell ⟨r, 1, none⟩ x).heap[k]? = w'.heap[k]? := fun k hk => Below.heap_setCell w' ⟨r, 1, none⟩ x k hk
  have nr : ∀ {T : TypeId} {u : Value}, (∀ b, u.ownBlock = some b → ∃ cur, w'.heap[b]? = some (.cells cur T (0, 0))) → T ≠ 30 → ∀ g, u.ownBlock = some g → g ≠ r := fun hu hT g hg e => by
    obtain ⟨cur, hc⟩ := hu g hg
    subst e
    have := hbk
    unfold Bk at this
    rw [this] at hc
    injection hc with hc
    injection hc with _ hc
    exact hT hc.symm
  have hlen : (S.T ++ [t]).length = S.T.length + 1 := by rw [List.length_append]; rfl
  refine ⟨⟨hbk.set_ 1 _, t1.keep fun g hg => far g (nr (fun b hb => t1.ty hb) (by decide) g hg), o.keep fun g hg => far g (nr (fun b hb => PP.OT.ty o hb) (by decide) g hg), t3.keep fun g hg => far g (nr (fun b hb => t3.ty hb) (by decide) g hg), h.ge, ⟨h.inv.ul, hu, h.inv.ud, fun e he => ⟨(h.inv.nr e he).1, by have := (h.inv.nr e he).2; show e.2 ≤ (S.T ++ [t]).length; omega⟩⟩, Nat.le_trans h.few.1 (Nat.le_succ N), Nat.le_trans h.few.2.1 (Nat.le_succ N), ?_⟩, hbel.setCell (p := ⟨r, 1, none⟩) h.ge _, (Kr.grown gr ty2 (.inr (.inr (.inl rfl)))).trans (Kr.set hbk 1 _)⟩
  show (S.T ++ [t]).length ≤ N + 1
  have := h.few.2.2
  omega
theorem RV.appD (h : RV B w r N S v1 v2 v3) (gr : w.grownBy w' v3.ownBlock) {x : Value} {y : Cn} (o : OC B w' x (S.D ++ [y])) (hu : (S.D ++ [y]).Nodup) (hr : ∀ e ∈ S.D ++ [y], 1 ≤ e.2 ∧ e.2 ≤ S.T.length) : RV B (w'.setCell ⟨r, 2, none⟩ x) r (N + 1) { S with D := S.D ++ [y] } v1 v2 x ∧ Fk B w (w'.setCell ⟨r, 2, none⟩ x) := by
  have ty3 : ∀ b, v3.ownBlock = some b → ∃ cur, w.heap[b]? = some (.cells cur 69 (0, 0)) := fun b hb => h.h3.ty hb
  have hbk := Bk.row h.bk gr ty3 (by decide)
  have t1 : OM B w' v1 S.L := h.h1.keep fun g hg => gr.block g (h.h1.lt g hg).2 fun e => own_ne (fun b hb => h.h1.ty hb) ty3 (by decide) hg (by rw [← e])
  have t2 : OT B w' v2 S.T := SL.OT.keep h.h2 fun g hg => gr.block g (World.ownsRow.lt h.h2 g hg).2 fun e => own_ne (fun b hb => PP.OT.ty h.h2 hb) ty3 (by decide) hg (by rw [← e])
  have hbel : Below B w w' := (Below.refl B w).grown gr h.le fun k hk => (h.h3.lt k hk).1
  have far : ∀ k, k ≠ r → (w'.setCell ⟨r, 2, none⟩ x).heap[k]? = w'.heap[k]? := fun k hk => Below.heap_setCell w' ⟨r, 2, none⟩ x k hk
  have nr : ∀ {T : TypeId} {u : Value}, (∀ b, u.ownBlock = some b → ∃ cur, w'.heap[b]? = some (.cells cur T (0, 0))) → T ≠ 30 → ∀ g, u.ownBlock = some g → g ≠ r := fun hu hT g hg e => by
    obtain ⟨cur, hc⟩ := hu g hg
    subst e
    have := hbk
    unfold Bk at this
    rw [this] at hc
    injection hc with hc
    injection hc with _ hc
    exact hT hc.symm
  have hlen : (S.D ++ [y]).length = S.D.length + 1 := by rw [List.length_append]; rfl
  refine ⟨⟨hbk.set_ 2 _, t1.keep fun g hg => far g (nr (fun b hb => t1.ty hb) (by decide) g hg), SL.OT.keep t2 fun g hg => far g (nr (fun b hb => PP.OT.ty t2 hb) (by decide) g hg), o.keep fun g hg => far g (nr (fun b hb => o.ty hb) (by decide) g hg), h.ge, ⟨h.inv.ul, h.inv.ut, hu, hr⟩, Nat.le_trans h.few.1 (Nat.le_succ N), ?_, Nat.le_trans h.few.2.2 (Nat.le_succ N)⟩, hbel.setCell (p := ⟨r, 2, none⟩) h.ge _, (Kr.grown gr ty3 (.inr (.inr (.inr rfl)))).trans (Kr.set hbk 2 _)⟩
  show (S.D ++ [y]).length ≤ N + 1
  have := h.few.2.1
  omega
end
/-- where a text stands, or -1 -/
def atV (o : Option Nat) : Int := match o with | some j => (j : Int) | none => -1
theorem ix_take {T : List Tx} (hn : T.Nodup) (t : Tx) {i : Nat} {y : Tx} (hy : T[i]? = some y) : ixT (T.take (i + 1)) t = if y = t then some i else ixT (T.take i) t := by
  obtain ⟨hi, he⟩ := List.getElem?_eq_some_iff.1 hy
  rw [List.take_add_one, hy]
  by_cases h : y = t
  · subst h
    rw [if_pos rfl]
    have : ixT (T.take i) y = none := by
      rw [ixT_none]
      intro hm
      obtain ⟨j, hj⟩ := List.mem_iff_getElem?.1 hm
      rw [List.getElem?_take] at hj
      split at hj
      · rename_i hji
        obtain ⟨j1, j2⟩ := List.getElem?_eq_some_iff.1 hj
        exact (List.pairwise_iff_getElem.1 hn) j i j1 hi hji (by rw [j2, he])
      · cases hj
    show ixT (T.take i ++ [y]) y = _
    rw [ixT_app _ _ this, if_pos rfl, List.length_take]
    congr 1
    omega
  · rw [if_neg h]
    show ixT (T.take i ++ [y]) t = _
    unfold ixT
    rw [List.findIdx?_append]
    have : (([y] : List Tx).findIdx? fun x => decide (x = t)) = none := by
      rw [List.findIdx?_eq_none_iff]
      intro x hx
      rw [List.mem_singleton] at hx
      subst hx
      simp; exact h
    rw [this]; simp
section
variable {B : Nat} {w w' : World} {r N : Nat} {S : St} {v1 v2 v3 : Value}
theorem has_mem (c : Int) (t : Tx) (S : St) : hasA c t S = true ↔ nm (numA t S) ∈ (nms S.D c).map nm := by
  unfold hasA
  rw [ixN_isSome, List.mem_map]
  constructor
  · intro h; exact ⟨_, h, rfl⟩
  · rintro ⟨k, hk, he⟩
    rw [← nm_inj he]; exact hk
set_option maxHeartbeats 4000000 in
theorem rneed_any (h : RV B w r N S v1 v2 v3) (hN : N ≤ 900000) (c : Int) (t : Tx) :
    Calls Tryd.prog 16 #[ptr r, nV c, .string t] w (RetR B r (N + 2) (neeS c t S) (.tuple #[.string (nm (numA t S)), .bool (!hasA c t S)]) w) := by
  have xr := h.cells.2.1
  have HV := Lib.hid h
  have HM := Lib.hid h.h2
  have HU := Lib.hid h.inv.ut
  have HIN := Lib.hid (h.inv.num t)
  have HIE := Lib.hid (h.inv.nee c t)
  have HL : Hid (S.T.length ≤ 1000000) := Lib.hid (Nat.le_trans h.few.2.2 (by omega))
  have HNN := Lib.hid hN
  have HHM := Lib.hid (has_mem c t S)
  have HK : Hid (numA t S ≤ 1000001) := Lib.hid (by have := (numA_le t S).2; have := HL.out; omega)
  have HDG := Lib.hid (fun W => rDigits_any (numA t S) (by have := HK.out; omega) W)
  have HCAT := Lib.hid (cat_nm (Lib.decDigits (numA t S)))
  have hz : nm (numA t S) = ⟨(115 :: Lib.decDigits (numA t S)).toArray⟩ := rfl
  have HDL : Hid ((Lib.decDigits (numA t S)).length ≤ 20) := Lib.hid (by rw [Lib.decDigits_length]; exact Lib.nDigits_le20 _ (by have := HK.out; omega))
  unfold RetR
  obtain ⟨a1, q1, rfl⟩ := h.h2.ts.form
  obtain ⟨z, hzz⟩ : ∃ z, nm (numA t S) = z := ⟨_, rfl⟩
  have HZZ : Hid (∀ k, numA t S = k → nm k = z) := Lib.hid (by rintro k rfl; exact hzz)
  rw [hzz] at HHM ⊢
  rw [← hz, hzz] at HCAT
  generalize Lib.decDigits (numA t S) = DG at *
  clear h hN hz
  go_enter Tryd.func16, Tryd.ntmps16
  go_wp2
  go_loopg [8, 9] S.T.length (fun gk u8 u9 wx => ∃ i : Nat, u9 = .int .i64 (i : Int) ∧ i + gk = S.T.length ∧ u8 = .int .i64 (atV (ixT (S.T.take i) t)) ∧ w = wx)
  case atStart => exact ⟨0, rfl, by omega, rfl, rfl⟩
  case round =>
    obtain ⟨i, rfl, hi, rfl, rfl⟩ := hrel
    cases gk with
    | succ gk =>
      have hlt : i < S.T.length := by omega
      obtain ⟨y, hy⟩ : ∃ y, S.T[i]? = some y := ⟨_, List.getElem?_eq_getElem hlt⟩
      obtain ⟨g, off, cap, he, hc, hat⟩ := tx_at HM.out.ts hy
      injection he with e1 e2 e3
      subst e1 e3
      have y0 := hat w (Below.refl _ _)
      have l0 : (0 : Int) ≤ (i : Int) := by omega
      have l1 : (i : Int) < (S.T.length : Int) := by omega
      obtain ⟨i1, hi1⟩ : ∃ k, i + 1 = k := ⟨_, rfl⟩
      have wk : IntKind.i64.wrap ((i : Int) + 1) = (i1 : Int) := by rw [show (i : Int) + 1 = (i1 : Int) by omega]; exact IntWalk.i64_in _ (by have := HL.out; omega)
      have HI1 : Hid (i1 + gk = S.T.length) := Lib.hid (by omega)
      have htk := ix_take HU.out t hy
      rw [hi1] at htk
      obtain ⟨at0, hat0⟩ : ∃ x, atV (ixT (S.T.take i) t) = x := ⟨_, rfl⟩
      rw [hat0]
      clear hi hlt hc hat hi1 e2
      by_cases hyt : y = t
      · rw [if_pos hyt] at htk
        have HTK := Lib.hid (show Value.int .i64 (i : Int) = Value.int .i64 (atV (ixT (S.T.take i1) t)) by rw [htk]; rfl)
        have es : (y.toList == t.toList) = true := by rw [tl_dec]; exact decide_eq_true hyt
        clear htk hyt hy hat0
        go_wp2
        go_roundg gk
        case measure => exact Nat.lt_succ_self _
        case rel => exact ⟨i1, rfl, HI1.out, HTK.out, rfl⟩
      · rw [if_neg hyt] at htk
        have HTK := Lib.hid (show Value.int .i64 at0 = Value.int .i64 (atV (ixT (S.T.take i1) t)) by rw [htk, hat0])
        have es : (y.toList == t.toList) = false := by rw [tl_dec]; exact decide_eq_false hyt
        clear htk hyt hy hat0
        go_wp2
        go_roundg gk
        case measure => exact Nat.lt_succ_self _
        case rel => exact ⟨i1, rfl, HI1.out, HTK.out, rfl⟩
    | zero =>
      have l1 : ¬ ((i : Int) < (S.T.length : Int)) := by omega
      rw [show i = S.T.length by omega] at *
      rw [List.take_length]
      clear hi
      cases hix : ixT S.T t with
      | some j =>
        have l2 : ¬ ((j : Int) < 0) := by omega
        have hk1 : numA t S = j + 1 := by unfold numA; rw [hix]; rfl
        have hS : numS t S = S := by unfold numS; rw [hix]; rfl
        obtain ⟨k, hk⟩ : ∃ k, numA t S = k := ⟨_, rfl⟩
        rw [hk] at hk1 HK HDG
        have wk : IntKind.i64.wrap ((j : Int) + 1) = (k : Int) := by rw [show (j : Int) + 1 = (k : Int) by omega]; exact IntWalk.i64_in _ (by have := HK.out; omega)
        have HVX : Hid (RV B w r (N + 1) (numS t S) v1 _ v3) := Lib.hid (by
          rw [hS]
          exact ⟨HV.out.bk, HV.out.h1, HV.out.h2, HV.out.h3, HV.out.ge, HV.out.inv, Nat.le_trans HV.out.few.1 (Nat.le_succ N), Nat.le_trans HV.out.few.2.1 (Nat.le_succ N), Nat.le_trans HV.out.few.2.2 (Nat.le_succ N)⟩)
        have HFX : Hid (Fk B w w) := Lib.hid (Fk.refl _ _)
        have HKK := Lib.hid hk
        have HKB := HK
        clear hk1 hS hix hk
        rw [show atV (some j) = (j : Int) from rfl]
        go_wp2_with fail
        refine (HDG.out _).mono ?_
        rintro e w6 ⟨rfl, hb6⟩
        have HV6 := Lib.hid (HVX.out.below hb6)
        have HF6 := Lib.hid (HFX.out.trans (Fk.below hb6 HVX.out.le))
        have hcat := HCAT.out
        have hdl := HDL.out
        have HHS := Lib.hid (rhas_any HV6.out (by have := HNN.out; omega) c)
        clear hb6
        go_wp2_with fail
        refine HHS.out.mono ?_
        rintro e w7 ⟨v7, rfl, ho7, hb7⟩
        have HV7 := Lib.hid (HV6.out.below hb7)
        have HF7 := Lib.hid (HF6.out.trans (Fk.below hb7 HV6.out.le))
        obtain ⟨d, hd⟩ : ∃ d, (nms S.D c).map nm = d := ⟨_, rfl⟩
        have hd2 : (nms (numS t S).D c).map nm = d := hd
        rw [hd2] at ho7
        have HMM := Lib.hid HHM.out
        rw [hd] at HMM
        have HDLEN : Hid (d.length ≤ 1000001) := Lib.hid (by rw [← hd, List.length_map]; exact Nat.le_trans (nms_len _ _) (Nat.le_trans HV.out.few.2.1 (by have := HNN.out; omega)))
        have HO7 := Lib.hid ho7
        obtain ⟨a7, q7, rfl⟩ := ho7.ts.form
        clear ho7 hb7 hd hd2 hcat HHS
        go_wp2
        go_loopg [12] d.length (fun gk u12 wx => ∃ i : Nat, u12 = .int .i64 (i : Int) ∧ i + gk = d.length ∧ Hid (z ∉ d.take i) ∧ w7 = wx)
        case atStart => exact ⟨0, rfl, by omega, Lib.hid (by simp), rfl⟩
        case round =>
          obtain ⟨i, rfl, hi, HZ, rfl⟩ := hrel
          cases gk with
          | succ gk =>
            have hlt : i < d.length := by omega
            obtain ⟨y, hy⟩ : ∃ y, d[i]? = some y := ⟨_, List.getElem?_eq_getElem hlt⟩
            obtain ⟨g, off, cap, he, hc, hat⟩ := tx_at HO7.out.ts hy
            injection he with e1 e2 e3
            subst e1 e3
            have y0 := hat w7 (Below.refl _ _)
            have l0 : (0 : Int) ≤ (i : Int) := by omega
            have l3 : (i : Int) < (d.length : Int) := by omega
            obtain ⟨i1, hi1⟩ : ∃ k, i + 1 = k := ⟨_, rfl⟩
            have wk2 : IntKind.i64.wrap ((i : Int) + 1) = (i1 : Int) := by rw [show (i : Int) + 1 = (i1 : Int) by omega]; exact IntWalk.i64_in _ (by have := HDLEN.out; omega)
            have HI1 : Hid (i1 + gk = d.length) := Lib.hid (by omega)
            by_cases hyz : y = z
            · subst hyz
              have hh : hasA c t S = true := HMM.out.2 (List.mem_of_getElem? hy)
              have HRT : Hid (RBk B w7 r (N + 2) (neeS c t S)) := Lib.hid (by
                have e1 : neeS c t S = numS t S := by unfold neeS; rw [if_pos hh]; rfl
                rw [e1]
                exact RBk.mono ⟨_, _, _, HV7.out⟩ (Nat.le_succ _))
              have HH := Lib.hid hh
              have es : (y.toList == y.toList) = true := by simp
              clear hi hlt hy hc hat hi1 e2 hh
              go_wp2
              go_ret2
              exact ⟨by rw [HH.out]; rfl, HRT.out, HF7.out⟩
            · have es : (y.toList == z.toList) = false := by rw [tl_dec]; exact decide_eq_false hyz
              have HZ1 : Hid (z ∉ d.take i1) := Lib.hid (by
                rw [← hi1, List.take_add_one, hy]
                intro hm
                rcases List.mem_append.1 hm with hm | hm
                · exact HZ.out hm
                · have := List.mem_singleton.1 hm
                  exact hyz this.symm)
              clear hi hlt hy hc hat hi1 e2 hyz
              go_wp2
              go_roundg gk
              case measure => exact Nat.lt_succ_self _
              case rel => exact ⟨i1, rfl, HI1.out, HZ1, rfl⟩
          | zero =>
            have l3 : ¬ ((i : Int) < (d.length : Int)) := by omega
            have hzd : z ∉ d := by
              have := HZ.out
              rw [show i = d.length by omega, List.take_length] at this
              exact this
            have hh : hasA c t S = false := Bool.eq_false_iff.2 fun e => hzd (HMM.out.1 e)
            have hne : neeS c t S = { numS t S with D := (numS t S).D ++ [(c, k)] } := by
              unfold neeS
              rw [if_neg (by rw [hh]; simp), HKK.out]; rfl
            have HNE := Lib.hid hne
            have HIV := Lib.hid HIE.out
            rw [hne] at HIV
            have HH := Lib.hid hh
            have x7 := HV7.out.cells.2.2
            obtain ⟨pa, pc, hp3⟩ := HV7.out.h3.form
            subst hp3
            obtain ⟨W8, hW8⟩ : ∃ W, w7.alloc (.cells #[nV c, .string z] 69) = W := ⟨_, rfl⟩
            obtain ⟨nb8, hnb8⟩ : ∃ b, w7.heap.size = b := ⟨_, rfl⟩
            have hb8 : Below w7.heap.size w7 W8 := by rw [← hW8]; exact (Below.refl _ _).alloc (Nat.le_refl _) _
            have HK8 : Hid (Bk W8 nb8 69 #[nV (c, k).1, .string (nm (c, k).2)]) := Lib.hid (by rw [← hW8, ← hnb8]; show Bk _ _ _ #[nV c, .string (nm k)]; rw [HZZ.out k HKK.out]; exact Bk.new _ _ _)
            have HV8 := Lib.hid (HV7.out.below hb8)
            have HF8 := Lib.hid (HF7.out.trans (Fk.below hb8 HV7.out.le))
            have HDD : Hid ((numS t S).D.length ≤ 1000000) := Lib.hid (Nat.le_trans HV.out.few.2.1 (by have := HNN.out; omega))
            clear hi hzd hh hne hb8
            go_wp2_with (at_builtin; refine wpList_app_OC B (.slice pa (numS t S).D.length pc) (numS t S).D (c, k) nb8 rfl _ _ rfl rfl HV8.out.h3 rfl HK8.out (by have := HDD.out; omega) HV8.out.le ?_; intro g9 cap9 w9 o9 gr9; (have hbk9 := Bk.row HV8.out.bk gr9 (fun b hb => HV8.out.h3.ty hb) (by decide)); (have x9 := hbk9.cell 2); (have f9 := hbk9.frozen 2); (rw [List.length_append]))
            have ho9 : OC B w9 (.slice g9 ((numS t S).D.length + 1) cap9) ((numS t S).D ++ [(c, k)]) := by have := o9; rw [List.length_append] at this; exact this
            have hap := HV8.out.appD gr9 ho9 HIV.out.ud HIV.out.nr
            have HRT : Hid (RBk B (w9.setCell ⟨r, 2, none⟩ (.slice g9 ((numS t S).D.length + 1) cap9)) r (N + 2) (neeS c t S)) := Lib.hid (by rw [HNE.out]; exact ⟨_, _, _, hap.1⟩)
            have HF9 : Hid (Fk B w (w9.setCell ⟨r, 2, none⟩ (.slice g9 ((numS t S).D.length + 1) cap9))) := Lib.hid (HF8.out.trans hap.2)
            try clear hW8 hnb8
            clear o9 gr9 hbk9 hap ho9
            go_wp2
            go_ret2
            exact ⟨by rw [HH.out]; rfl, HRT.out, HF9.out⟩
      | none =>
        rw [show atV none = -1 from rfl]
        have l2 : ((-1 : Int) < 0) := by omega
        have hk1 : numA t S = S.T.length + 1 := by unfold numA; rw [hix]; rfl
        have hS : numS t S = { S with T := S.T ++ [t] } := by unfold numS; rw [hix]; rfl
        obtain ⟨k, hk⟩ : ∃ k, numA t S = k := ⟨_, rfl⟩
        rw [hk] at hk1 HK HDG
        have wk : IntKind.i64.wrap ((S.T.length : Int) + 1) = (k : Int) := by rw [show (S.T.length : Int) + 1 = (k : Int) by omega]; exact IntWalk.i64_in _ (by have := HK.out; omega)
        have HKK := Lib.hid hk
        have HKB := HK
        have HSS := Lib.hid hS
        have HUT : Hid ((S.T ++ [t]).Nodup) := Lib.hid (by have := HIN.out.ut; rw [hS] at this; exact this)
        obtain ⟨W4, hW4⟩ : ∃ W, w.alloc (.cells #[.string t] 9) = W := ⟨_, rfl⟩
        obtain ⟨nb, hnb⟩ : ∃ b, w.heap.size = b := ⟨_, rfl⟩
        have hb4 : Below w.heap.size w W4 := by rw [← hW4]; exact (Below.refl _ _).alloc (Nat.le_refl _) _
        have HK4 : Hid (Bk W4 nb 9 #[.string t]) := Lib.hid (by rw [← hW4, ← hnb]; exact Bk.new _ _ _)
        have HV4 := Lib.hid (HV.out.below hb4)
        have HF4 : Hid (Fk B w W4) := Lib.hid (Fk.below hb4 HV.out.le)
        clear hk1 hS hix hk hb4
        go_wp2_with (at_builtin; refine wpList_app_text B (.slice a1 S.T.length q1) S.T t nb rfl _ _ rfl rfl HV4.out.h2 rfl HK4.out (by have := HL.out; omega) HV4.out.le ?_; intro g5 cap5 w5 o5 gr5; (have hbk5 := Bk.row HV4.out.bk gr5 (fun b hb => PP.OT.ty HV4.out.h2 hb) (by decide)); (have x5 := hbk5.cell 1); (have f5 := hbk5.frozen 1))
        have hap := HV4.out.appT gr5 o5 HUT.out
        have HVX : Hid (RV B (w5.setCell ⟨r, 1, none⟩ (.slice (some ⟨g5, 0, none⟩) (S.T.length + 1) cap5)) r (N + 1) (numS t S) v1 (.slice (some ⟨g5, 0, none⟩) (S.T.length + 1) cap5) v3) := Lib.hid (by rw [HSS.out]; exact hap.1)
        have HFX : Hid (Fk B w (w5.setCell ⟨r, 1, none⟩ (.slice (some ⟨g5, 0, none⟩) (S.T.length + 1) cap5))) := Lib.hid (HF4.out.trans hap.2)
        try clear hW4 hnb
        clear o5 gr5 hbk5 hap
        go_wp2_with fail
        refine (HDG.out _).mono ?_
        rintro e w6 ⟨rfl, hb6⟩
        have HV6 := Lib.hid (HVX.out.below hb6)
        have HF6 := Lib.hid (HFX.out.trans (Fk.below hb6 HVX.out.le))
        have hcat := HCAT.out
        have hdl := HDL.out
        have HHS := Lib.hid (rhas_any HV6.out (by have := HNN.out; omega) c)
        clear hb6
        go_wp2_with fail
        refine HHS.out.mono ?_
        rintro e w7 ⟨v7, rfl, ho7, hb7⟩
        have HV7 := Lib.hid (HV6.out.below hb7)
        have HF7 := Lib.hid (HF6.out.trans (Fk.below hb7 HV6.out.le))
        obtain ⟨d, hd⟩ : ∃ d, (nms S.D c).map nm = d := ⟨_, rfl⟩
        have hd2 : (nms (numS t S).D c).map nm = d := hd
        rw [hd2] at ho7
        have HMM := Lib.hid HHM.out
        rw [hd] at HMM
        have HDLEN : Hid (d.length ≤ 1000001) := Lib.hid (by rw [← hd, List.length_map]; exact Nat.le_trans (nms_len _ _) (Nat.le_trans HV.out.few.2.1 (by have := HNN.out; omega)))
        have HO7 := Lib.hid ho7
        obtain ⟨a7, q7, rfl⟩ := ho7.ts.form
        clear ho7 hb7 hd hd2 hcat HHS
        go_wp2
        go_loopg [12] d.length (fun gk u12 wx => ∃ i : Nat, u12 = .int .i64 (i : Int) ∧ i + gk = d.length ∧ Hid (z ∉ d.take i) ∧ w7 = wx)
        case atStart => exact ⟨0, rfl, by omega, Lib.hid (by simp), rfl⟩
        case round =>
          obtain ⟨i, rfl, hi, HZ, rfl⟩ := hrel
          cases gk with
          | succ gk =>
            have hlt : i < d.length := by omega
            obtain ⟨y, hy⟩ : ∃ y, d[i]? = some y := ⟨_, List.getElem?_eq_getElem hlt⟩
            obtain ⟨g, off, cap, he, hc, hat⟩ := tx_at HO7.out.ts hy
            injection he with e1 e2 e3
            subst e1 e3
            have y0 := hat w7 (Below.refl _ _)
            have l0 : (0 : Int) ≤ (i : Int) := by omega
            have l3 : (i : Int) < (d.length : Int) := by omega
            obtain ⟨i1, hi1⟩ : ∃ k, i + 1 = k := ⟨_, rfl⟩
            have wk2 : IntKind.i64.wrap ((i : Int) + 1) = (i1 : Int) := by rw [show (i : Int) + 1 = (i1 : Int) by omega]; exact IntWalk.i64_in _ (by have := HDLEN.out; omega)
            have HI1 : Hid (i1 + gk = d.length) := Lib.hid (by omega)
            by_cases hyz : y = z
            · subst hyz
              have hh : hasA c t S = true := HMM.out.2 (List.mem_of_getElem? hy)
              have HRT : Hid (RBk B w7 r (N + 2) (neeS c t S)) := Lib.hid (by
                have e1 : neeS c t S = numS t S := by unfold neeS; rw [if_pos hh]; rfl
                rw [e1]
                exact RBk.mono ⟨_, _, _, HV7.out⟩ (Nat.le_succ _))
              have HH := Lib.hid hh
              have es : (y.toList == y.toList) = true := by simp
              clear hi hlt hy hc hat hi1 e2 hh
              go_wp2
              go_ret2
              exact ⟨by rw [HH.out]; rfl, HRT.out, HF7.out⟩
            · have es : (y.toList == z.toList) = false := by rw [tl_dec]; exact decide_eq_false hyz
              have HZ1 : Hid (z ∉ d.take i1) := Lib.hid (by
                rw [← hi1, List.take_add_one, hy]
                intro hm
                rcases List.mem_append.1 hm with hm | hm
                · exact HZ.out hm
                · have := List.mem_singleton.1 hm
                  exact hyz this.symm)
              clear hi hlt hy hc hat hi1 e2 hyz
              go_wp2
              go_roundg gk
              case measure => exact Nat.lt_succ_self _
              case rel => exact ⟨i1, rfl, HI1.out, HZ1, rfl⟩
          | zero =>
            have l3 : ¬ ((i : Int) < (d.length : Int)) := by omega
            have hzd : z ∉ d := by
              have := HZ.out
              rw [show i = d.length by omega, List.take_length] at this
              exact this
            have hh : hasA c t S = false := Bool.eq_false_iff.2 fun e => hzd (HMM.out.1 e)
            have hne : neeS c t S = { numS t S with D := (numS t S).D ++ [(c, k)] } := by
              unfold neeS
              rw [if_neg (by rw [hh]; simp), HKK.out]; rfl
            have HNE := Lib.hid hne
            have HIV := Lib.hid HIE.out
            rw [hne] at HIV
            have HH := Lib.hid hh
            have x7 := HV7.out.cells.2.2
            obtain ⟨pa, pc, hp3⟩ := HV7.out.h3.form
            subst hp3
            obtain ⟨W8, hW8⟩ : ∃ W, w7.alloc (.cells #[nV c, .string z] 69) = W := ⟨_, rfl⟩
            obtain ⟨nb8, hnb8⟩ : ∃ b, w7.heap.size = b := ⟨_, rfl⟩
            have hb8 : Below w7.heap.size w7 W8 := by rw [← hW8]; exact (Below.refl _ _).alloc (Nat.le_refl _) _
            have HK8 : Hid (Bk W8 nb8 69 #[nV (c, k).1, .string (nm (c, k).2)]) := Lib.hid (by rw [← hW8, ← hnb8]; show Bk _ _ _ #[nV c, .string (nm k)]; rw [HZZ.out k HKK.out]; exact Bk.new _ _ _)
            have HV8 := Lib.hid (HV7.out.below hb8)
            have HF8 := Lib.hid (HF7.out.trans (Fk.below hb8 HV7.out.le))
            have HDD : Hid ((numS t S).D.length ≤ 1000000) := Lib.hid (Nat.le_trans HV.out.few.2.1 (by have := HNN.out; omega))
            clear hi hzd hh hne hb8
            go_wp2_with (at_builtin; refine wpList_app_OC B (.slice pa (numS t S).D.length pc) (numS t S).D (c, k) nb8 rfl _ _ rfl rfl HV8.out.h3 rfl HK8.out (by have := HDD.out; omega) HV8.out.le ?_; intro g9 cap9 w9 o9 gr9; (have hbk9 := Bk.row HV8.out.bk gr9 (fun b hb => HV8.out.h3.ty hb) (by decide)); (have x9 := hbk9.cell 2); (have f9 := hbk9.frozen 2); (rw [List.length_append]))
            have ho9 : OC B w9 (.slice g9 ((numS t S).D.length + 1) cap9) ((numS t S).D ++ [(c, k)]) := by have := o9; rw [List.length_append] at this; exact this
            have hap := HV8.out.appD gr9 ho9 HIV.out.ud HIV.out.nr
            have HRT : Hid (RBk B (w9.setCell ⟨r, 2, none⟩ (.slice g9 ((numS t S).D.length + 1) cap9)) r (N + 2) (neeS c t S)) := Lib.hid (by rw [HNE.out]; exact ⟨_, _, _, hap.1⟩)
            have HF9 : Hid (Fk B w (w9.setCell ⟨r, 2, none⟩ (.slice g9 ((numS t S).D.length + 1) cap9))) := Lib.hid (HF8.out.trans hap.2)
            try clear hW8 hnb8
            clear o9 gr9 hbk9 hap ho9
            go_wp2
            go_ret2
            exact ⟨by rw [HH.out]; rfl, HRT.out, HF9.out⟩
end
end Go.Proofs.YtkifmhdceobfhaaDoor.PP
