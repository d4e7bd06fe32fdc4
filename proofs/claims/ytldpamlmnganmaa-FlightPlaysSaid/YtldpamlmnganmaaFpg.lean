/- The document's Leave. Conditions: how many. -/
import Derived.Test.YtldpamlmnganmaaFpf
namespace Go.Proofs.Ytldpamlmnganmaa.FL
open Go.ChangeShapes Go.WideShapes Go.ChangeAt Go.RowKit Go.Maps Go.ChangeMaps
open Go.Proofs.Ytldpamlmnganmaa.SL
set_option maxRecDepth 100000
set_option linter.unusedVariables false
set_option linter.unusedSimpArgs false

/-- one row has another list -/
theorem RT.setRow {B : Nat} {w : World} {r g n cap i : Nat} {X : List Xr} {k : Ky} {u0 u : Value} {l0 l : List Int} (hbk : Bk w r 28 #[.slice (some ⟨g, 0, none⟩) n cap]) (hn : X.length = n) (hown : OX B w (.slice (some ⟨g, 0, none⟩) n cap) X)
    (hit : ∀ j y, j ≠ i → X[j]? = some y → OI B w y.2.1 y.2.2 ∧ y.2.2 ≠ []) (hi : X[i]? = some (k, u0, l0)) (hou : OI B w u l) (hne : l ≠ []) (hap : ∀ (j : Nat) y, j ≠ i → X[j]? = some y → y.2.1.ownBlock ≠ u.ownBlock) (hpp : X.Pairwise fun x y => x.2.1.ownBlock ≠ y.2.1.ownBlock) (hbg : B ≤ r) :
    RT B (w.setCell ⟨g, i * 5 + 4, none⟩ u) r (X.set i (k, u, l)) (.slice (some ⟨g, 0, none⟩) n cap) := by
  obtain ⟨cur, fr, hg⟩ := own_ty hown (b := g) rfl
  have hne2 : ∀ {b : Nat} {cs : Array Value} {t : TypeId} {f : Nat × Nat}, w.heap[b]? = some (.cells cs t f) → t ≠ 76 → b ≠ g := fun hb ht e => by
    subst e
    rw [hg] at hb
    injection hb with hb
    injection hb with _ hb _
    exact ht hb.symm
  have hkeep : ∀ b, b ≠ g → (w.setCell ⟨g, i * 5 + 4, none⟩ u).heap[b]? = w.heap[b]? := fun b hb => Below.heap_setCell _ _ _ _ hb
  have hkI : ∀ {v : Value} {d : List Int}, OI B w v d → OI B (w.setCell ⟨g, i * 5 + 4, none⟩ u) v d := fun h => OI.keep h fun q hq => hkeep q (by
    obtain ⟨c2, f2, h2⟩ := own_ty h hq
    exact hne2 h2 (by decide))
  have hlt : i < X.length := (List.getElem?_eq_some_iff.1 hi).1
  refine ⟨hbk.heap (hkeep r (hne2 hbk (by decide))), ?_, fun x hx => ?_, ?_, hbg⟩
  · rw [List.length_set, ← rCs_set X i _ hi u l, hn]
    have := (World.ownsRow.stored (show w.ownsRow B 76 5 (.slice (some ⟨g, 0, none⟩) n cap) n (rCs X) by rw [← hn]; rw [← hn] at hown; exact hown) (i * 5 + 4) u).1
    exact this
  · obtain ⟨j, hj, e⟩ := List.mem_iff_getElem.1 hx
    rw [List.length_set] at hj
    rw [List.getElem_set] at e
    split at e
    · subst e; exact ⟨hkI hou, hne⟩
    · rename_i hij
      have h9 := hit j x (fun e2 => hij e2.symm) (by rw [List.getElem?_eq_getElem hj, e])
      exact ⟨hkI h9.1, h9.2⟩
  · rw [List.pairwise_iff_getElem]
    intro p q hp hq hpq
    rw [List.length_set] at hp hq
    have h0 := (List.pairwise_iff_getElem.1 hpp) p q hp hq hpq
    rw [List.getElem_set, List.getElem_set]
    by_cases e1 : i = p
    · rw [if_pos e1, if_neg (by omega)]
      exact fun e => hap q _ (by omega) (List.getElem?_eq_getElem hq) e.symm
    · rw [if_neg e1]
      by_cases e2 : i = q
      · rw [if_pos e2]
        exact hap p _ (by omega) (List.getElem?_eq_getElem hp)
      · rw [if_neg e2]; exact h0
theorem pl_set (X : List Xr) (i : Nat) (k : Ky) (u : Value) (l : List Int) : pl (X.set i (k, u, l)) = (pl X).set i (k, l) := by unfold pl; rw [List.map_set]
/-- what is told of a leaving, with what is left -/
def LvP (B r : Nat) (R : List Fl × List Int × Bool) (w : World) (e : Ending) (w' : World) : Prop := ∃ v, e = .returned (.tuple #[v, .bool R.2.2]) ∧ IS w' v R.2.1 ∧ RS B r R.1 w w' ∧ Ki w w'
set_option maxHeartbeats 16000000 in
theorem rleave_any {B r : Nat} {w : World} {S : List Fl} {X : List Xr} {v : Value} (h : RT B w r X v) (hp : pl X = S) (hs : Sm S) (c : Int) :
    Calls Try.prog 17 #[ptr r, .int .i64 c] w (LvP B r (leaveS S c) w) := by
  have hB : B ≤ w.heap.size := Nat.le_trans h.bg (Nat.le_of_lt h.bk.lt)
  have HBB := Lib.hid hB
  have HOF := Lib.hid (rof_any h (hs.x hp).1 c (hs.x hp).2)
  rw [hp] at HOF
  cases hpo : pos (hasC c) S with
  | none =>
    rw [leave_none S c (ofF_npos hpo)]
    rw [hpo] at HOF
    have HOG : Hid (Calls Try.prog 28 #[ptr r, .int .i64 c] w fun e w' => e = .returned (.int .i64 (-1)) ∧ w = w') := HOF
    have HRB := Lib.hid (show RB B w r S from ⟨X, v, h, hp⟩)
    clear HOF h hp hs hpo hB
    go_enter Try.func17, Try.ntmps17
    go_wp2_with fail
    refine HOG.out.mono ?_
    rintro e w2 ⟨rfl, rfl⟩
    go_wp2
    go_ret2
    exact ⟨_, rfl, IS.nil _, ⟨HRB.out, Below.refl _ _, Kr.refl _⟩, fun _ _ _ _ => rfl⟩
  | some i =>
    obtain ⟨t, hSi, hf, hct⟩ := ofF_pos hpo
    obtain ⟨k, l⟩ := t
    obtain ⟨u, hxi⟩ := RT.pick (X := X) (by rw [hp]; exact hSi)
    simp only at hxi
    obtain ⟨n, hn⟩ : ∃ n, X.length = n := ⟨_, rfl⟩
    have hin : i < n := by rw [← hn]; exact (List.getElem?_eq_some_iff.1 hxi).1
    have hn5 : n ≤ 100000 := by rw [← hn]; exact (hs.x hp).1
    have l0 : (0 : Int) ≤ (i : Int) := by omega
    have l1 : (i : Int) < (n : Int) := by omega
    have l2 : ¬ ((i : Int) < 0) := by omega
    rw [hpo] at HOF
    have HOG : Hid (Calls Try.prog 28 #[ptr r, .int .i64 c] w fun e w' => e = .returned (.int .i64 (i : Int)) ∧ w = w') := HOF
    clear HOF
    have hl3 : l.length ≤ 1000000 := (hs.x hp).2 _ (List.mem_of_getElem? hxi)
    have hnd : l.Nodup := hs.nd _ (List.mem_of_getElem? hSi)
    have hct : c ∈ l := hct
    have hr9 := (h.below (Below.refl _ w))
    obtain ⟨g, cap, hv, hx⟩ := hr9.at_ hxi
    have hn9 : X.length = n := hn
    rw [hn9] at hv
    subst hv
    obtain ⟨hoi, hne⟩ := hr9.list hxi
    obtain ⟨lb, lc, hlv, hlc, hcl⟩ := OI.inv hoi hne
    simp only at hlv hlc hcl
    subst hlv
    have c0 : w.cell? ⟨r, 0, none⟩ = some (.slice (some ⟨g, 0, none⟩) n cap) := by exact hr9.bk.cell 0
    have x0 : w.cell? ⟨g, i * 5, none⟩ = some (.string k.1) := hx 0 _ rfl
    have x1 : w.cell? ⟨g, i * 5 + 1, none⟩ = some (.string k.2.1) := hx 1 _ rfl
    have x2 : w.cell? ⟨g, i * 5 + 2, none⟩ = some (.int .i64 k.2.2.1) := hx 2 _ rfl
    have x3 : w.cell? ⟨g, i * 5 + 3, none⟩ = some (.string k.2.2.2) := hx 3 _ rfl
    have x4 : w.cell? ⟨g, i * 5 + 4, none⟩ = some (.slice (some ⟨lb, 0, none⟩) l.length lc) := hx 4 _ rfl
    have HXI := Lib.hid hxi
    have HN := Lib.hid hn
    have HR9 := Lib.hid hr9
    have HIS := Lib.hid (show IS w (.slice (some ⟨lb, 0, none⟩) l.length lc) l from hoi.is)
    have HPL := Lib.hid (place_any w _ l c HIS.out hl3)
    cases hat : pos (isI c) l with
    | none => exact absurd ((posI_ge l c).2 hct) (by rw [hat]; decide)
    | some at0 =>
      obtain ⟨c', hac, hcc, hfirst⟩ := pos_inv hat
      have hcc : c' = c := of_decide_eq_true hcc
      subst hcc
      rw [hat] at HPL
      have hatl : at0 < l.length := (List.getElem?_eq_some_iff.1 hac).1
      cases at0 with
      | zero =>
        obtain ⟨tl, hlt⟩ : ∃ tl, l = c' :: tl := by
          cases l with
          | nil => simp at hac
          | cons a b => simp at hac; exact ⟨b, by rw [hac]⟩
        have HPM : Hid (Calls Try.prog 34 #[.slice (some ⟨lb, 0, none⟩) l.length lc, .int .i64 c'] w fun e w' => e = .returned (.int .i64 0) ∧ w = w') := HPL
        clear HPL
        have HCL : Hid (pl (X.take i ++ X.drop (i + 1)) = closeS S k) := Lib.hid (by rw [pl_cut hp, close_at hs.wf.keys hSi])
        have e : leaveS S c' = (closeS S k, tl, true) := by
          unfold leaveS
          rw [hf, hlt]
          show (if c' = c' then (closeS S k, tl, true) else _) = _
          rw [if_pos rfl]
        rw [e]
        have HDR := Lib.hid (rdrop_any hr9 (by omega) i (by omega))
        obtain ⟨ln, hln⟩ : ∃ n, l.length = n := ⟨_, rfl⟩
        rw [hln] at x4 HIS hlc HPM
        have HLC : Hid (ln ≤ lc ∧ tl.length + 1 = ln) := Lib.hid ⟨hlc, by rw [← hln, hlt, List.length_cons]⟩
        have HLT := Lib.hid hlt
        have HLN := Lib.hid hln
        clear h hp hs hpo hB hSi hf hct hxi hn hr9 hx hn9 hoi hne hlc hcl hl3 hnd hat hac hfirst hatl e hln hlt x0 x1 x2 x3
        go_enter Try.func17, Try.ntmps17
        go_wp2_with fail
        refine HOG.out.mono ?_
        rintro e w2 ⟨rfl, rfl⟩
        go_wp2_with fail
        refine HPM.out.mono ?_
        rintro e w2 ⟨rfl, rfl⟩
        go_wp2_with fail
        refine HDR.out.mono ?_
        rintro e w3 ⟨rfl, v3, hrt3, hch3, _⟩
        have HIS3 := Lib.hid (HIS.out.ki (chg_ki HR9.out.bk hch3))
        have HRS := Lib.hid (HR9.out.rs hrt3 HCL.out hch3)
        have HKI := Lib.hid (chg_ki HR9.out.bk hch3)
        clear hrt3 hch3 HDR c0 x4
        by_cases hc1 : lc = 1
        · have htl : tl = [] := List.eq_nil_of_length_eq_zero (by have := HLC.out; omega)
          have hl9 : ln = 1 := by have := HLC.out; rw [htl] at this; simp at this; omega
          subst hc1 hl9 htl
          go_wp2
          go_ret2
          exact ⟨_, rfl, .inl ⟨_, _, rfl, rfl⟩, HRS.out, HKI.out⟩
        · have hc2 : ¬ ((lc : Int) = 1) := by omega
          have hc3 : (1 : Int) ≤ (lc : Int) := by have := HLC.out; omega
          have hc4 : (1 : Int) ≤ (ln : Int) := by have := HLC.out; omega
          have hc5 : (ln : Int) ≤ (lc : Int) := by have := HLC.out; omega
          have HTL : Hid (IS w3 (.slice (some ⟨lb, 1, none⟩) (ln - 1) (lc - 1)) tl) := Lib.hid (by
            by_cases h1 : ln = 1
            · have htl : tl = [] := List.eq_nil_of_length_eq_zero (by have := HLC.out; omega)
              rw [h1, htl]
              exact .inl ⟨_, _, rfl, rfl⟩
            · have := HIS3.out.drop 1 (by rw [HLN.out]; have := HLC.out; omega)
              rw [HLT.out] at this
              exact this)
          go_wp2
          go_ret2
          exact ⟨_, rfl, HTL.out, HRS.out, HKI.out⟩
      | succ a0 =>
        obtain ⟨q, hq⟩ : ∃ q, a0 + 1 = q := ⟨_, rfl⟩
        rw [hq] at hac hfirst hatl HPL hat
        have HPM : Hid (Calls Try.prog 34 #[.slice (some ⟨lb, 0, none⟩) l.length lc, .int .i64 c'] w fun e w' => e = .returned (.int .i64 (q : Int)) ∧ w = w') := HPL
        clear HPL
        have hq0 : 0 < q := by omega
        obtain ⟨M, hM⟩ : ∃ M, l.take q = M := ⟨_, rfl⟩
        obtain ⟨D, hD⟩ : ∃ D, l.drop (q + 1) = D := ⟨_, rfl⟩
        obtain ⟨R, hR⟩ : ∃ R, M ++ D = R := ⟨_, rfl⟩
        have hfil : (l.filter fun x => decide (x ≠ c')) = R := by rw [filter_at hnd hac, hM, hD, hR]
        have e : leaveS S c' = (quitS S k c', [], true) := by
          unfold leaveS
          rw [hf]
          show (if l.headD 0 = c' then _ else (quitS S k c', [], true)) = _
          rw [if_neg]
          intro e
          have hm : l.headD 0 ∈ l.take q := by
            cases l with
            | nil => simp at hac
            | cons a b =>
              obtain ⟨q', rfl⟩ : ∃ q', q = q' + 1 := ⟨q - 1, by omega⟩
              simp
          have := hfirst _ hm
          rw [e] at this
          simp [isI] at this
        rw [e]
        have HQS : Hid (S.set i (k, R) = quitS S k c') := Lib.hid (by rw [quit_at hs.wf.keys hSi, hfil])
        have HPX := Lib.hid hp
        obtain ⟨ln, hln⟩ : ∃ n, l.length = n := ⟨_, rfl⟩
        rw [hln] at x4 HIS hlc HPM hatl
        have HMI : Hid (IS w (.slice (some ⟨lb, 0, none⟩) q lc) M) := Lib.hid (by rw [← hM]; exact HIS.out.take q (by omega))
        obtain ⟨q1, hq1⟩ : ∃ x, q + 1 = x := ⟨_, rfl⟩
        have HDX : Hid (q1 < ln → IS w (.slice (some ⟨lb, q1, none⟩) (ln - q1) (lc - q1)) D) := Lib.hid (fun hlt => by
          have := HIS.out.drop (q + 1) (by omega)
          rw [Nat.zero_add, hD, hq1] at this
          exact this)
        have HDN : Hid (¬ q1 < ln → D = []) := Lib.hid (fun hlt => by rw [← hD]; exact List.drop_eq_nil_of_le (by omega))
        have HRR := Lib.hid hR
        have HML : Hid (M.length = q ∧ D.length = ln - q1 ∧ ln ≤ 1000000 ∧ q1 ≤ ln ∧ q < ln ∧ ln ≤ lc ∧ q + 1 = q1 ∧ X.length = n ∧ i < n) := Lib.hid ⟨by rw [← hM, List.length_take]; omega, by rw [← hD, List.length_drop]; omega, by omega, by omega, by omega, hlc, hq1, hn, hin⟩
        have HRN : Hid (R ≠ []) := Lib.hid (by
          intro e
          have : (M ++ D).length = 0 := by rw [hR, e]; rfl
          rw [List.length_append, ← hM, List.length_take] at this
          omega)
        have wk : IntKind.i64.wrap ((q : Int) + 1) = (q1 : Int) := by rw [show (q : Int) + 1 = (q1 : Int) by omega]; exact IntWalk.i64_in _ (by omega)
        have m0 : (0 : Int) ≤ (q : Int) := by omega
        have m1 : (q : Int) ≤ (lc : Int) := by omega
        have m2 : (q : Int) ≤ (ln : Int) := by omega
        have m3 : (q1 : Int) ≤ (ln : Int) := by omega
        have m4 : (0 : Int) ≤ (q1 : Int) := by omega
        have m5 : (ln : Int) ≤ (lc : Int) := by omega
        have m6 : ¬ ((q : Int) = 0) := by omega
        have HKG : Hid (w.ownsRow B 76 5 (.slice (some ⟨g, 0, none⟩) n cap) n (rCs X)) := Lib.hid (by have := hr9.own; rw [hn9] at this; exact this)
        clear h hp hs hpo hB hSi hf hct hxi hn hr9 hx hn9 hoi hne hlc hcl hl3 hnd hat hac hfirst hatl e hln x0 x1 x2 x3 hq hq0 hM hD hR hfil hq1
        have fin : ∀ (w10 : World) (va : Option Addr) (vc : Nat), Below w.heap.size w w10 → OI w.heap.size w10 (.slice va R.length vc) R →
            RS B r (quitS S k c') w (w10.setCell ⟨g, i * 5 + 4, none⟩ (.slice va R.length vc)) ∧ Ki w (w10.setCell ⟨g, i * 5 + 4, none⟩ (.slice va R.length vc)) := fun w10 va vc hb ho => by
          have h9 := HR9.out
          have hbx := h9.below hb
          have hset := RT.setRow (i := i) hbx.bk HML.out.2.2.2.2.2.2.2.1 hbx.own (fun j y _ hy => hbx.list hy) HXI.out (ho.mono HBB.out) HRN.out (fun j y hj hy e => by
            obtain ⟨b, hb9⟩ : ∃ b, (Value.slice va R.length vc).ownBlock = some b := by
              obtain ⟨gg, cc, e9, _⟩ := OI.inv ho HRN.out
              rw [e9]; exact ⟨gg, rfl⟩
            have h1 := (World.ownsRow.lt ho b hb9).1
            have h2 := (World.ownsRow.lt (h9.list hy).1 b (by rw [e]; exact hb9)).2
            omega) h9.ap h9.bg
          have hch : Chg (fun b => b = g) w (w10.setCell ⟨g, i * 5 + 4, none⟩ (.slice va R.length vc)) := (Chg.of_below (S := fun b => b = g) hb).setCell (p := ⟨g, i * 5 + 4, none⟩) rfl _
          have hx : ∀ b, b < w.heap.size → b = g → Xown r X (.slice (some ⟨g, 0, none⟩) n cap) b := fun b _ e => .inr (.inl (by rw [e]; rfl))
          refine ⟨⟨⟨_, _, hset, by rw [pl_set, HPX.out]; exact HQS.out⟩, h9.chg_below HBB.out (hch.mono hx), h9.chg_kr (hch.mono hx)⟩, fun b cs fr hb2 => hch.block b (Array.getElem?_eq_some_iff.1 hb2).1 fun e => ?_⟩
          obtain ⟨cur, f2, h2⟩ := own_ty HKG.out (b := g) rfl
          rw [e, h2] at hb2
          injection hb2 with hb2
          injection hb2 with _ hb2 _
          exact absurd hb2 (by decide)
        have HFIN := Lib.hid fin
        have cellk : ∀ w10, Below w.heap.size w w10 → w10.cell? ⟨r, 0, none⟩ = some (.slice (some ⟨g, 0, none⟩) n cap) ∧ w10.frozen? ⟨g, i * 5 + 4, none⟩ = false ∧ w10.cell? ⟨g, i * 5 + 4, none⟩ = some (.slice (some ⟨lb, 0, none⟩) ln lc) := fun w10 hb =>
          ⟨(hb.cell (p := ⟨r, 0, none⟩) (World.block_lt_of_cell? _ _ c0)).trans c0, World.ownsRow.frozenAt (keepRow HKG.out fun q hq => hb.block q (World.ownsRow.lt HKG.out q hq).2) _, (hb.cell (p := ⟨g, i * 5 + 4, none⟩) (World.block_lt_of_cell? _ _ x4)).trans x4⟩
        have HCK := Lib.hid cellk
        clear fin cellk
        by_cases hlt : q1 < ln
        · have hc1 : ¬ (lc = q1) := by omega
          have hc2 : ¬ ((lc : Int) = (q1 : Int)) := by omega
          have hc3 : (q1 : Int) ≤ (lc : Int) := by omega
          have HD1 := Lib.hid (HDX.out hlt)
          clear hlt HDX HDN
          go_enter Try.func17, Try.ntmps17
          go_wp2_with fail
          refine HOG.out.mono ?_
          rintro e w2 ⟨rfl, rfl⟩
          go_wp2_with fail
          refine HPM.out.mono ?_
          rintro e w2 ⟨rfl, rfl⟩
          go_wp2_with (first | (at_builtin; refine wpList_app_ints w.heap.size (.slice none 0 0) [] _ M M rfl rfl _ _ rfl rfl (OI.nil _ _) rfl HMI.out (by have := HML.out; simp; omega) (Nat.le_refl _) ?_; intro va9 c9 w9 o9 gr9; have b9 : Below w.heap.size w w9 := (by rcases gr9 with gr9 | rfl; exact (Below.refl _ _).grown gr9 (Nat.le_refl _) (fun k hk => by cases hk); exact Below.refl _ _); have HB9 := Lib.hid b9; have HO9 := Lib.hid o9; obtain ⟨t0, t1, t2⟩ := HCK.out w9 b9; clear gr9 b9 o9) | (at_builtin; refine wpList_app_ints w.heap.size (.slice va9 M.length c9) M _ D R HRR.out rfl _ _ rfl rfl HO9.out rfl (HD1.out.below HB9.out) (by have := HML.out; omega) HB9.out.size ?_; intro va10 c10 w10 o10 gr10; have b10 : Below w.heap.size w w10 := (by rcases gr10 with gr10 | rfl; exact HB9.out.grown gr10 HB9.out.size (fun k hk => (World.ownsRow.lt HO9.out k hk).1); exact HB9.out); have HF := Lib.hid (HFIN.out w10 va10 c10 b10 o10); obtain ⟨s0, s1, s2⟩ := HCK.out w10 b10; clear gr10 b10 o10))
          go_wp2
          go_ret2
          exact ⟨_, rfl, IS.nil _, HF.out.1, HF.out.2⟩
        · have hin2 : q1 = ln := by have := HML.out; omega
          have HDE := Lib.hid (HDN.out hlt)
          clear hlt HDX HDN
          subst hin2
          by_cases hc1 : lc = q1
          · have hc2 : ((lc : Int) = (q1 : Int)) := by omega
            subst hc1
            clear hc2
            go_enter Try.func17, Try.ntmps17
            go_wp2_with fail
            refine HOG.out.mono ?_
            rintro e w2 ⟨rfl, rfl⟩
            go_wp2_with fail
            refine HPM.out.mono ?_
            rintro e w2 ⟨rfl, rfl⟩
            go_wp2_with (first | (at_builtin; refine wpList_app_ints w.heap.size (.slice none 0 0) [] _ M M rfl rfl _ _ rfl rfl (OI.nil _ _) rfl HMI.out (by have := HML.out; simp; omega) (Nat.le_refl _) ?_; intro va9 c9 w9 o9 gr9; have b9 : Below w.heap.size w w9 := (by rcases gr9 with gr9 | rfl; exact (Below.refl _ _).grown gr9 (Nat.le_refl _) (fun k hk => by cases hk); exact Below.refl _ _); have HB9 := Lib.hid b9; have HO9 := Lib.hid o9; obtain ⟨t0, t1, t2⟩ := HCK.out w9 b9; clear gr9 b9 o9) | (at_builtin; refine wpList_app_ints w.heap.size (.slice va9 M.length c9) M _ D R HRR.out rfl _ _ rfl rfl HO9.out rfl (.inl ⟨_, _, (by first | rfl | (rw [Nat.sub_self])), HDE.out⟩) (by have := HML.out; omega) HB9.out.size ?_; intro va10 c10 w10 o10 gr10; have b10 : Below w.heap.size w w10 := (by rcases gr10 with gr10 | rfl; exact HB9.out.grown gr10 HB9.out.size (fun k hk => (World.ownsRow.lt HO9.out k hk).1); exact HB9.out); have HF := Lib.hid (HFIN.out w10 va10 c10 b10 o10); obtain ⟨s0, s1, s2⟩ := HCK.out w10 b10; clear gr10 b10 o10))
            go_wp2
            go_ret2
            exact ⟨_, rfl, IS.nil _, HF.out.1, HF.out.2⟩
          · have hc2 : ¬ ((lc : Int) = (q1 : Int)) := by omega
            go_enter Try.func17, Try.ntmps17
            go_wp2_with fail
            refine HOG.out.mono ?_
            rintro e w2 ⟨rfl, rfl⟩
            go_wp2_with fail
            refine HPM.out.mono ?_
            rintro e w2 ⟨rfl, rfl⟩
            go_wp2_with (first | (at_builtin; refine wpList_app_ints w.heap.size (.slice none 0 0) [] _ M M rfl rfl _ _ rfl rfl (OI.nil _ _) rfl HMI.out (by have := HML.out; simp; omega) (Nat.le_refl _) ?_; intro va9 c9 w9 o9 gr9; have b9 : Below w.heap.size w w9 := (by rcases gr9 with gr9 | rfl; exact (Below.refl _ _).grown gr9 (Nat.le_refl _) (fun k hk => by cases hk); exact Below.refl _ _); have HB9 := Lib.hid b9; have HO9 := Lib.hid o9; obtain ⟨t0, t1, t2⟩ := HCK.out w9 b9; clear gr9 b9 o9) | (at_builtin; refine wpList_app_ints w.heap.size (.slice va9 M.length c9) M _ D R HRR.out rfl _ _ rfl rfl HO9.out rfl (.inl ⟨_, _, (by first | rfl | (rw [Nat.sub_self])), HDE.out⟩) (by have := HML.out; omega) HB9.out.size ?_; intro va10 c10 w10 o10 gr10; have b10 : Below w.heap.size w w10 := (by rcases gr10 with gr10 | rfl; exact HB9.out.grown gr10 HB9.out.size (fun k hk => (World.ownsRow.lt HO9.out k hk).1); exact HB9.out); have HF := Lib.hid (HFIN.out w10 va10 c10 b10 o10); obtain ⟨s0, s1, s2⟩ := HCK.out w10 b10; clear gr10 b10 o10))
            go_wp2
            go_ret2
            exact ⟨_, rfl, IS.nil _, HF.out.1, HF.out.2⟩
end Go.Proofs.Ytldpamlmnganmaa.FL
