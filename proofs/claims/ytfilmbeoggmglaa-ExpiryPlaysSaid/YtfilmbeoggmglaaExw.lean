/- ExpirySame: its argument opened; its walk. No condition. -/
import Derived.Test.YtfilmbeoggmglaaExu
namespace Go.Proofs.Ytfilmbeoggmglaa.EX
open Go.ChangeShapes Go.WideShapes Go.ChangeAt Go.RowKit Go.Maps Go.ChangeMaps
open Go.Proofs.Ytfilmbeoggmglaa.SL Go.Proofs.Ytfilmbeoggmglaa.RW
set_option maxRecDepth 100000
set_option linter.unusedVariables false
set_option linter.unusedSimpArgs false

section
variable {H : Type} {enc : TypeId × Value → H} {W : World}
theorem one_txt {n : Nat} {cs : List Value} {x : DataW H × List MemPlace} (ht : DataW.trod enc Try.prog W 0 (fun _ => true) true n 9 cs = some x) : ∃ k : ByteArray, cs = [.string k] := by
  obtain ⟨x1, e1, _, _⟩ := DataW.trod_string Try.underlying9 ht
  exact ⟨x1, e1⟩
def FitsK (W : World) (v : Value) : Prop := ∃ l, TS W v l
theorem openedK {base : Nat} {v : Value} {d : DataW H} {p : List MemPlace} (hv : Value.okWide Try.prog W .any base 33 v)
    (h : DataW.Trod enc Try.prog W 0 (fun _ => true) true 33 v d p) (hz : (DataW.weights Try.prog 33 d).all (· ≤ reachBytes) = true) : FitsK W v := by
  obtain ⟨a, ln, cp, rfl⟩ := okWide_slice Try.underlying33 hv
  obtain ⟨fuel, hf⟩ := h
  rcases slice_any (α := ByteArray) (m := 1) (Q := fun k cs => cs = [.string k]) Try.underlying33 (by kernel_rfl) (fun ht => one_txt ht) hf with e | ⟨l, ad, cap, e, hc, h2⟩
  · rw [e]; exact ⟨[], .inl ⟨_, _, rfl, rfl⟩⟩
  · rw [e]
    refine ⟨l, ?_⟩
    by_cases h0 : l = []
    · subst h0; exact .inl ⟨_, _, rfl, rfl⟩
    · obtain ⟨x, hx0⟩ : ∃ x, l[0]? = some x := ⟨l[0]'(by cases l; exact absurd rfl h0; simp), List.getElem?_eq_getElem _⟩
      obtain ⟨cs, rfl, _, hat⟩ := h2 0 x hx0
      have c0 := hat 0 (by omega)
      have e0 : (ad.add (0 * 1)).add 0 = ad := by simp [Addr.add]
      rw [e0] at c0
      have hsp := spot_none (x := .string x) c0
      obtain ⟨bl, of, sp⟩ := ad
      simp only at hsp
      subst hsp
      refine .inr ⟨bl, of, cap, rfl, hc, fun i y hy => ?_⟩
      obtain ⟨cs, rfl, _, hat⟩ := h2 i y hy
      have a0 := hat 0 (by omega)
      simp only [Addr.add_lit, Nat.add_zero, Nat.mul_one] at a0
      exact a0
end
theorem ts_cell {w : World} {b o n c : Nat} {d : List ByteArray} (h : TS w (.slice (some ⟨b, o, none⟩) n c) d) {i : Nat} {x : ByteArray} (hi : d[i]? = some x) : w.cell? ⟨b, o + i, none⟩ = some (.string x) := by
  rcases h with ⟨_, _, _, rfl⟩ | ⟨g, off, cap, e, _, hx⟩
  · cases hi
  · injection e with e1 _ e3
    injection e1 with e1
    injection e1 with e1 e2
    subst e1 e2
    exact hx i x hi
/-- keys with one deadline -/
def sm (t : Int) (M : List ByteArray) : List It := M.map fun x => (x, t)
def upM (k : ByteArray) (M : List ByteArray) : List ByteArray := M.filter (fun x => decide (x ≠ k))
theorem keys_sm (t : Int) (M : List ByteArray) : keysI (sm t M) = M := by unfold keysI sm; rw [List.map_map]; exact List.map_id _
theorem le_sm {s t : Int} (h : t ≤ s) (M : List ByteArray) : leI s (sm t M) = sm t M := by
  unfold leI; rw [List.filter_eq_self]; intro y hy
  obtain ⟨x, _, rfl⟩ := List.mem_map.1 hy
  simp; omega
theorem gt_sm {s t : Int} (h : t ≤ s) (M : List ByteArray) : gtI s (sm t M) = [] := by
  unfold gtI; rw [List.filter_eq_nil_iff]; intro y hy
  obtain ⟨x, _, rfl⟩ := List.mem_map.1 hy
  simp; omega
theorem le_sm1 {s t : Int} (h : s < t) (M : List ByteArray) : leI s (sm t M) = [] := by
  unfold leI; rw [List.filter_eq_nil_iff]; intro y hy
  obtain ⟨x, _, rfl⟩ := List.mem_map.1 hy
  simp; omega
theorem gt_sm1 {s t : Int} (h : s < t) (M : List ByteArray) : gtI s (sm t M) = sm t M := by
  unfold gtI; rw [List.filter_eq_self]; intro y hy
  obtain ⟨x, _, rfl⟩ := List.mem_map.1 hy
  simp; omega
theorem drop_sm (k : ByteArray) (t : Int) (M : List ByteArray) : dropI k (sm t M) = sm t (upM k M) := by unfold dropI sm upM; rw [List.filter_map]; rfl
theorem set_sm (k : ByteArray) (t : Int) (M : List ByteArray) : setI k t (sm t M) = sm t (upM k M ++ [k]) := by
  unfold setI
  rw [drop_sm, le_sm (Int.le_refl _), gt_sm (Int.le_refl _)]
  unfold sm
  rw [List.map_append]; rfl
theorem up_len (k : ByteArray) (M : List ByteArray) : (upM k M).length ≤ M.length := List.length_filter_le _ _
theorem up_take_ne {k y : ByteArray} {M : List ByteArray} {j : Nat} (h : M[j]? = some y) (hy : y ≠ k) : upM k (M.take (j + 1)) = upM k (M.take j) ++ [y] := by
  unfold upM
  rw [List.take_add_one, h, List.filter_append]
  congr 1
  simp [hy]
theorem up_take_eq {k y : ByteArray} {M : List ByteArray} {j : Nat} (h : M[j]? = some y) (hy : y = k) : upM k (M.take (j + 1)) = upM k (M.take j) := by
  unfold upM
  rw [List.take_add_one, h, List.filter_append]
  simp [hy]
set_option maxHeartbeats 8000000 in
theorem same_any (v0 : Value) (t : Int) (w : World) (ho : FitsK w v0) (ht : 0 ≤ t ∧ t ≤ 65535) :
    Calls Try.prog 6 #[v0, .int .u16 t] w fun e w' => e = .returned (.bool true) ∧ Below w.heap.size w w' := by
  obtain ⟨l, hl⟩ := ho
  obtain ⟨va, vc, rfl⟩ := hl.form
  have HL := Lib.hid hl
  have HT := Lib.hid ht
  have wt : IntKind.i64.wrap t = t := IntWalk.i64_in _ (by omega)
  have wt1 : IntKind.i64.wrap (t - 1) = t - 1 := IntWalk.i64_in _ (by omega)
  clear hl ht
  go_enter Try.func6, Try.ntmps6
  go_wp2_with fail
  refine (lq_new w _ (Below.refl _ _)).mono ?_
  rintro e w1 ⟨g, rfl, h1, _⟩
  have H := Lib.hid h1
  clear h1
  by_cases h60 : l.length ≤ 60
  · have n60 : ¬ ((60 : Int) < (l.length : Int)) := by omega
    have HLL := Lib.hid h60
    clear h60
    go_wp2
    go_loopg [6, 7] l.length (fun gk u6 u7 wx => ∃ (i : Nat) (M : List ByteArray) (a : Option Addr) (c : Nat), u6 = .slice a M.length c ∧ u7 = .int .i64 (i : Int) ∧ i + gk = l.length ∧ M.length ≤ i ∧ (∀ x ∈ M, x.size ≤ 100) ∧ LQ w wx g i (sm t M) [.txt (.slice a M.length c) M])
    case atStart => exact ⟨0, [], none, 0, rfl, rfl, by omega, by simp, (fun x hx => by cases hx), H.out.add (Below.refl _ _) (OT.nil _ _)⟩
    case round =>
      obtain ⟨i, M, a, c, rfl, rfl, hi, hM, hMs, hS⟩ := hrel
      have HMS := Lib.hid hMs
      have H := Lib.hid hS
      cases gk with
      | zero =>
        have l1 : ¬ ((i : Int) < (l.length : Int)) := by omega
        have HM : Hid (M.length ≤ 60 ∧ i ≤ 60) := Lib.hid (by have := HLL.out; omega)
        have HKS : Hid (∀ y ∈ sm t M, y.1.size ≤ 281474976710656) := Lib.hid (fun y hy => by
          obtain ⟨x, hx, rfl⟩ := List.mem_map.1 hy
          have := HMS.out x hx
          show x.size ≤ _
          omega)
        clear hi hM hMs hS
        go_wp2_with fail
        refine (lq_keys H.out (by have := HM.out; omega) M (keys_sm t M)).mono ?_
        rintro e w2 ⟨v2, c2, rfl, hb2, h2⟩
        have H := Lib.hid h2
        clear hb2 h2
        go_wp2_with fail
        refine (lq_texts H.out (H.out.told (List.mem_cons_self ..)).ts (H.out.told (List.mem_cons_of_mem _ (List.mem_cons_self ..))).ts (by have := HM.out; omega) (by have := HM.out; omega) true (by simp)).mono ?_
        rintro e w3 ⟨rfl, m3, hw3⟩
        have H := Lib.hid (H.out.below (bel_drew hw3))
        clear hw3
        go_wp2_with fail
        refine (lq_due H.out (t - 1) HKS.out (by have := HM.out; omega) (sm t M) (gt_sm1 (by omega) M) [] (by rw [le_sm1 (by omega) M]; rfl)).mono ?_
        rintro e w4 ⟨v4, c4, rfl, h4⟩
        have H := Lib.hid h4
        clear h4
        go_wp2_with fail
        refine (lq_due H.out t HKS.out (by have := HM.out; omega) [] (gt_sm (by omega) M) M (by rw [le_sm (by omega) M]; exact keys_sm t M)).mono ?_
        rintro e w5 ⟨v5, c5, rfl, h5⟩
        have H := Lib.hid h5
        clear h5
        go_wp2_with fail
        refine (lq_texts H.out (H.out.told (List.mem_cons_self ..)).ts (H.out.told (List.mem_cons_of_mem _ (List.mem_cons_of_mem _ (List.mem_cons_of_mem _ (List.mem_cons_self ..))))).ts (by have := HM.out; omega) (by have := HM.out; omega) true (by simp)).mono ?_
        rintro e w6 ⟨rfl, m6, hw6⟩
        have H := Lib.hid (H.out.below (bel_drew hw6))
        clear hw6
        go_wp2_with fail
        refine (known_any _).mono ?_
        rintro e wk ⟨rfl, hk⟩
        have HK := Lib.hid hk
        clear hk
        go_wp2
        go_ret
        exact ⟨rfl, H.out.bel.trans (HK.out.mono H.out.bel.size)⟩
      | succ gko =>
        have hlt : i < l.length := by omega
        have l0 : (0 : Int) ≤ (i : Int) := by omega
        have l1 : (i : Int) < (l.length : Int) := by omega
        obtain ⟨i1, hi1⟩ : ∃ i1, i + 1 = i1 := ⟨_, rfl⟩
        have wk : IntKind.i64.wrap ((i : Int) + 1) = (i1 : Int) := by rw [show (i : Int) + 1 = (i1 : Int) by omega]; exact IntWalk.i64_in _ (by have := HLL.out; omega)
        have HI1 : Hid (i1 + gko = l.length ∧ M.length + 1 ≤ i1 ∧ i ≤ 60 ∧ i + 1 = i1 ∧ M.length ≤ 60) := Lib.hid (by have := HLL.out; omega)
        have hop := HL.out.below hS.bel
        obtain ⟨ob, oo, oc, he, hcp, hx⟩ := hop.inv (by omega)
        injection he with he1 _ he3
        subst he1 he3
        obtain ⟨k, hk0⟩ : ∃ k, l[i] = k := ⟨_, rfl⟩
        have hik : l[i]? = some k := by rw [List.getElem?_eq_getElem hlt, hk0]
        have x0 := hx i k hik
        have HIK := Lib.hid hik
        clear hi hM hMs hS hlt hi1 hop hcp hx hk0 hik
        by_cases h100 : k.size ≤ 100
        · have k100 : ¬ ((100 : Int) < (k.size : Int)) := by omega
          have HK100 := Lib.hid h100
          clear h100
          obtain ⟨M2, hM2⟩ : ∃ M2, upM k M ++ [k] = M2 := ⟨_, rfl⟩
          have HM2 := Lib.hid hM2
          clear hM2
          go_wp2_with fail
          refine (lq_set H.out k (by have := HK100.out; omega) t (by have := HT.out; omega) (by have := HI1.out; omega) (sm t M2) (by rw [set_sm, HM2.out])).mono ?_
          rintro e w2 ⟨rfl, h2⟩
          have H := Lib.hid h2
          clear h2 x0
          go_wp2
          go_loopg [8, 9] M.length (fun gj u8 u9 wx => ∃ j : Nat, u9 = .int .i64 (j : Int) ∧ j + gj = M.length ∧ OT w2.heap.size wx u8 (upM k (M.take j)) ∧ Below w2.heap.size w2 wx)
          case atStart => exact ⟨0, rfl, by omega, OT.nil _ _, Below.refl _ _⟩
          case round =>
            obtain ⟨j, rfl, hj, hot, hbel⟩ := hrel
            have HOT := Lib.hid hot
            have HB := Lib.hid hbel
            have HWS : Hid (w2.heap.size ≤ wr.heap.size) := Lib.hid hbel.size
            have x0 := ts_cell (HL.out.below (H.out.bel.trans (hbel.mono H.out.bel.size))) HIK.out
            have HUL : Hid ((upM k (M.take j)).length ≤ 60) := Lib.hid (by have h1 := up_len k (M.take j); rw [List.length_take] at h1; have := HI1.out; omega)
            cases gk with
            | zero =>
              have hjl : j = M.length := by omega
              have l2 : ¬ ((j : Int) < (M.length : Int)) := by omega
              have HE : Hid (upM k (M.take j) ++ [k] = M2) := Lib.hid (by rw [hjl, List.take_of_length_le (Nat.le_refl _)]; exact HM2.out)
              clear hot hbel hj hjl
              go_wp2_with (at_builtin; refine wpList_app_text w2.heap.size u8 (upM k (M.take j)) k wr.heap.size rfl _ _ rfl rfl (HOT.out.below ((Below.refl _ _).alloc (Nat.le_refl _) _)) rfl (Bk.new _ _ _) (by have := HUL.out; omega) (by have := HWS.out; simp; omega) ?_; intro g9 cap9 w9 o9 gr9)
              have hbl9 : Below w2.heap.size w2 w9 := (HB.out.alloc HWS.out _).grown gr9 (by have := HWS.out; simp; omega) (fun k hk => (World.ownsRow.lt HOT.out k hk).1)
              have hln : (upM k (M.take j)).length + 1 = M2.length := by rw [← HE.out, List.length_append]; rfl
              have HLN := Lib.hid hln
              have ho9 : OT w2.heap.size w9 (.slice (some ⟨g9, 0, none⟩) M2.length cap9) M2 := by rw [← hln, ← HE.out]; exact o9
              rw [hln]
              have H := Lib.hid ((H.out.add hbl9 ho9).forget (O' := [.txt (.slice (some ⟨g9, 0, none⟩) M2.length cap9) M2]) (fun p hp => by rw [List.mem_singleton] at hp; subst hp; exact List.mem_cons_self ..))
              have HS2 : Hid (∀ x ∈ M2, x.size ≤ 100) := Lib.hid (fun x hx => by
                rw [← HM2.out] at hx
                rcases List.mem_append.1 hx with hx | hx
                · exact HMS.out x (List.mem_filter.1 hx).1
                · rw [List.mem_singleton] at hx; subst hx; exact HK100.out)
              clear o9 gr9 hbl9 ho9 hln x0
              go_wp2
              go_roundg gko
              case measure => exact Nat.lt_succ_self _
              case rel => exact ⟨i1, M2, _, cap9, rfl, rfl, HI1.out.1, (by have h1 := up_len k M; have h2 := HM2.out; have := HI1.out; rw [← h2, List.length_append]; simp; omega), HS2.out, by rw [← HI1.out.2.2.2.1]; exact H.out⟩
            | succ gj =>
              have hjl : j < M.length := by omega
              have l2 : (j : Int) < (M.length : Int) := by omega
              have l0j : (0 : Int) ≤ (j : Int) := by omega
              obtain ⟨j1, hj1⟩ : ∃ j1, j + 1 = j1 := ⟨_, rfl⟩
              have wj : IntKind.i64.wrap ((j : Int) + 1) = (j1 : Int) := by rw [show (j : Int) + 1 = (j1 : Int) by omega]; exact IntWalk.i64_in _ (by have := HI1.out; omega)
              have HJ1 : Hid (j1 + gj = M.length) := Lib.hid (by omega)
              obtain ⟨y, hy⟩ : ∃ y, M[j] = y := ⟨_, rfl⟩
              have hjy : M[j]? = some y := by rw [List.getElem?_eq_getElem hjl, hy]
              obtain ⟨mb, mo, mc, he, _, hx⟩ := ((H.out.told (List.mem_cons_self ..)).ts.below hbel).inv (by omega)
              injection he with he1 _ he3
              subst he1 he3
              have y0 := hx j y hjy
              by_cases hyk : y = k
              · have es : (y.toList == k.toList) = true := by rw [tl_dec]; exact decide_eq_true hyk
                have HE : Hid (upM k (M.take j1) = upM k (M.take j)) := Lib.hid (by rw [← hj1]; exact up_take_eq hjy hyk)
                clear hot hbel hj hjl hj1 hy hjy hx hyk
                go_wp2
                go_quiet (fail)
                go_wp2
                go_roundg gj
                case measure => exact Nat.lt_succ_self _
                case rel => exact ⟨j1, rfl, HJ1.out, by rw [HE.out]; exact HOT.out.below (below_drewN _ _ _), HB.out.trans (below_drewN _ _ _)⟩
              · have es : (y.toList == k.toList) = false := by rw [tl_dec]; exact decide_eq_false hyk
                have HE : Hid (upM k (M.take j1) = upM k (M.take j) ++ [y]) := Lib.hid (by rw [← hj1]; exact up_take_ne hjy hyk)
                clear hot hbel hj hjl hj1 hy hjy hx hyk
                go_wp2
                go_quiet (fail)
                go_wp2_with (at_builtin; refine wpList_app_text w2.heap.size u8 (upM k (M.take j)) y wr.heap.size rfl _ _ rfl rfl (HOT.out.below (((below_drewN _ _ _)).alloc (Nat.le_refl _) _)) rfl (Bk.new _ _ _) (by have := HUL.out; omega) (by have := HWS.out; simp; omega) ?_; intro g9 cap9 w9 o9 gr9)
                have hbl9 : Below w2.heap.size w2 w9 := ((HB.out.trans (below_drewN _ _ _)).alloc (by have := HWS.out; simp; omega) _).grown gr9 (by have := HWS.out; simp; omega) (fun k hk => (World.ownsRow.lt HOT.out k hk).1)
                have ho9 : OT w2.heap.size w9 (.slice (some ⟨g9, 0, none⟩) ((upM k (M.take j)).length + 1) cap9) (upM k (M.take j1)) := by rw [HE.out]; exact o9
                have HO9 := Lib.hid ho9
                have HB9 := Lib.hid hbl9
                clear o9 gr9 hbl9 ho9
                go_wp2
                go_roundg gj
                case measure => exact Nat.lt_succ_self _
                case rel => exact ⟨j1, rfl, HJ1.out, HO9.out, HB9.out⟩
        · have k100 : (100 : Int) < (k.size : Int) := by omega
          clear h100
          go_wp2_with fail
          refine (known_any _).mono ?_
          rintro e wk ⟨rfl, hk⟩
          have HK := Lib.hid hk
          clear hk
          go_wp2
          go_ret
          exact ⟨rfl, H.out.bel.trans (HK.out.mono H.out.bel.size)⟩
  · have n60 : (60 : Int) < (l.length : Int) := by omega
    clear h60
    go_wp2_with fail
    refine (known_any _).mono ?_
    rintro e wk ⟨rfl, hk⟩
    have HK := Lib.hid hk
    clear hk
    go_wp2
    go_ret
    exact ⟨rfl, H.out.bel.trans (HK.out.mono H.out.bel.size)⟩
end Go.Proofs.Ytfilmbeoggmglaa.EX
