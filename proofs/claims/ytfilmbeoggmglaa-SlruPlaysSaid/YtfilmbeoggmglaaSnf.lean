/- Package slru's Copy: a store of its own with the same entries. Conditions: how long keys are. -/
import Derived.Test.YtfilmbeoggmglaaSne
namespace Go.Proofs.Ytfilmbeoggmglaa.SL
open Go.ChangeShapes Go.WideShapes Go.ChangeAt Go.RowKit Go.Maps Go.ChangeMaps
set_option maxRecDepth 100000
set_option linter.unusedVariables false
set_option linter.unusedSimpArgs false

/-- a copy under way: it lies in memory made since w -/
def CpS (w wx : World) (gc : Nat) (al ke mo : Int) (T K : List En) : Prop :=
  ∃ n x, St wx gc n al ke mo x ∧ x.tE = T ∧ x.kE = K ∧ (∀ b, x.own gc b → w.heap.size ≤ b) ∧ Below w.heap.size w wx ∧ n = T.length + K.length
theorem CpS.bel {w wx : World} {gc : Nat} {al ke mo : Int} {T K : List En} (h : CpS w wx gc al ke mo T K) : Below w.heap.size w wx := by obtain ⟨_, _, _, _, _, _, h, _⟩ := h; exact h
theorem CpS.below {w wx wy : World} {gc : Nat} {al ke mo : Int} {T K : List En} (h : CpS w wx gc al ke mo T K) (hb : Below wx.heap.size wx wy) : CpS w wy gc al ke mo T K := by
  obtain ⟨n, x, h1, h2, h3, h4, h5, h6⟩ := h
  exact ⟨n, x, h1.below hb, h2, h3, h4, h5.trans (hb.mono h5.size), h6⟩
theorem St.none_of {w : World} {g n : Nat} {al ke mo : Int} {x : Sx} (h : St w g n al ke mo x) {k : ByteArray} (h1 : k ∉ keysE x.tE) (h2 : k ∉ keysE x.kE) : x.f k = none := by
  cases hf : x.f k with
  | none => rfl
  | some b =>
    exfalso
    obtain ⟨hb, hk⟩ := (h.lk k b).1 hf
    rcases hb with hb | hb
    · exact h1 (List.mem_map.2 ⟨((x.F b).k, (x.F b).z), List.mem_map.2 ⟨b, hb, rfl⟩, hk⟩)
    · exact h2 (List.mem_map.2 ⟨((x.F b).k, (x.F b).z), List.mem_map.2 ⟨b, hb, rfl⟩, hk⟩)
theorem CpS.addT {w wx : World} {gc : Nat} {al ke mo : Int} {T K : List En} (h : CpS w wx gc al ke mo T K) (k : ByteArray) (hk : k.size ≤ 281474976710656) (z : Int) (hz : 1 ≤ z) (h1 : k ∉ keysE T) (h2 : k ∉ keysE K) (hl : sumE T + sumE K + z ≤ 1073741824) :
    Calls Try.prog 44 #[ptr gc, .agg #[.string k, .int .i64 z], .int .i64 0] wx (RetP fun w' => CpS w w' gc al ke mo ((k, z) :: T) K) := by
  obtain ⟨n, x, s1, rfl, rfl, s4, s5, s6⟩ := h
  have hlen := s1.len
  refine (add_T wx gc n al ke mo x s1 k hk (s1.none_of h1 h2) z hz hl (by omega)).mono ?_
  rintro e w' ⟨rfl, x', q1, q2, q3, q4, q5⟩
  refine ⟨rfl, n + 1, x', q1, q2, q3, fun b hb => (q4 b hb).elim (s4 b) fun h => Nat.le_trans s5.size h, below_chg s5 q5 s4, ?_⟩
  rw [List.length_cons]; omega
theorem CpS.addK {w wx : World} {gc : Nat} {al ke mo : Int} {T K : List En} (h : CpS w wx gc al ke mo T K) (k : ByteArray) (hk : k.size ≤ 281474976710656) (z : Int) (hz : 1 ≤ z) (h1 : k ∉ keysE T) (h2 : k ∉ keysE K) (hl : sumE T + sumE K + z ≤ 1073741824) :
    Calls Try.prog 44 #[ptr gc, .agg #[.string k, .int .i64 z], .int .i64 1] wx (RetP fun w' => CpS w w' gc al ke mo T ((k, z) :: K)) := by
  obtain ⟨n, x, s1, rfl, rfl, s4, s5, s6⟩ := h
  have hlen := s1.len
  refine (add_K wx gc n al ke mo x s1 k hk (s1.none_of h1 h2) z hz hl (by omega)).mono ?_
  rintro e w' ⟨rfl, x', q1, q2, q3, q4, q5⟩
  refine ⟨rfl, n + 1, x', q1, q2, q3, fun b hb => (q4 b hb).elim (s4 b) fun h => Nat.le_trans s5.size h, below_chg s5 q5 s4, ?_⟩
  rw [List.length_cons]; omega
theorem snoc_form (e : Nat) (A : List Nat) : ∃ C c, e :: A = C ++ [c] := by
  rcases List.eq_nil_or_concat (e :: A) with h | ⟨C, c, h⟩
  · cases h
  · exact ⟨C, c, by simpa using h⟩
theorem ring_last {F : Nat → Nd} {e : Nat} {L : List Nat} (hl : Lnk F (e :: (L ++ [e]))) {C : List Nat} {c : Nat} (hc : e :: L = C ++ [c]) : (F e).nw = some c := by
  have e1 : e :: (L ++ [e]) = C ++ c :: [e] := by rw [← List.cons_append, hc]; simp
  rw [e1, Lnk.split] at hl
  exact hl.2.2.1
theorem St.ring2 {w : World} {g n : Nat} {al ke mo : Int} {x : Sx} (h : St w g n al ke mo x) : (keysE x.tE).Nodup ∧ (keysE x.kE).Nodup ∧ ∀ k, k ∈ keysE x.tE → k ∉ keysE x.kE := by
  have hls : LS w w g n al ke mo x.tE x.kE [] → True := fun _ => trivial
  have key : ∀ L : List Nat, keysE (en x.F L) = L.map fun b => (x.F b).k := fun L => by show ((en x.F L).map (·.1)) = _; unfold en; rw [List.map_map]; rfl
  have nd : ∀ L : List Nat, L.Nodup → (∀ b ∈ L, b ∈ x.T ∨ b ∈ x.K) → (L.map fun b => (x.F b).k).Nodup := by
    intro L hn hs
    induction L with
    | nil => exact List.nodup_nil
    | cons a L ih =>
      obtain ⟨h1, h2⟩ := List.nodup_cons.1 hn
      rw [List.map_cons]
      refine List.nodup_cons.2 ⟨fun hm => ?_, ih h2 fun b hb => hs b (List.mem_cons_of_mem _ hb)⟩
      obtain ⟨b, hb, e⟩ := List.mem_map.1 hm
      have := h.gg.uq b a (hs b (List.mem_cons_of_mem _ hb)) (hs a (List.mem_cons_self ..)) e
      subst this
      exact h1 hb
  refine ⟨?_, ?_, fun k hk hk2 => ?_⟩
  · show (keysE (en x.F x.T)).Nodup
    rw [key]; exact nd _ (List.nodup_cons.1 h.gg.n0).2 fun b hb => .inl hb
  · show (keysE (en x.F x.K)).Nodup
    rw [key]; exact nd _ (List.nodup_cons.1 h.gg.n1).2 fun b hb => .inr hb
  · have hk : k ∈ keysE (en x.F x.T) := hk
    have hk2 : k ∈ keysE (en x.F x.K) := hk2
    rw [key] at hk hk2
    obtain ⟨b, hb, e1⟩ := List.mem_map.1 hk
    obtain ⟨c, hc, e2⟩ := List.mem_map.1 hk2
    have := h.gg.uq b c (.inl hb) (.inr hc) (e1.trans e2.symm)
    subst this
    exact h.gg.ap b (.inr hb) (.inr hc)
set_option maxHeartbeats 8000000 in
theorem copy_any (w : World) (g n : Nat) (al ke mo : Int) (x : Sx) (h : St w g n al ke mo x) (hk : ∀ y, y ∈ x.tE ∨ y ∈ x.kE → y.1.size ≤ 281474976710656) :
    Calls Try.prog 18 #[ptr g] w fun e w' => ∃ gc, e = .returned (ptr gc) ∧ CpS w w' gc al ke mo x.tE x.kE := by
  obtain ⟨c0, c1, c2, c3, c4, _, c6, _, _⟩ := h.cells
  have HH := Lib.hid h
  have HKL := Lib.hid hk
  have HG := Lib.hid h.bk.lt
  have HLM := Lib.hid h.lim
  have HRG := Lib.hid h.ring2
  have HPS := Lib.hid h.gg.en_pos
  have nz := en_ne0
  clear h hk
  go_enter Try.func18, Try.ntmps18
  go_wp2_with fail
  refine (given_yes _ g c0).mono ?_
  rintro e w' ⟨rfl, rfl⟩
  go_wp2_with fail
  refine wp_region_held_drew (S := (fun w' => Below w.heap.size w w')) (by kernel_rfl) ?_ (fun hS => ?_)
  · exact (Below.refl _ _).drew
  refine tkY 0 ?_ rfl hS ?_ ?_
  rotate_left
  · intro wz hz
    have z1 := (hz.cell (p := ⟨g, 1, none⟩) HG.out).trans c1
    have z2 := (hz.cell (p := ⟨g, 2, none⟩) HG.out).trans c2
    have z3 := (hz.cell (p := ⟨g, 3, none⟩) HG.out).trans c3
    go_simp
    all_goals first | with_reducible rfl | omega
  try simp only [Act.put, pu]
  refine tkY 1 ?_ rfl hS ?_ ?_
  rotate_left
  · intro wz hz
    have z1 := (hz.cell (p := ⟨g, 1, none⟩) HG.out).trans c1
    have z2 := (hz.cell (p := ⟨g, 2, none⟩) HG.out).trans c2
    have z3 := (hz.cell (p := ⟨g, 3, none⟩) HG.out).trans c3
    go_simp
    all_goals first | with_reducible rfl | omega
  try simp only [Act.put, pu]
  refine tkY 2 ?_ rfl hS ?_ ?_
  rotate_left
  · intro wz hz
    have z1 := (hz.cell (p := ⟨g, 1, none⟩) HG.out).trans c1
    have z2 := (hz.cell (p := ⟨g, 2, none⟩) HG.out).trans c2
    have z3 := (hz.cell (p := ⟨g, 3, none⟩) HG.out).trans c3
    go_simp
    all_goals first | with_reducible rfl | omega
  try simp only [Act.put, pu]
  refine tkY 3 ?_ rfl hS ?_ ?_
  rotate_left
  · intro wz hz
    have z1 := (hz.cell (p := ⟨g, 1, none⟩) HG.out).trans c1
    have z2 := (hz.cell (p := ⟨g, 2, none⟩) HG.out).trans c2
    have z3 := (hz.cell (p := ⟨g, 3, none⟩) HG.out).trans c3
    go_simp
    all_goals first | with_reducible rfl | omega
  try simp only [Act.put, pu]
  refine tkY 4 ?_ rfl hS ?_ ?_
  rotate_left
  · intro wz hz
    have z1 := (hz.cell (p := ⟨g, 1, none⟩) HG.out).trans c1
    have z2 := (hz.cell (p := ⟨g, 2, none⟩) HG.out).trans c2
    have z3 := (hz.cell (p := ⟨g, 3, none⟩) HG.out).trans c3
    go_simp
    all_goals first | with_reducible rfl | omega
  try simp only [Act.put, pu]
  refine tkY 5 ?_ rfl hS ?_ ?_
  rotate_left
  · intro wz hz
    have z1 := (hz.cell (p := ⟨g, 1, none⟩) HG.out).trans c1
    have z2 := (hz.cell (p := ⟨g, 2, none⟩) HG.out).trans c2
    have z3 := (hz.cell (p := ⟨g, 3, none⟩) HG.out).trans c3
    go_simp
    all_goals first | with_reducible rfl | omega
  try simp only [Act.put, pu]
  refine tkY 6 ?_ rfl hS ?_ ?_
  rotate_left
  · intro wz hz
    have z1 := (hz.cell (p := ⟨g, 1, none⟩) HG.out).trans c1
    have z2 := (hz.cell (p := ⟨g, 2, none⟩) HG.out).trans c2
    have z3 := (hz.cell (p := ⟨g, 3, none⟩) HG.out).trans c3
    go_simp
    all_goals first | with_reducible rfl | omega
  try simp only [Act.put, pu]
  refine tkY 7 ?_ rfl hS ?_ ?_
  rotate_left
  · intro wz hz
    have z1 := (hz.cell (p := ⟨g, 1, none⟩) HG.out).trans c1
    have z2 := (hz.cell (p := ⟨g, 2, none⟩) HG.out).trans c2
    have z3 := (hz.cell (p := ⟨g, 3, none⟩) HG.out).trans c3
    go_simp
    all_goals first | with_reducible rfl | omega
  try simp only [Act.put, pu]
  refine tkY 8 ?_ rfl hS ?_ ?_
  rotate_left
  · intro wz hz
    have z1 := (hz.cell (p := ⟨g, 1, none⟩) HG.out).trans c1
    have z2 := (hz.cell (p := ⟨g, 2, none⟩) HG.out).trans c2
    have z3 := (hz.cell (p := ⟨g, 3, none⟩) HG.out).trans c3
    go_simp
    all_goals first | with_reducible rfl | omega
  try simp only [Act.put, pu]
  refine tkY 9 ?_ rfl hS ?_ ?_
  rotate_left
  · intro wz hz
    have z1 := (hz.cell (p := ⟨g, 1, none⟩) HG.out).trans c1
    have z2 := (hz.cell (p := ⟨g, 2, none⟩) HG.out).trans c2
    have z3 := (hz.cell (p := ⟨g, 3, none⟩) HG.out).trans c3
    go_simp
    all_goals first | with_reducible rfl | omega
  try simp only [Act.put, pu]
  refine tkY 10 ?_ rfl hS ?_ ?_
  rotate_left
  · intro wz hz
    have z1 := (hz.cell (p := ⟨g, 1, none⟩) HG.out).trans c1
    have z2 := (hz.cell (p := ⟨g, 2, none⟩) HG.out).trans c2
    have z3 := (hz.cell (p := ⟨g, 3, none⟩) HG.out).trans c3
    go_simp
    all_goals first | with_reducible rfl | omega
  try simp only [Act.put, pu]
  refine tkY 11 ?_ rfl hS ?_ ?_
  rotate_left
  · intro wz hz
    have z1 := (hz.cell (p := ⟨g, 1, none⟩) HG.out).trans c1
    have z2 := (hz.cell (p := ⟨g, 2, none⟩) HG.out).trans c2
    have z3 := (hz.cell (p := ⟨g, 3, none⟩) HG.out).trans c3
    go_simp
    all_goals first | with_reducible rfl | omega
  try simp only [Act.put, pu]
  refine wpAnyH_ready (rs := [12]) (by kernel_rfl) (by simp) (AllReadyH.cons rfl (fun K' hK' => ?_) AllReadyH.nil)
  go_simp
  refine (made_any al ke mo _).mono ?_
  rintro e w1 ⟨gc, xc, rfl, hs1, ht1, hk1, ho1, hb1⟩
  have hbw : Below w.heap.size w w1 := hS.trans (hb1.mono hS.size)
  have HC1 : Hid (CpS w w1 gc al ke mo [] []) := Lib.hid ⟨0, xc, hs1, ht1, hk1, fun b hb => Nat.le_trans hS.size (ho1 b hb), hbw, rfl⟩
  refine hK'.out _ _ ?_ (fun hSn => ?_)
  · exact hbw
  clear hK' K' hS hs1 ht1 hk1 ho1 hb1 hbw
  have hS := hSn
  clear hSn
  try simp only [Act.put, pu]
  refine tkY 13 ?_ rfl hS ?_ ?_
  rotate_left
  · intro wz hz
    go_simp
    all_goals first | with_reducible rfl | omega
  try simp only [Act.put, pu]
  refine wpAnyH_done (by kernel_rfl) ?_ _
  clear hS c0 c1 c2 c3 c4 c6
  go_wp2_with fail
  go_loopg [22] 2 (fun gk u22 wx => ∃ i : Nat, u22 = .int .i64 (i : Int) ∧ i + gk = 2 ∧ CpS w wx gc al ke mo (if 0 < i then x.tE else []) (if 1 < i then x.kE else []))
  case atStart => exact ⟨0, rfl, rfl, HC1.out⟩
  case round =>
    obtain ⟨i, rfl, hi, hcp⟩ := hrel
    have HC := Lib.hid hcp
    clear HC1
    cases gk with
    | zero =>
      have hi2 : i = 2 := by omega
      subst hi2
      have HF : Hid (∃ gc, Ending.returned (ptr gc) = Ending.returned (ptr gc) ∧ CpS w wr gc al ke mo x.tE x.kE) := Lib.hid ⟨gc, rfl, by simpa using hcp⟩
      clear hcp hi
      go_wp2
      go_ret
      obtain ⟨q, h1, h2⟩ := HF.out
      exact ⟨gc, rfl, by simpa using HC.out⟩
    | succ gk1 =>
      have hi01 : i = 0 ∨ i = 1 := by omega
      rcases hi01 with rfl | rfl
      · have hg1 : gk1 = 1 := by omega
        subst hg1
        clear hi
        obtain ⟨C0, c0, hC0⟩ := snoc_form x.e0 x.T
        have hst := HH.out.below hcp.bel
        have q4 : wr.cell? ⟨g, 4, none⟩ = some (ptr x.e0) := hst.bk.cell 4
        have d3 := (hst.node (b := x.e0) (.inl rfl)).2.2.2.1
        rw [ring_last hst.gg.l0 hC0] at d3
        have d3 : wr.cell? ⟨x.e0, 3, none⟩ = some (ptr c0) := d3
        have HC0 := Lib.hid hC0
        clear hst hcp hC0
        go_wp2_with fail
        refine (last_any _ g 4 x.e0 c0 q4 d3).mono ?_
        rintro e w' ⟨rfl, rfl⟩
        clear q4 d3
        go_wp2_with fail
        go_loopg [5] x.T.length (fun gk u5 wx => ∃ A B c C, x.T = A ++ B ∧ A.length = gk ∧ u5 = ptr c ∧ x.e0 :: A = C ++ [c] ∧ CpS w wx gc al ke mo (en x.F B) [])
        case atStart => exact ⟨x.T, [], c0, C0, by simp, rfl, rfl, HC0.out, by simpa [en] using HC.out⟩
        case round =>
          obtain ⟨A, B, c, C, hL, hlen, rfl, hcc, hcq⟩ := hrel
          have hst := HH.out.below hcq.bel
          have HCQ := Lib.hid hcq
          cases gk with
          | zero =>
            have hA : A = [] := List.eq_nil_of_length_eq_zero hlen
            subst hA
            have hce : c = x.e0 := by
              cases C with
              | nil => simp at hcc; exact hcc.symm
              | cons y C => simp at hcc
            subst hce
            obtain ⟨d0, d1, _⟩ := hst.node (b := x.e0) (.inl rfl)
            rw [hst.gg.z0.1] at d0
            rw [hst.gg.z0.2] at d1
            have hB : en x.F B = x.tE := by rw [List.nil_append] at hL; rw [← hL]; rfl
            have HFIN : Hid (CpS w wr gc al ke mo (if 0 < 0 + 1 then x.tE else []) (if 1 < 0 + 1 then x.kE else [])) := Lib.hid (by rw [hB] at hcq; simpa using hcq)
            clear hst hcq hL hlen hcc hB HCQ
            go_wp2
            go_roundg 1
            case measure => exact Nat.lt_succ_self _
            case rel => exact ⟨0 + 1, rfl, rfl, HFIN.out⟩
          | succ gko =>
            obtain ⟨L, d, rfl⟩ : ∃ L d, A = L ++ [d] := by
              rcases List.eq_nil_or_concat A with h | ⟨L, d, h⟩
              · subst h; simp at hlen
              · exact ⟨L, d, by simpa using h⟩
            have hdc : c = d := by
              have := congrArg List.getLast? hcc
              rw [← List.cons_append, List.getLast?_concat, List.getLast?_concat] at this
              injection this with this
              exact this.symm
            subst hdc
            have hx : c ∈ x.T := by rw [hL]; simp
            obtain ⟨C1, c1, hC1⟩ := snoc_form x.e0 L
            have hnw : (x.F c).nw = some c1 := by
              have hl := hst.gg.l0
              rw [hL] at hl
              exact nw_next (L1 := L) (L2 := B) (by simpa using hl) hC1
            obtain ⟨d0, d1, _, d3, _⟩ := hst.node (b := c) (.inr (.inr (.inl hx)))
            rw [hnw] at d3
            have d3 : wr.cell? ⟨c, 3, none⟩ = some (ptr c1) := d3
            have hpos := hst.gg.pos c (.inl hx)
            obtain ⟨kc, hkc⟩ : ∃ k, (x.F c).k = k := ⟨_, rfl⟩
            obtain ⟨zc, hzc⟩ : ∃ z, (x.F c).z = z := ⟨_, rfl⟩
            have hin : (kc, zc) :: en x.F B = en x.F (c :: B) := by rw [← hkc, ← hzc]; rfl
            have hap : x.tE = en x.F L ++ (kc, zc) :: en x.F B := by rw [hin]; show en x.F x.T = _; rw [hL]; unfold en; simp
            have hsz : kc.size ≤ 281474976710656 := HKL.out (kc, zc) (.inl (by rw [hap]; simp))
            have hnB : kc ∉ keysE (en x.F B) := by
              have := HRG.out.1
              rw [hap, keysE_app] at this
              exact (List.nodup_cons.1 (List.nodup_append.1 this).2.1).1
            have hkin : kc ∈ keysE x.tE := by rw [hap, keysE_app]; exact List.mem_append.2 (.inr (List.mem_cons_self ..))
            have hsum : sumE (en x.F B) + sumE [] + zc ≤ 1073741824 := by
              have h1 := HLM.out
              have h2 : 0 ≤ sumE x.kE := sum_nonneg HPS.out.2
              have h3 := congrArg sumE hap
              rw [sum_app, sumE] at h3
              simp only at h3
              have h4 : 0 ≤ sumE (en x.F L) := sum_nonneg fun y hy => HPS.out.1 y (by show y ∈ x.tE; rw [hap]; exact List.mem_append.2 (.inl hy))
              rw [show sumE ([] : List En) = 0 from rfl]; omega
            rw [hkc] at d0
            rw [hzc] at d1 hpos
            have qe := fun W => en_ne kc zc hpos W
            have HADD := Lib.hid (hcq.addT kc hsz zc hpos hnB (by simp [keysE]) hsum)
            have HD3 := Lib.hid (fun (w9 : World) (hb9 : Below w.heap.size w w9) => (show w9.cell? ⟨c, 3, none⟩ = some (ptr c1) from by
              have := ((HH.out.below hb9).node (b := c) (.inr (.inr (.inl hx)))).2.2.2.1
              rw [hnw] at this
              exact this))
            have HL := Lib.hid (show x.T = L ++ (c :: B) by rw [hL]; simp)
            have HC1 := Lib.hid hC1
            have HLL : Hid (L.length = gko) := Lib.hid (by rw [List.length_append] at hlen; simpa using hlen)
            have HIN := Lib.hid hin
            clear hst hcq hL hlen hcc hnw hin hap hsz hnB hkin hsum hC1 hkc hzc hx d3
            go_wp2_with fail
            refine HADD.out.mono ?_
            rintro e w9 ⟨rfl, hc9⟩
            have d3 := HD3.out w9 hc9.bel
            rw [HIN.out] at hc9
            have HC9 := Lib.hid hc9
            clear hc9
            go_wp2
            go_roundg gko
            case measure => exact Nat.lt_succ_self _
            case rel => exact ⟨L, c :: B, c1, C1, HL.out, HLL.out, rfl, HC1.out, HC9.out⟩
      · have hg1 : gk1 = 0 := by omega
        subst hg1
        clear hi
        obtain ⟨C0, c0, hC0⟩ := snoc_form x.e1 x.K
        have hst := HH.out.below hcp.bel
        have q4 : wr.cell? ⟨g, 6, none⟩ = some (ptr x.e1) := hst.bk.cell 6
        have d3 := (hst.node (b := x.e1) (.inr (.inl rfl))).2.2.2.1
        rw [ring_last hst.gg.l1 hC0] at d3
        have d3 : wr.cell? ⟨x.e1, 3, none⟩ = some (ptr c0) := d3
        have HC0 := Lib.hid hC0
        clear hst hcp hC0
        go_wp2_with fail
        refine (last_any _ g 6 x.e1 c0 q4 d3).mono ?_
        rintro e w' ⟨rfl, rfl⟩
        clear q4 d3
        go_wp2_with fail
        go_loopg [5] x.K.length (fun gk u5 wx => ∃ A B c C, x.K = A ++ B ∧ A.length = gk ∧ u5 = ptr c ∧ x.e1 :: A = C ++ [c] ∧ CpS w wx gc al ke mo x.tE (en x.F B))
        case atStart => exact ⟨x.K, [], c0, C0, by simp, rfl, rfl, HC0.out, by simpa [en] using HC.out⟩
        case round =>
          obtain ⟨A, B, c, C, hL, hlen, rfl, hcc, hcq⟩ := hrel
          have hst := HH.out.below hcq.bel
          have HCQ := Lib.hid hcq
          cases gk with
          | zero =>
            have hA : A = [] := List.eq_nil_of_length_eq_zero hlen
            subst hA
            have hce : c = x.e1 := by
              cases C with
              | nil => simp at hcc; exact hcc.symm
              | cons y C => simp at hcc
            subst hce
            obtain ⟨d0, d1, _⟩ := hst.node (b := x.e1) (.inr (.inl rfl))
            rw [hst.gg.z1.1] at d0
            rw [hst.gg.z1.2] at d1
            have hB : en x.F B = x.kE := by rw [List.nil_append] at hL; rw [← hL]; rfl
            have HFIN : Hid (CpS w wr gc al ke mo (if 0 < 1 + 1 then x.tE else []) (if 1 < 1 + 1 then x.kE else [])) := Lib.hid (by rw [hB] at hcq; simpa using hcq)
            clear hst hcq hL hlen hcc hB HCQ
            go_wp2
            go_roundg 0
            case measure => exact Nat.lt_succ_self _
            case rel => exact ⟨1 + 1, rfl, rfl, HFIN.out⟩
          | succ gko =>
            obtain ⟨L, d, rfl⟩ : ∃ L d, A = L ++ [d] := by
              rcases List.eq_nil_or_concat A with h | ⟨L, d, h⟩
              · subst h; simp at hlen
              · exact ⟨L, d, by simpa using h⟩
            have hdc : c = d := by
              have := congrArg List.getLast? hcc
              rw [← List.cons_append, List.getLast?_concat, List.getLast?_concat] at this
              injection this with this
              exact this.symm
            subst hdc
            have hx : c ∈ x.K := by rw [hL]; simp
            obtain ⟨C1, c1, hC1⟩ := snoc_form x.e1 L
            have hnw : (x.F c).nw = some c1 := by
              have hl := hst.gg.l1
              rw [hL] at hl
              exact nw_next (L1 := L) (L2 := B) (by simpa using hl) hC1
            obtain ⟨d0, d1, _, d3, _⟩ := hst.node (b := c) (.inr (.inr (.inr hx)))
            rw [hnw] at d3
            have d3 : wr.cell? ⟨c, 3, none⟩ = some (ptr c1) := d3
            have hpos := hst.gg.pos c (.inr hx)
            obtain ⟨kc, hkc⟩ : ∃ k, (x.F c).k = k := ⟨_, rfl⟩
            obtain ⟨zc, hzc⟩ : ∃ z, (x.F c).z = z := ⟨_, rfl⟩
            have hin : (kc, zc) :: en x.F B = en x.F (c :: B) := by rw [← hkc, ← hzc]; rfl
            have hap : x.kE = en x.F L ++ (kc, zc) :: en x.F B := by rw [hin]; show en x.F x.K = _; rw [hL]; unfold en; simp
            have hsz : kc.size ≤ 281474976710656 := HKL.out (kc, zc) (.inr (by rw [hap]; simp))
            have hnB : kc ∉ keysE (en x.F B) := by
              have := HRG.out.2.1
              rw [hap, keysE_app] at this
              exact (List.nodup_cons.1 (List.nodup_append.1 this).2.1).1
            have hkin : kc ∈ keysE x.kE := by rw [hap, keysE_app]; exact List.mem_append.2 (.inr (List.mem_cons_self ..))
            have hsum : sumE x.tE + sumE (en x.F B) + zc ≤ 1073741824 := by
              have h1 := HLM.out
              have h2 : 0 ≤ sumE x.tE := sum_nonneg HPS.out.1
              have h3 := congrArg sumE hap
              rw [sum_app, sumE] at h3
              simp only at h3
              have h4 : 0 ≤ sumE (en x.F L) := sum_nonneg fun y hy => HPS.out.2 y (by show y ∈ x.kE; rw [hap]; exact List.mem_append.2 (.inl hy))
              omega
            rw [hkc] at d0
            rw [hzc] at d1 hpos
            have qe := fun W => en_ne kc zc hpos W
            have HADD := Lib.hid (hcq.addK kc hsz zc hpos (fun h => HRG.out.2.2 kc h hkin) hnB hsum)
            have HD3 := Lib.hid (fun (w9 : World) (hb9 : Below w.heap.size w w9) => (show w9.cell? ⟨c, 3, none⟩ = some (ptr c1) from by
              have := ((HH.out.below hb9).node (b := c) (.inr (.inr (.inr hx)))).2.2.2.1
              rw [hnw] at this
              exact this))
            have HL := Lib.hid (show x.K = L ++ (c :: B) by rw [hL]; simp)
            have HC1 := Lib.hid hC1
            have HLL : Hid (L.length = gko) := Lib.hid (by rw [List.length_append] at hlen; simpa using hlen)
            have HIN := Lib.hid hin
            clear hst hcq hL hlen hcc hnw hin hap hsz hnB hkin hsum hC1 hkc hzc hx d3
            go_wp2_with fail
            refine HADD.out.mono ?_
            rintro e w9 ⟨rfl, hc9⟩
            have d3 := HD3.out w9 hc9.bel
            rw [HIN.out] at hc9
            have HC9 := Lib.hid hc9
            clear hc9
            go_wp2
            go_roundg gko
            case measure => exact Nat.lt_succ_self _
            case rel => exact ⟨L, c :: B, c1, C1, HL.out, HLL.out, rfl, HC1.out, HC9.out⟩
end Go.Proofs.Ytfilmbeoggmglaa.SL
