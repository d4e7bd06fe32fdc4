/- What slices.Insert does to entries that a call owns, of one entry. Conditions: how many. -/
import Derived.Test.YtochjbmighijgaaPoa
import Derived.Deep.RegionLaw
namespace Go.Proofs.Ytochjbmighijgaa.PO
open Go.ChangeShapes Go.WideShapes Go.ChangeAt Go.RowKit
open Go.Proofs.Ytochjbmighijgaa.SL Go.Proofs.Ytochjbmighijgaa.RW
set_option maxRecDepth 100000
set_option linter.unusedVariables false
set_option linter.unusedSimpArgs false

def InsP (B : Nat) (row : Option Nat) (R : List Rs) (w : World) (e : Ending) (w' : World) : Prop :=
  ∃ a c, e = .returned (.slice a R.length c) ∧ EQ B w' (.slice a R.length c) R ∧ w.grownBy w' row ∧ ∀ q, (Value.slice a R.length c).ownBlock = some q → row = some q ∨ w.heap.size ≤ q
theorem insLen (l : List Rs) (i : Nat) (x : Rs) (h : i ≤ l.length) : (l.take i ++ x :: l.drop i).length = l.length + 1 := by
  rw [List.length_append, List.length_cons, List.length_take, List.length_drop]; omega
theorem newsE {w : World} {vb : Nat} {x : Rs} (h : Bk w vb 76 #[.int .i64 x.1, .int .i64 x.2]) : ∀ j u, (eRow x)[j]? = some u → w.cell? ((⟨vb, 0, none⟩ : Addr).add j) = some u := by
  intro j u hu
  rw [Addr.add_lit, Nat.zero_add]
  have := h.cell j
  rw [this]
  simpa [eRow] using hu
theorem eRow_one (x : Rs) : ∀ u ∈ eRow x, u.oneCell' = true := by
  have := eC_one [x]
  rwa [eC_single] at this
set_option maxHeartbeats 4000000 in
theorem eins_end (B : Nat) (v : Value) (l : List Rs) (x : Rs) (vb : Nat) (w : World) (h : EQ B w v l) (hv : Bk w vb 76 #[.int .i64 x.1, .int .i64 x.2]) (hl : l.length ≤ 1000000) (hB : B ≤ w.heap.size) :
    Calls Try.prog 48 #[v, .int .i64 (l.length : Int), .slice (some ⟨vb, 0, none⟩) 1 1] w (InsP B v.ownBlock (l ++ [x]) w) := by
  obtain ⟨i30, hi30, hz30, hs30, hb30⟩ := iEnt
  have und30 := undE
  have HO := Lib.hid h
  rcases h.inv with ⟨rfl, rfl⟩ | ⟨g, cap, rfl, hcap, hmx, hBg, hgl⟩
  · have HN := Lib.hid (newsE hv)
    have HB := Lib.hid hB
    clear h hv hl hB
    go_enter Try.func48, Try.ntmps48
    go_wp2_with (at_builtin; refine wpList_append_lies _ rfl _ _ 62 rfl B 76 i30 (.agg #[.int .i64 0, .int .i64 0]) 2 16 und30 hi30 hz30 hs30 hb30 rfl (by decide) _ 0 [] rfl HO.out ⟨vb, 0, none⟩ 1 1 (eRow x) rfl rfl ?_ ?_ (by decide) ?_ ?_ ?_ _ rfl ?_)
    any_goals first
      | exact HN.out
      | exact eRow_one x
      | (unfold maxLen; omega)
      | omega
      | exact HB.out
    all_goals
      intro g9 cap9 w9 hown9 hgr9 hat9 hlt9
      have HO9 : Hid (EQ B w9 (.slice (some ⟨g9, 0, none⟩) 1 cap9) [x]) := Lib.hid (EQ.of hown9 rfl (by rw [eC_single]))
      have HG9 := Lib.hid hgr9
      have HA9 : Hid (∀ q, (Value.slice (some ⟨g9, 0, none⟩) 1 cap9).ownBlock = some q → (Value.slice none 0 0).ownBlock = some q ∨ w.heap.size ≤ q) := Lib.hid fun q hq => by have hq2 : g9 = q := (by injection hq); rw [← hq2]; rcases hat9 with h | h; exact .inl h; exact .inr (by omega)
      clear hown9 hgr9 hat9
      go_wp2
      go_ret
      exact ⟨_, cap9, rfl, HO9.out, HG9.out, HA9.out⟩
  · have hcm : cap ≤ 9223372036854775807 := by unfold maxLen at hmx; omega
    have HN := Lib.hid (newsE hv)
    have HL := Lib.hid hl
    have HB := Lib.hid hB
    obtain ⟨n1, hn1⟩ : ∃ n1, l.length + 1 = n1 := ⟨_, rfl⟩
    have HN1 := Lib.hid hn1
    have hll : (l ++ [x]).length = n1 := by rw [List.length_append]; simpa using hn1
    have HLL := Lib.hid hll
    have l0 : (0 : Int) ≤ (l.length : Int) := by omega
    clear h hv hl hB hn1 hll
    go_enter Try.func48, Try.ntmps48
    go_wp2_with (at_builtin; refine wpList_append_lies _ rfl _ _ 62 rfl B 76 i30 (.agg #[.int .i64 0, .int .i64 0]) 2 16 und30 hi30 hz30 hs30 hb30 rfl (by decide) _ l.length (eC l) rfl HO.out ⟨vb, 0, none⟩ 1 1 (eRow x) rfl rfl ?_ ?_ (by decide) ?_ ?_ ?_ _ rfl ?_)
    any_goals first
      | exact HN.out
      | exact eRow_one x
      | (have := HL.out; unfold maxLen; omega)
      | (have := HL.out; omega)
      | exact HB.out
    all_goals
      intro g9 cap9 w9 hown9 hgr9 hat9 hlt9
      have HO9 : Hid (EQ B w9 (.slice (some ⟨g9, 0, none⟩) n1 cap9) (l ++ [x])) := Lib.hid (EQ.of (by rw [HN1.out] at hown9; exact hown9) HLL.out (by rw [eC_app, eC_single]))
      have HG9 := Lib.hid hgr9
      have hw1 := HN1.out
      have HA9 : Hid (∀ q, (Value.slice (some ⟨g9, 0, none⟩) n1 cap9).ownBlock = some q → (Value.slice (some ⟨g, 0, none⟩) l.length cap).ownBlock = some q ∨ w.heap.size ≤ q) := Lib.hid fun q hq => by have hq2 : g9 = q := (by injection hq); rw [← hq2]; rcases hat9 with h | h; exact .inl h; exact .inr (by omega)
      clear hown9 hgr9 hat9
      try rw [hw1]
      go_wp2
      go_ret
      exact ⟨some ⟨g9, 0, none⟩, cap9, by rw [HLL.out]; rfl, by rw [HLL.out]; exact HO9.out, HG9.out, by rw [HLL.out]; exact HA9.out⟩
set_option maxHeartbeats 4000000 in
theorem eins_shift (B g cap : Nat) (l : List Rs) (i : Nat) (x : Rs) (vb : Nat) (w : World) (h : EQ B w (.slice (some ⟨g, 0, none⟩) l.length cap) l) (hv : Bk w vb 76 #[.int .i64 x.1, .int .i64 x.2]) (hvg : vb ≠ g) (hi : i < l.length) (hc : l.length + 1 ≤ cap) (hl : l.length ≤ 1000000) :
    Calls Try.prog 48 #[.slice (some ⟨g, 0, none⟩) l.length cap, .int .i64 (i : Int), .slice (some ⟨vb, 0, none⟩) 1 1] w (InsP B (some g) (l.take i ++ x :: l.drop i) w) := by
  obtain ⟨i30, hi30, hz30, hs30, hb30⟩ := iEnt
  have und30 := undE
  have hcm : cap ≤ 9223372036854775807 := by
    rcases h.2 with ⟨h', _⟩ | ⟨_, c', cur, h', _, _, _, hm, _⟩
    · cases h'
    · injection h' with _ _ h'; subst h'; unfold maxLen at hm; omega
  obtain ⟨ys, hys, hown⟩ := own_more h (l.length + 1) (by omega) hc
  obtain ⟨n1, hn1⟩ : ∃ n1, l.length + 1 = n1 := ⟨_, rfl⟩
  rw [hn1] at hown hys
  obtain ⟨i1, hi1⟩ : ∃ i1, i + 1 = i1 := ⟨_, rfl⟩
  have hgr := hown
  obtain ⟨cur, hcur, hcs⟩ : ∃ cur, w.heap[g]? = some (.cells cur 76 (0, 0)) ∧ cur.size = cap * 2 := by
    rcases h.2 with ⟨h', _⟩ | ⟨g', c', cur, h', _, hg', _, _, hcs, _⟩
    · cases h'
    · injection h' with e1 _ e2; injection e1 with e1; injection e1 with e1; subst e1 e2; exact ⟨cur, hg', hcs⟩
  have hsz : (Try.prog.info? 76).map (·.size) = some 2 := by rw [hi30]; simp [hs30]
  have hov : ∀ lb cb, (callFunc 62 #[.slice (some ⟨vb, 0, none⟩) 1 1, .slice (some ⟨g, i1 * 2, none⟩) lb cb]).run Try.prog w = .ok (.value (.bool false)) w := fun lb cb => by
    rw [run_callFunc_extern Try.func62 (by kernel_rfl) (by kernel_rfl) (by kernel_rfl) (e := Extern.SlicesOverlaps.overlaps #[62, 62] #[4]) (by kernel_rfl),
      Lib.run_overlaps_apart w 62 4 76 und30 2 (fun W => by simp [sizeOf, typeInfo, hi30, hs30]) ⟨vb, 0, none⟩ ⟨g, i1 * 2, none⟩ 1 1 lb cb hvg 76 76 2 (cap * 2) (by
        have := hv
        unfold Bk at this
        unfold World.shape?
        rw [this]; rfl) (by
        unfold World.shape?
        rw [hcur, ← hcs]) (by omega) (hv.frozen 0) (hv.frozen 2)]
    rfl
  have HO := Lib.hid h
  have HOW := Lib.hid hown
  have HV := Lib.hid (newsE hv)
  have HVL := Lib.hid hv.lt
  have HI := Lib.hid hi
  have HI1 := Lib.hid hi1
  have HN1 := Lib.hid hn1
  have HYS := Lib.hid hys
  have HVG := Lib.hid hvg
  have HL := Lib.hid hl
  have l0 : (0 : Int) ≤ (i : Int) := by omega
  have l1 : (i : Int) ≤ (l.length : Int) := by omega
  have l2 : ¬ ((i : Int) = (l.length : Int)) := by omega
  have wk : IntKind.i64.wrap ((l.length : Int) + 1) = (n1 : Int) := by rw [show (l.length : Int) + 1 = (n1 : Int) by omega]; exact IntWalk.i64_in _ (by omega)
  have wk3 : IntKind.i64.wrap ((i : Int) + 1) = (i1 : Int) := by rw [show (i : Int) + 1 = (i1 : Int) by omega]; exact IntWalk.i64_in _ (by omega)
  have l3 : ¬ ((cap : Int) < (n1 : Int)) := by omega
  have l4 : (n1 : Int) ≤ (cap : Int) := by omega
  have l5 : (0 : Int) ≤ (n1 : Int) := by omega
  have l6 : (0 : Int) ≤ (i1 : Int) := by omega
  have l7 : (i1 : Int) ≤ (n1 : Int) := by omega
  have l8 : (i : Int) ≤ (n1 : Int) := by omega
  have l9 : ¬ (cap = i) := by omega
  have l10 : ¬ (cap = i1) := by omega
  have HC1 : Hid (n1 ≤ cap) := Lib.hid (by omega)
  obtain ⟨R, hR⟩ : ∃ R, l.take i ++ x :: l.drop i = R := ⟨_, rfl⟩
  have hrl : R.length = n1 := by rw [← hR, insLen l i x (by omega)]; exact hn1
  have HR := Lib.hid hR
  have HRL := Lib.hid hrl
  rw [hR]
  unfold InsP
  rw [hrl]
  clear h hv hi hi1 hn1 hys hown hgr hcur hcs hsz hvg hl hc hR hrl hcm
  go_enter Try.func48, Try.ntmps48
  go_wp2_with fail
  have hdl : (eC (l.drop i)).length = (l.length - i) * 2 := by rw [eC_len, List.length_drop]
  have hm2 : Nat.min (n1 - i) (n1 - i1) = l.length - i := by have := HI.out; have := HN1.out; have := HI1.out; rw [show Nat.min (n1 - i) (n1 - i1) = n1 - i1 from Nat.min_eq_right (by omega)]; omega
  have hsrc : ∀ j v, (eC (l.drop i))[j]? = some v → w.cell? ((⟨g, i * 2, none⟩ : Addr).add j) = some v := by
    intro j v hj
    rw [eC_drop, List.getElem?_drop] at hj
    have h1 := World.ownsRow.cells HO.out (g := g) rfl (i * 2 + j) v hj
    rw [Addr.add_lit, Nat.zero_add] at h1
    rw [Addr.add_lit]; exact h1
  have HSRC := Lib.hid hsrc
  have HDL := Lib.hid hdl
  have HM2 := Lib.hid hm2
  have hfit : i1 * 2 + (eC (l.drop i)).length ≤ n1 * 2 := by rw [hdl]; have := HI.out; have := HN1.out; have := HI1.out; omega
  have HFIT := Lib.hid hfit
  clear hsrc hdl hm2 hfit hov
  go_region_law (refine step_copy2 rfl _ _ 62 62 rfl i30 und30 hi30 hs30 (i1 * 2) (n1 - i1) (cap - i1) (some ⟨g, i * 2, none⟩) (n1 - i) (cap - i) (by simp [Act.eval, Act.put]) (by simp [Act.eval, Act.put]) HOW.out.drew (eC (l.drop i)) (by rw [HM2.out]; exact HDL.out) (fun _ => ⟨_, rfl, HSRC.out⟩) HFIT.out (eC_one _) ?_; intro w4 ho4 hg4)
  have HO4 := Lib.hid ho4
  have HG4 := Lib.hid hg4
  have hv4 : ∀ j u, (eRow x)[j]? = some u → w4.cell? ((⟨vb, 0, none⟩ : Addr).add j) = some u := fun j u hu => (hg4.cell (a := (⟨vb, 0, none⟩ : Addr).add j) (HV.out j u hu) (by rw [Addr.add_lit]; intro e; injection e with e; exact HVG.out e))
  have HV4 := Lib.hid hv4
  have hm1 : Nat.min 1 (n1 - i) = 1 := Nat.min_eq_left (by have := HI.out; have := HN1.out; omega)
  have HM1 := Lib.hid hm1
  have hfit2 : i * 2 + (eRow x).length ≤ n1 * 2 := by show i * 2 + 2 ≤ n1 * 2; have := HI.out; have := HN1.out; omega
  have HFIT2 := Lib.hid hfit2
  clear ho4 hg4 hv4 hm1 hfit2
  go_wp2_with (refine wpList_copy2 rfl _ _ 62 62 rfl i30 und30 hi30 hs30 _ _ _ _ _ _ rfl rfl HO4.out (eRow x) (by rw [HM1.out]; rfl) (fun _ => ⟨_, rfl, HV4.out⟩) HFIT2.out (eRow_one x) ?_; intro w5 ho5 hg5)
  have HG5 := Lib.hid hg5
  have ho6 : EQ B w5 (.slice (some ⟨g, 0, none⟩) n1 cap) R := by
    refine EQ.of ho5 HRL.out ?_
    have e1 : eC l = eC (l.take i) ++ eC (l.drop i) := by rw [← eC_app, List.take_append_drop]
    have e2 : i1 * 2 = i * 2 + 2 := by have := HI1.out; omega
    rw [e1, e2, splice_shift (eC (l.take i)) (eC (l.drop i)) ys (eRow x) (i * 2) 2 (by rw [eC_len, List.length_take]; have := HI.out; omega) (by rw [HYS.out]; have := HN1.out; omega) rfl, ← HR.out, eC_app, show x :: l.drop i = [x] ++ l.drop i from rfl, eC_app, eC_single, List.append_assoc]
  have HO6 := Lib.hid ho6
  clear ho5 hg5 ho6
  go_wp2
  go_ret
  exact ⟨some ⟨g, 0, none⟩, cap, rfl, HO6.out, ⟨HG5.out.os.trans HG4.out.os, HG5.out.tape.trans HG4.out.tape, HG5.out.output.trans HG4.out.output, Nat.le_trans HG4.out.size HG5.out.size, fun k hk hn => (HG5.out.block k (Nat.lt_of_lt_of_le hk HG4.out.size) hn).trans (HG4.out.block k hk hn)⟩, fun q hq => .inl hq⟩
theorem splice_end {α : Type} (A Z X : List α) (k : Nat) (hk : A.length = k) (h : X.length ≤ Z.length) : splice (A ++ Z) k X = A ++ X ++ Z.drop X.length := by
  subst hk
  unfold splice
  rw [List.take_left, List.drop_append, List.drop_of_length_le (by omega : A.length ≤ A.length + X.length), List.nil_append, ← List.append_assoc]
  congr 2
  omega
theorem splice_ins {α : Type} (A Z X Y : List α) (k m : Nat) (hk : A.length = k) (hm : k + X.length = m) (hz : Z.length = X.length + Y.length) : splice (splice (A ++ Z) k X) m Y = A ++ (X ++ Y) := by
  rw [splice_end A Z X k hk (by omega)]
  have h2 : (A ++ X).length = m := by rw [List.length_append]; omega
  have h3 : (Z.drop X.length).length = Y.length := by rw [List.length_drop]; omega
  rw [splice_end (A ++ X) (Z.drop X.length) Y m h2 (by omega), List.drop_of_length_le (by omega), List.append_nil, List.append_assoc]
set_option maxHeartbeats 4000000 in
theorem eins_grow (B g : Nat) (l : List Rs) (i : Nat) (x : Rs) (vb : Nat) (w : World) (h : EQ B w (.slice (some ⟨g, 0, none⟩) l.length l.length) l) (hv : Bk w vb 76 #[.int .i64 x.1, .int .i64 x.2]) (hi : i < l.length) (hl : l.length ≤ 1000000) (hB : B ≤ w.heap.size) :
    Calls Try.prog 48 #[.slice (some ⟨g, 0, none⟩) l.length l.length, .int .i64 (i : Int), .slice (some ⟨vb, 0, none⟩) 1 1] w (InsP B (some g) (l.take i ++ x :: l.drop i) w) := by
  obtain ⟨i30, hi30, hz30, hs30, hb30⟩ := iEnt
  have und30 := undE
  have HO := Lib.hid h
  have HB := Lib.hid hB
  have HL := Lib.hid hl
  have HGL := Lib.hid (h.lt g rfl).2
  have HVL := Lib.hid hv.lt
  have HV := Lib.hid (newsE hv)
  obtain ⟨R, hR⟩ : ∃ R, l.take i ++ x :: l.drop i = R := ⟨_, rfl⟩
  obtain ⟨n1, hn1⟩ : ∃ n1, l.length + 1 = n1 := ⟨_, rfl⟩
  have hrl : R.length = n1 := by rw [← hR, insLen l i x (by omega)]; exact hn1
  have HR := Lib.hid hR
  have HRL := Lib.hid hrl
  have HN1 := Lib.hid hn1
  have HIL := Lib.hid hi
  rw [hR]
  unfold InsP
  rw [hrl]
  have l0 : (0 : Int) ≤ (i : Int) := by omega
  have l1 : (i : Int) ≤ (l.length : Int) := by omega
  have wk : IntKind.i64.wrap ((l.length : Int) + 1) = (n1 : Int) := by rw [show (l.length : Int) + 1 = (n1 : Int) by omega]; exact IntWalk.i64_in _ (by omega)
  obtain ⟨k, hk⟩ : ∃ k, n1 - i = k := ⟨_, rfl⟩
  have HK := Lib.hid hk
  have wk2 : IntKind.i64.wrap ((n1 : Int) - (i : Int)) = (k : Int) := by rw [show (n1 : Int) - (i : Int) = (k : Int) by omega]; exact IntWalk.i64_in _ (by omega)
  have l2 : ¬ ((i : Int) = (l.length : Int)) := by omega
  have l3 : (l.length : Int) < (n1 : Int) := by omega
  have l4 : ¬ (l.length = i) := by omega
  obtain ⟨i1, hi1⟩ : ∃ i1, i + 1 = i1 := ⟨_, rfl⟩
  have HI1 := Lib.hid hi1
  have wk3 : IntKind.i64.wrap ((i : Int) + 1) = (i1 : Int) := by rw [show (i : Int) + 1 = (i1 : Int) by omega]; exact IntWalk.i64_in _ (by omega)
  have hbig : (i + k) * 16 ≤ 140737488355328 := by omega
  obtain ⟨c, w1, hrun, hown, hgr⟩ := run_app_zeros (P := Try.prog) (w := w) (B := B) (z := 2) (e := 76) 62 3 62 i30 #[.int .i64 0, .int .i64 0] 16 .i64 .i64 und30 Try.underlying3 hi30 hz30 rfl (by omega) hs30 hb30
    (some ⟨g, 0, none⟩) i l.length (eC (l.take i)) (by rw [eC_len, List.length_take]; omega) (fun _ => ⟨_, rfl, fun j v hj => by
      rw [eC_take, List.getElem?_take] at hj
      split at hj
      · have := World.ownsRow.cells HO.out (g := g) rfl j v hj
        exact this
      · cases hj⟩) k (by omega) (by omega) HB.out hbig (by unfold maxLen; omega)
  have hik : i + k = n1 := by omega
  rw [hik] at hrun hown
  have hcap : n1 ≤ c := by
    rcases hown.2 with ⟨h', _⟩ | ⟨g', cap', cur, h', _, _, hnc, _⟩
    · cases h'
    · injection h' with _ _ h'; omega
  have l5 : (n1 : Int) ≤ (c : Int) := by omega
  have l6 : ¬ (c = i) := by omega
  have l7 : ¬ (c = i1) := by omega
  have l8 : (i : Int) ≤ (n1 : Int) := by omega
  have l9 : (i1 : Int) ≤ (n1 : Int) := by omega
  have l10 : (0 : Int) ≤ (i1 : Int) := by omega
  have HIK := Lib.hid hik
  have HC := Lib.hid hcap
  have HOW := Lib.hid hown
  have HGR := Lib.hid hgr
  have HX : Hid (∀ j u, (eRow x)[j]? = some u → w1.cell? ((⟨vb, 0, none⟩ : Addr).add j) = some u) := Lib.hid fun j u hu => hgr.cell (a := (⟨vb, 0, none⟩ : Addr).add j) (HV.out j u hu) (by simp)
  clear h hv hi hl hB hR hn1 hrl hk hi1 hown hgr hik hcap hbig
  obtain ⟨H, hH⟩ : ∃ H, w.heap.size = H := ⟨_, rfl⟩
  have HH := Lib.hid hH
  rw [hH] at hrun HOW
  clear hH
  go_enter Try.func48, Try.ntmps48
  go_wp2_with (first
    | (at_builtin; refine Lib.wpList_append_run _ rfl _ _ _ _ rfl _ _ rfl rfl _ _ hrun ?_)
    | (refine wpList_copy2 rfl _ _ 62 62 rfl i30 und30 hi30 hs30 _ _ _ _ _ _ rfl rfl HOW.out (eRow x) ?d1 ?d2 ?d3 (eRow_one x) ?_))
  case d1 =>
    have := HIL.out; have := HN1.out
    rw [show Nat.min 1 (n1 - i) = 1 from Nat.min_eq_left (by omega)]; rfl
  case d2 => first
    | exact fun _ => ⟨_, rfl, HX.out⟩
    | (intro j v hj; have h9 := HX.out j v hj; rw [Addr.add_lit, Nat.zero_add] at h9; exact h9)
    | (intro _ j v hj; have h9 := HX.out j v hj; rw [Addr.add_lit, Nat.zero_add] at h9; exact h9)
  case d3 =>
    have := HIL.out; have := HN1.out
    show i * 2 + 2 ≤ n1 * 2
    omega
  intro w3 ho3 hg3
  have hm1 : Nat.min 1 (n1 - i) = 1 := Nat.min_eq_left (by have := HIL.out; have := HN1.out; omega)
  have hm2 : Nat.min (l.length - i) (n1 - i1) = l.length - i := Nat.min_eq_left (by have := HIL.out; have := HN1.out; have := HI1.out; omega)
  have hdl : (eC (l.drop i)).length = (l.length - i) * 2 := by rw [eC_len, List.length_drop]
  have hsrc : ∀ j v, (eC (l.drop i))[j]? = some v → w3.cell? ((⟨g, i * 2, none⟩ : Addr).add j) = some v := by
    intro j v hj
    rw [eC_drop, List.getElem?_drop] at hj
    have h1 := World.ownsRow.cells HO.out (g := g) rfl (i * 2 + j) v hj
    rw [Addr.add_lit, Nat.zero_add] at h1
    rw [Addr.add_lit]
    have hne : g ≠ H := by have := HGL.out; have := HH.out; omega
    exact hg3.cell (a := ⟨g, i * 2 + j, none⟩) (HGR.out.cell (a := ⟨g, i * 2 + j, none⟩) h1 (by simp)) (fun e => hne (by injection e))
  have hfit : i1 * 2 + (eC (l.drop i)).length ≤ n1 * 2 := by rw [hdl]; have := HIL.out; have := HN1.out; have := HI1.out; omega
  have HFIT := Lib.hid hfit
  have HSRC := Lib.hid hsrc
  have HO3 := Lib.hid ho3
  have HG3 := Lib.hid hg3
  have HM2 := Lib.hid hm2
  have HDL := Lib.hid hdl
  clear hsrc ho3 hg3 hm2 hdl hfit
  rw [hm1]
  clear hm1
  go_wp2_with fail
  go_region_law (refine step_copy2 rfl _ _ 62 62 rfl i30 und30 hi30 hs30 (i1 * 2) (n1 - i1) (c - i1) (some ⟨g, i * 2, none⟩) (l.length - i) (l.length - i) (by simp [Act.eval, Act.put]) (by simp [Act.eval, Act.put]) HO3.out.drew (eC (l.drop i)) (by rw [HM2.out]; exact HDL.out) (fun _ => ⟨_, rfl, HSRC.out⟩) HFIT.out (eC_one _) ?_; intro w4 ho4 hg4)
  have HO4 := Lib.hid ho4
  have HG4 := Lib.hid hg4
  clear ho4 hg4
  go_wp2
  go_ret
  have hO : EQ B w4 (.slice (some ⟨H, 0, none⟩) n1 c) R := by
    refine EQ.of HO4.out HRL.out ?_
    rw [splice_ins _ _ _ _ _ _ (by rw [eC_len, List.length_take, Nat.min_eq_left (Nat.le_of_lt HIL.out)]) (by have := HI1.out; show i * 2 + 2 = i1 * 2; omega) (by rw [fz_len (z := 2) (Uni.rep rfl), List.length_replicate, HDL.out]; have := HIK.out; have := HN1.out; have := HIL.out; show k * 2 = 2 + _; omega), ← HR.out, eC_app, show x :: l.drop i = [x] ++ l.drop i from rfl, eC_app, eC_single]
  have hG : w.grownBy w4 (some g) := by
    have g1 := HGR.out
    have hsz := HH.out
    refine ⟨HG4.out.os.trans (HG3.out.os.trans g1.os), HG4.out.tape.trans (HG3.out.tape.trans g1.tape), HG4.out.output.trans (HG3.out.output.trans g1.output), Nat.le_trans g1.size (Nat.le_trans HG3.out.size HG4.out.size), fun q hq _ => ?_⟩
    have hqH : some q ≠ some H := fun e => by injection e with e; omega
    have h1 := g1.size
    exact (HG4.out.block q (Nat.lt_of_lt_of_le hq (Nat.le_trans h1 HG3.out.size)) hqH).trans ((HG3.out.block q (Nat.lt_of_lt_of_le hq h1) hqH).trans (g1.block q hq (by simp)))
  exact ⟨some ⟨H, 0, none⟩, c, rfl, hO, hG, fun q hq => .inr (by have hq2 : H = q := (by injection hq); have := HH.out; omega)⟩
/-- one entry let in, at any place -/
theorem einsert_any (B : Nat) (v : Value) (l : List Rs) (i : Nat) (x : Rs) (vb : Nat) (w : World) (h : EQ B w v l) (hv : Bk w vb 76 #[.int .i64 x.1, .int .i64 x.2]) (hvg : ∀ q, v.ownBlock = some q → vb ≠ q) (hi : i ≤ l.length) (hl : l.length ≤ 1000000) (hB : B ≤ w.heap.size) :
    Calls Try.prog 48 #[v, .int .i64 (i : Int), .slice (some ⟨vb, 0, none⟩) 1 1] w (InsP B v.ownBlock (l.take i ++ x :: l.drop i) w) := by
  by_cases he : i = l.length
  · subst he
    rw [List.take_of_length_le (Nat.le_refl _), List.drop_of_length_le (Nat.le_refl _)]
    exact eins_end B v l x vb w h hv hl hB
  · rcases h.inv with ⟨rfl, rfl⟩ | ⟨g, cap, rfl, hcap, hmx, hBg, hgl⟩
    · simp at hi he; omega
    · by_cases hc : l.length + 1 ≤ cap
      · exact eins_shift B g cap l i x vb w h hv (hvg g rfl) (by omega) hc hl
      · have : cap = l.length := by omega
        subst this
        exact eins_grow B g l i x vb w h hv (by omega) hl hB
end Go.Proofs.Ytochjbmighijgaa.PO
