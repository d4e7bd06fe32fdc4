/- The document's Leader, Waits, Land. Conditions: how many. -/
import Derived.Test.YtldpamlmnganmaaFpe
namespace Go.Proofs.Ytldpamlmnganmaa.FL
open Go.ChangeShapes Go.WideShapes Go.ChangeAt Go.RowKit Go.Maps Go.ChangeMaps
open Go.Proofs.Ytldpamlmnganmaa.SL
set_option maxRecDepth 100000
set_option linter.unusedVariables false
set_option linter.unusedSimpArgs false

/-- at block r the document's board, of these flights -/
def RB (B : Nat) (w : World) (r : Nat) (S : List Fl) : Prop := ∃ X v, RT B w r X v ∧ pl X = S
/-- what a step of it leaves -/
structure RS (B r : Nat) (S : List Fl) (w w' : World) : Prop where
  rb : RB B w' r S
  bel : Below B w w'
  kr : Kr w w'
/-- few flights, of few clients -/
structure Sm (S : List Fl) : Prop where
  wf : WF S
  nd : ∀ t ∈ S, t.2.Nodup
  len : S.length ≤ 1000
  each : ∀ t ∈ S, t.2.length ≤ 1000
section
variable {B r : Nat} {w w' : World} {S : List Fl} {X : List Xr} {v : Value}
theorem RB.below (h : RB B w r S) (hb : Below w.heap.size w w') : RB B w' r S := by
  obtain ⟨X, v, h1, h2⟩ := h
  exact ⟨X, v, h1.below hb, h2⟩
theorem RB.kf (h : RB B w r S) (hk : Kf w w') : RB B w' r S := by
  obtain ⟨X, v, h1, h2⟩ := h
  exact ⟨X, v, h1.kf hk, h2⟩
theorem RT.pick {i : Nat} {t : Fl} (h : (pl X)[i]? = some t) : ∃ u, X[i]? = some (t.1, u, t.2) := by
  unfold pl at h
  rw [List.getElem?_map] at h
  cases hx : X[i]? with
  | none => rw [hx] at h; cases h
  | some x =>
    rw [hx] at h
    injection h with h
    subst h
    exact ⟨x.2.1, rfl⟩
theorem pl_len (X : List Xr) : (pl X).length = X.length := List.length_map ..
theorem OI.inv {d : List Int} (h : OI B w v d) (hd : d ≠ []) : ∃ g cap, v = .slice (some ⟨g, 0, none⟩) d.length cap ∧ d.length ≤ cap ∧ ∀ (i : Nat) (x : Int), d[i]? = some x → w.cell? ⟨g, i, none⟩ = some (nV x) := by
  rcases h.2 with ⟨rfl, hz⟩ | ⟨g, cap, cur, rfl, hb, hh, hc, hm, hs, ht⟩
  · exact absurd (List.eq_nil_of_length_eq_zero hz) hd
  · refine ⟨g, cap, rfl, hc, fun i x hi => ?_⟩
    have := World.ownsRow.cells h (g := g) rfl i (nV x) (by rw [List.getElem?_map, hi]; rfl)
    rw [Addr.add_lit, Nat.zero_add] at this
    exact this
theorem Sm.x (h : Sm S) (hp : pl X = S) : X.length ≤ 100000 ∧ ∀ x ∈ X, x.2.2.length ≤ 1000000 := by
  refine ⟨by rw [← pl_len, hp]; have := h.len; omega, fun x hx => ?_⟩
  have := h.each (x.1, x.2.2) (by rw [← hp]; exact List.mem_map.2 ⟨x, hx, rfl⟩)
  simp only at this
  omega
end
set_option maxHeartbeats 8000000 in
theorem rlead_any {B r : Nat} {w : World} {S : List Fl} {X : List Xr} {v : Value} (h : RT B w r X v) (hp : pl X = S) (hs : Sm S) (k : Ky) :
    Calls Try.prog 20 #[ptr r, kyV k] w (RdP (.tuple #[.int .i64 (leadS S k).1, .bool (leadS S k).2]) w) := by
  obtain ⟨W0, hW0⟩ : ∃ W, w.alloc (.cells (kC k) 38) = W := ⟨_, rfl⟩
  obtain ⟨kb, hkb⟩ : ∃ b, w.heap.size = b := ⟨_, rfl⟩
  have b0 : Below w.heap.size w W0 := by rw [← hW0]; exact (Below.refl _ _).alloc (Nat.le_refl _) _
  have kk : Bk W0 kb 38 (kC k) := by rw [← hW0, ← hkb]; exact Bk.new _ _ _
  have HB0 := Lib.hid b0
  have HFI := Lib.hid (rfind_any (h.below b0) (hs.x hp).1 k)
  rw [hp] at HFI
  cases hpo : pos (isK k) S with
  | none =>
    unfold leadS
    rw [findF_npos hpo]
    rw [hpo] at HFI
    have HFJ : Hid (Calls Try.prog 29 #[ptr r, kyV k] W0 (RdP (.int .i64 (-1)) W0)) := HFI
    clear HFI
    obtain ⟨db, ro, fm, no⟩ := k
    have a0 : W0.cell? ⟨kb, 0, none⟩ = some (.string db) := kk.cell 0
    have a1 : W0.cell? ⟨kb, 1, none⟩ = some (.string ro) := kk.cell 1
    have a2 : W0.cell? ⟨kb, 2, none⟩ = some (.int .i64 fm) := kk.cell 2
    have a3 : W0.cell? ⟨kb, 3, none⟩ = some (.string no) := kk.cell 3
    clear h hp hs kk b0 hpo
    go_enter Try.func20, Try.ntmps20
    go_wp2_with fail
    try rw [hW0]
    try rw [hkb]
    go_wp2_with fail
    refine HFJ.out.mono ?_
    rintro e w2 ⟨rfl, hb2⟩
    have HB2 := Lib.hid (HB0.out.trans (hb2.mono HB0.out.size))
    clear hb2
    go_wp2
    go_ret2
    exact ⟨rfl, HB2.out⟩
  | some i =>
    obtain ⟨l, hSi, hf⟩ := findF_pos hpo
    obtain ⟨u, hxi⟩ := RT.pick (X := X) (by rw [hp]; exact hSi)
    simp only at hxi
    obtain ⟨n, hn⟩ : ∃ n, X.length = n := ⟨_, rfl⟩
    have hin : i < n := by rw [← hn]; exact (List.getElem?_eq_some_iff.1 hxi).1
    have hn5 : n ≤ 100000 := by rw [← hn]; exact (hs.x hp).1
    have l0 : (0 : Int) ≤ (i : Int) := by omega
    have l1 : (i : Int) < (n : Int) := by omega
    have l2 : ¬ ((i : Int) < 0) := by omega
    unfold leadS
    rw [hf]
    rw [hpo] at HFI
    have HFJ : Hid (Calls Try.prog 29 #[ptr r, kyV k] W0 (RdP (.int .i64 (i : Int)) W0)) := HFI
    clear HFI
    have H := Lib.hid (h.below b0)
    have HXI := Lib.hid hxi
    have HN := Lib.hid hn
    obtain ⟨hd, hhd⟩ : ∃ x, l.headD 0 = x := ⟨_, rfl⟩
    show Calls _ _ _ _ (RdP (.tuple #[.int .i64 (l.headD 0), .bool true]) w)
    rw [hhd]
    have HHD := Lib.hid hhd
    obtain ⟨db, ro, fm, no⟩ := k
    have a0 : W0.cell? ⟨kb, 0, none⟩ = some (.string db) := kk.cell 0
    have a1 : W0.cell? ⟨kb, 1, none⟩ = some (.string ro) := kk.cell 1
    have a2 : W0.cell? ⟨kb, 2, none⟩ = some (.int .i64 fm) := kk.cell 2
    have a3 : W0.cell? ⟨kb, 3, none⟩ = some (.string no) := kk.cell 3
    clear h hp hs kk b0 hpo hSi hf hxi hn hhd
    go_enter Try.func20, Try.ntmps20
    go_wp2_with fail
    try rw [hW0]
    try rw [hkb]
    go_wp2_with fail
    refine HFJ.out.mono ?_
    rintro e w2 ⟨rfl, hb2⟩
    have HB2 := Lib.hid (HB0.out.trans (hb2.mono HB0.out.size))
    have h := H.out
    have hxi := HXI.out
    have hn := HN.out
    have hr9 := (h.below hb2)
    obtain ⟨g, cap, hv, hx⟩ := hr9.at_ hxi
    have hn9 : X.length = n := hn
    rw [hn9] at hv
    subst hv
    obtain ⟨hoi, hne⟩ := hr9.list hxi
    obtain ⟨lb, lc, hlv, hlc, hcl⟩ := OI.inv hoi hne
    simp only at hlv hlc hcl
    subst hlv
    have c0 : w2.cell? ⟨r, 0, none⟩ = some (.slice (some ⟨g, 0, none⟩) n cap) := by exact hr9.bk.cell 0
    have x0 : w2.cell? ⟨g, i * 5, none⟩ = some (.string db) := hx 0 _ rfl
    have x1 : w2.cell? ⟨g, i * 5 + 1, none⟩ = some (.string ro) := hx 1 _ rfl
    have x2 : w2.cell? ⟨g, i * 5 + 2, none⟩ = some (.int .i64 fm) := hx 2 _ rfl
    have x3 : w2.cell? ⟨g, i * 5 + 3, none⟩ = some (.string no) := hx 3 _ rfl
    have x4 : w2.cell? ⟨g, i * 5 + 4, none⟩ = some (.slice (some ⟨lb, 0, none⟩) l.length lc) := hx 4 _ rfl
    obtain ⟨tl, hlt⟩ : ∃ b, l = hd :: b := by
      have := HHD.out
      cases l with
      | nil => exact absurd rfl hne
      | cons a b => exact ⟨b, by rw [← this]; rfl⟩
    have y0 : w2.cell? ⟨lb, 0, none⟩ = some (.int .i64 hd) := hcl 0 hd (by rw [hlt]; rfl)
    have hll : (0 : Int) < (l.length : Int) := by rw [hlt, List.length_cons]; omega
    obtain ⟨ln, hln⟩ : ∃ n, l.length = n := ⟨_, rfl⟩
    rw [hln] at x4 hll
    clear h hxi hn hr9 hx hn9 hoi hne hlc hcl hlt hb2 hln
    go_wp2
    go_ret2
    exact ⟨rfl, HB2.out⟩
set_option maxHeartbeats 8000000 in
theorem rwaits_any {B r : Nat} {w : World} {S : List Fl} {X : List Xr} {v : Value} (h : RT B w r X v) (hp : pl X = S) (hs : Sm S) (c : Int) :
    Calls Try.prog 22 #[ptr r, .int .i64 c] w (RdP (.tuple #[kyV (waitS S c).1, .bool (waitS S c).2]) w) := by
  obtain ⟨W0, hW0⟩ : ∃ W, w.alloc (.cells #[.string ⟨#[]⟩, .string ⟨#[]⟩, .int .i64 0, .string ⟨#[]⟩] 38) = W := ⟨_, rfl⟩
  obtain ⟨kb, hkb⟩ : ∃ b, w.heap.size = b := ⟨_, rfl⟩
  have b0 : Below w.heap.size w W0 := by rw [← hW0]; exact (Below.refl _ _).alloc (Nat.le_refl _) _
  have kk : Bk W0 kb 38 #[.string ⟨#[]⟩, .string ⟨#[]⟩, .int .i64 0, .string ⟨#[]⟩] := by rw [← hW0, ← hkb]; exact Bk.new _ _ _
  have HB0 := Lib.hid b0
  have HKB : Hid (w.heap.size ≤ kb) := Lib.hid (Nat.le_of_eq hkb)
  have HKK := Lib.hid kk
  have HOF := Lib.hid (rof_any (h.below b0) (hs.x hp).1 c (hs.x hp).2)
  rw [hp] at HOF
  have q0 : W0.cell? ⟨kb, 0, none⟩ = some (.string ⟨#[]⟩) := kk.cell 0
  have q1 : W0.cell? ⟨kb, 1, none⟩ = some (.string ⟨#[]⟩) := kk.cell 1
  have q2 : W0.cell? ⟨kb, 2, none⟩ = some (.int .i64 0) := kk.cell 2
  have q3 : W0.cell? ⟨kb, 3, none⟩ = some (.string ⟨#[]⟩) := kk.cell 3
  have f0 := kk.frozen 0
  have f1 := kk.frozen 1
  have f2 := kk.frozen 2
  have f3 := kk.frozen 3
  cases hpo : pos (hasC c) S with
  | none =>
    rw [show waitS S c = (zKy, false) by unfold waitS; rw [ofF_npos hpo]; rfl]
    rw [hpo] at HOF
    have HOG : Hid (Calls Try.prog 28 #[ptr r, .int .i64 c] W0 fun e w' => e = .returned (.int .i64 (-1)) ∧ W0 = w') := HOF
    clear HOF h hp hs kk b0 hpo
    go_enter Try.func22, Try.ntmps22
    go_wp2_with fail
    try rw [hW0]
    try rw [hkb]
    refine HOG.out.mono ?_
    rintro e w2 ⟨rfl, rfl⟩
    go_wp2
    have k5 := (((HKK.out.set_ 0 (.string ⟨#[]⟩)).set_ 1 (.string ⟨#[]⟩)).set_ 2 (.int .i64 0)).set_ 3 (.string ⟨#[]⟩)
    have r0 := k5.cell 0
    have r1 := k5.cell 1
    have r2 := k5.cell 2
    have r3 := k5.cell 3
    simp at r0 r1 r2 r3
    refine bodyPost_ret (v := .tuple #[kyV zKy, .bool false]) (by simp [results, Try.results22, go_sem, r0, r1, r2, r3, zKy]) rfl ?_
    exact ⟨rfl, (((HB0.out.setCell (p := ⟨kb, 0, none⟩) HKB.out _).setCell (p := ⟨kb, 1, none⟩) HKB.out _).setCell (p := ⟨kb, 2, none⟩) HKB.out _).setCell (p := ⟨kb, 3, none⟩) HKB.out _⟩
  | some i =>
    obtain ⟨t, hSi, hf, hct⟩ := ofF_pos hpo
    obtain ⟨k, l⟩ := t
    obtain ⟨u, hxi⟩ := RT.pick (X := X) (by rw [hp]; exact hSi)
    simp only at hxi
    obtain ⟨n, hn⟩ : ∃ n, X.length = n := ⟨_, rfl⟩
    have hin : i < n := by rw [← hn]; exact (List.getElem?_eq_some_iff.1 hxi).1
    have hn5 : n ≤ 100000 := by rw [← hn]; exact (hs.x hp).1
    have l0 : (0 : Int) ≤ (i : Int) := by omega
    have l1 : (i : Int) < (n : Int) := by omega
    have l2 : ¬ ((i : Int) < 0) := by omega
    rw [show waitS S c = (k, true) by unfold waitS; rw [hf]; rfl]
    rw [hpo] at HOF
    have HOG : Hid (Calls Try.prog 28 #[ptr r, .int .i64 c] W0 fun e w' => e = .returned (.int .i64 (i : Int)) ∧ W0 = w') := HOF
    clear HOF
    obtain ⟨db, ro, fm, no⟩ := k
    have hr9 := (h.below b0)
    obtain ⟨g, cap, hv, hx⟩ := hr9.at_ hxi
    have hn9 : X.length = n := hn
    rw [hn9] at hv
    subst hv
    obtain ⟨hoi, hne⟩ := hr9.list hxi
    obtain ⟨lb, lc, hlv, hlc, hcl⟩ := OI.inv hoi hne
    simp only at hlv hlc hcl
    subst hlv
    have c0 : W0.cell? ⟨r, 0, none⟩ = some (.slice (some ⟨g, 0, none⟩) n cap) := by exact hr9.bk.cell 0
    have x0 : W0.cell? ⟨g, i * 5, none⟩ = some (.string db) := hx 0 _ rfl
    have x1 : W0.cell? ⟨g, i * 5 + 1, none⟩ = some (.string ro) := hx 1 _ rfl
    have x2 : W0.cell? ⟨g, i * 5 + 2, none⟩ = some (.int .i64 fm) := hx 2 _ rfl
    have x3 : W0.cell? ⟨g, i * 5 + 3, none⟩ = some (.string no) := hx 3 _ rfl
    have x4 : W0.cell? ⟨g, i * 5 + 4, none⟩ = some (.slice (some ⟨lb, 0, none⟩) l.length lc) := hx 4 _ rfl
    clear h hp hs kk b0 hpo hSi hf hct hxi hn hr9 hx hn9 hoi hne hlc hcl
    go_enter Try.func22, Try.ntmps22
    go_wp2_with fail
    try rw [hW0]
    try rw [hkb]
    refine HOG.out.mono ?_
    rintro e w2 ⟨rfl, rfl⟩
    go_wp2
    have k5 := (((HKK.out.set_ 0 (.string db)).set_ 1 (.string ro)).set_ 2 (.int .i64 fm)).set_ 3 (.string no)
    have r0 := k5.cell 0
    have r1 := k5.cell 1
    have r2 := k5.cell 2
    have r3 := k5.cell 3
    simp at r0 r1 r2 r3
    refine bodyPost_ret (v := .tuple #[kyV (db, ro, fm, no), .bool true]) (by simp [results, Try.results22, go_sem, r0, r1, r2, r3]) rfl ?_
    exact ⟨rfl, (((HB0.out.setCell (p := ⟨kb, 0, none⟩) HKB.out _).setCell (p := ⟨kb, 1, none⟩) HKB.out _).setCell (p := ⟨kb, 2, none⟩) HKB.out _).setCell (p := ⟨kb, 3, none⟩) HKB.out _⟩
/-- what is told of a closing, with what is left -/
def LnP (B r : Nat) (R : List Fl × Int × List Int × Bool) (w : World) (e : Ending) (w' : World) : Prop := ∃ v, e = .returned (.tuple #[.int .i64 R.2.1, v, .bool R.2.2.2]) ∧ IS w' v R.2.2.1 ∧ RS B r R.1 w w' ∧ Ki w w'
theorem chg_ki {w w' : World} {r : Nat} {cs : Array Value} (h : Bk w r 28 cs) (hc : Chg (fun b => b = r) w w') : Ki w w' := fun b cs' fr hb => hc.block b (Array.getElem?_eq_some_iff.1 hb).1 fun e => by
  subst e
  unfold Bk at h
  rw [h] at hb
  injection hb with hb
  injection hb with _ hb _
  exact absurd hb (by decide)
theorem RT.rs {B r : Nat} {w w' : World} {X Y : List Xr} {v u : Value} {T : List Fl} (h : RT B w r X v) (h2 : RT B w' r Y u) (hp : pl Y = T) (hc : Chg (fun b => b = r) w w') : RS B r T w w' :=
  ⟨⟨Y, u, h2, hp⟩, h.chg_below (Nat.le_trans h.bg (Nat.le_of_lt h.bk.lt)) (hc.mono fun b _ e => .inl e), h.chg_kr (hc.mono fun b _ e => .inl e)⟩
theorem RS.pre {B r : Nat} {S : List Fl} {w w1 w' : World} (hb : Below w.heap.size w w1) (hB : B ≤ w.heap.size) (h : RS B r S w1 w') : RS B r S w w' := ⟨h.rb, (hb.mono hB).trans h.bel, (Kr.below hb).trans h.kr⟩
theorem RS.post {B r : Nat} {S : List Fl} {w w1 w' : World} (h : RS B r S w w1) (hb : Below w1.heap.size w1 w') : RS B r S w w' := by
  obtain ⟨X, v, h1, h2⟩ := h.rb
  have hB := Nat.le_trans h1.bg (Nat.le_of_lt h1.bk.lt)
  exact ⟨⟨X, v, h1.below hb, h2⟩, h.bel.trans (hb.mono hB), h.kr.trans (Kr.below hb)⟩
theorem Ki.trans {a b c : World} (h : Ki a b) (k : Ki b c) : Ki a c := fun i cs fr hb => (k i cs fr ((h i cs fr hb).trans hb)).trans (h i cs fr hb)
theorem pl_cut {X : List Xr} {S : List Fl} (hp : pl X = S) (i : Nat) : pl (X.take i ++ X.drop (i + 1)) = S.take i ++ S.drop (i + 1) := by
  rw [← hp]
  unfold pl
  rw [List.map_append, List.map_take, List.map_drop]
set_option maxHeartbeats 8000000 in
theorem rland_any {B r : Nat} {w : World} {S : List Fl} {X : List Xr} {v : Value} (h : RT B w r X v) (hp : pl X = S) (hs : Sm S) (k : Ky) :
    Calls Try.prog 14 #[ptr r, kyV k] w (LnP B r (landS S k) w) := by
  obtain ⟨W0, hW0⟩ : ∃ W, w.alloc (.cells (kC k) 38) = W := ⟨_, rfl⟩
  obtain ⟨kb, hkb⟩ : ∃ b, w.heap.size = b := ⟨_, rfl⟩
  have b0 : Below w.heap.size w W0 := by rw [← hW0]; exact (Below.refl _ _).alloc (Nat.le_refl _) _
  have kk : Bk W0 kb 38 (kC k) := by rw [← hW0, ← hkb]; exact Bk.new _ _ _
  have HB0 := Lib.hid b0
  have HFI := Lib.hid (rfind_any (h.below b0) (hs.x hp).1 k)
  rw [hp] at HFI
  have hB : B ≤ w.heap.size := Nat.le_trans h.bg (Nat.le_of_lt h.bk.lt)
  have HBB := Lib.hid hB
  cases hpo : pos (isK k) S with
  | none =>
    rw [show landS S k = (S, 0, [], false) from land_none (findF_npos hpo)]
    rw [hpo] at HFI
    have HFJ : Hid (Calls Try.prog 29 #[ptr r, kyV k] W0 (RdP (.int .i64 (-1)) W0)) := HFI
    have HRB := Lib.hid (show RB B w r S from ⟨X, v, h, hp⟩)
    clear HFI
    obtain ⟨db, ro, fm, no⟩ := k
    have a0 : W0.cell? ⟨kb, 0, none⟩ = some (.string db) := kk.cell 0
    have a1 : W0.cell? ⟨kb, 1, none⟩ = some (.string ro) := kk.cell 1
    have a2 : W0.cell? ⟨kb, 2, none⟩ = some (.int .i64 fm) := kk.cell 2
    have a3 : W0.cell? ⟨kb, 3, none⟩ = some (.string no) := kk.cell 3
    clear h hp hs kk b0 hpo hB
    go_enter Try.func14, Try.ntmps14
    go_wp2_with fail
    try rw [hW0]
    try rw [hkb]
    go_wp2_with fail
    refine HFJ.out.mono ?_
    rintro e w2 ⟨rfl, hb2⟩
    have HB2 := Lib.hid (HB0.out.trans (hb2.mono HB0.out.size))
    clear hb2
    go_wp2
    refine bodyPost_ret (v := .tuple #[.int .i64 0, .slice none 0 0, .bool false]) (by simp [results, Try.results14, go_sem]) rfl ?_
    exact ⟨_, rfl, IS.nil _, ⟨HRB.out.below HB2.out, HB2.out.mono HBB.out, Kr.below HB2.out⟩, Ki.below HB2.out⟩
  | some i =>
    obtain ⟨l, hSi, hf⟩ := findF_pos hpo
    obtain ⟨u, hxi⟩ := RT.pick (X := X) (by rw [hp]; exact hSi)
    simp only at hxi
    obtain ⟨n, hn⟩ : ∃ n, X.length = n := ⟨_, rfl⟩
    have hin : i < n := by rw [← hn]; exact (List.getElem?_eq_some_iff.1 hxi).1
    have hn5 : n ≤ 100000 := by rw [← hn]; exact (hs.x hp).1
    have l0 : (0 : Int) ≤ (i : Int) := by omega
    have l1 : (i : Int) < (n : Int) := by omega
    have l2 : ¬ ((i : Int) < 0) := by omega
    rw [land_some hf]
    rw [hpo] at HFI
    have HFJ : Hid (Calls Try.prog 29 #[ptr r, kyV k] W0 (RdP (.int .i64 (i : Int)) W0)) := HFI
    clear HFI
    have H := Lib.hid (h.below b0)
    have HXI := Lib.hid hxi
    have HN := Lib.hid hn
    obtain ⟨hd, hhd⟩ : ∃ x, l.headD 0 = x := ⟨_, rfl⟩
    have HHD := Lib.hid hhd
    have HCL : Hid (pl (X.take i ++ X.drop (i + 1)) = closeS S k) := Lib.hid (by rw [pl_cut hp, close_at hs.wf.keys hSi])
    rw [hhd]
    obtain ⟨db, ro, fm, no⟩ := k
    have a0 : W0.cell? ⟨kb, 0, none⟩ = some (.string db) := kk.cell 0
    have a1 : W0.cell? ⟨kb, 1, none⟩ = some (.string ro) := kk.cell 1
    have a2 : W0.cell? ⟨kb, 2, none⟩ = some (.int .i64 fm) := kk.cell 2
    have a3 : W0.cell? ⟨kb, 3, none⟩ = some (.string no) := kk.cell 3
    clear h hp hs kk b0 hpo hSi hf hxi hn hhd hB
    go_enter Try.func14, Try.ntmps14
    go_wp2_with fail
    try rw [hW0]
    try rw [hkb]
    go_wp2_with fail
    refine HFJ.out.mono ?_
    rintro e w2 ⟨rfl, hb2⟩
    have HB2 := Lib.hid (HB0.out.trans (hb2.mono HB0.out.size))
    have h := H.out
    have hxi := HXI.out
    have hn := HN.out
    have hr9 := (h.below hb2)
    obtain ⟨g, cap, hv, hx⟩ := hr9.at_ hxi
    have hn9 : X.length = n := hn
    rw [hn9] at hv
    subst hv
    obtain ⟨hoi, hne⟩ := hr9.list hxi
    obtain ⟨lb, lc, hlv, hlc, hcl⟩ := OI.inv hoi hne
    simp only at hlv hlc hcl
    subst hlv
    have c0 : w2.cell? ⟨r, 0, none⟩ = some (.slice (some ⟨g, 0, none⟩) n cap) := by exact hr9.bk.cell 0
    have x0 : w2.cell? ⟨g, i * 5, none⟩ = some (.string db) := hx 0 _ rfl
    have x1 : w2.cell? ⟨g, i * 5 + 1, none⟩ = some (.string ro) := hx 1 _ rfl
    have x2 : w2.cell? ⟨g, i * 5 + 2, none⟩ = some (.int .i64 fm) := hx 2 _ rfl
    have x3 : w2.cell? ⟨g, i * 5 + 3, none⟩ = some (.string no) := hx 3 _ rfl
    have x4 : w2.cell? ⟨g, i * 5 + 4, none⟩ = some (.slice (some ⟨lb, 0, none⟩) l.length lc) := hx 4 _ rfl
    obtain ⟨tl, hlt⟩ : ∃ b, l = hd :: b := by
      have := HHD.out
      cases l with
      | nil => exact absurd rfl hne
      | cons a b => exact ⟨b, by rw [← this]; rfl⟩
    have hdr := rdrop_any hr9 (by omega) i (by omega)
    have HDR := Lib.hid hdr
    have HR9 := Lib.hid hr9
    have HIS := Lib.hid (show IS w2 (.slice (some ⟨lb, 0, none⟩) l.length lc) l from hoi.is)
    subst hlt
    obtain ⟨ln, hln⟩ : ∃ n, (hd :: tl).length = n := ⟨_, rfl⟩
    rw [hln] at x4 HIS hlc
    have HLN := Lib.hid hln
    have hl1 : (0 : Int) < (ln : Int) := by rw [← hln, List.length_cons]; omega
    have HLC : Hid (ln ≤ lc ∧ tl.length + 1 = ln) := Lib.hid ⟨hlc, by rw [← hln, List.length_cons]⟩
    clear h hxi hn hr9 hx hn9 hoi hne hlc hcl hb2 hln hdr x0 x1 x2 x3 a0 a1 a2 a3
    go_wp2_with fail
    refine HDR.out.mono ?_
    rintro e w3 ⟨rfl, v3, hrt3, hch3, _⟩
    have HIS3 := Lib.hid (HIS.out.ki (chg_ki HR9.out.bk hch3))
    have HRS := Lib.hid ((HR9.out.rs hrt3 HCL.out hch3).pre HB2.out HBB.out)
    have HKI : Hid (Ki w w3) := Lib.hid (fun b cs fr hb => by
      have h1 := (HB2.out.block b (Array.getElem?_eq_some_iff.1 hb).1)
      exact (chg_ki HR9.out.bk hch3 b cs fr (h1.trans hb)).trans h1)
    obtain ⟨_, _, _, he9, _, hx9⟩ := HIS3.out.at_ (by simp)
    rw [HLN.out] at he9
    injection he9 with e1 _ e2
    injection e1 with e1
    injection e1 with e3 e4 _
    have y0 := hx9 0 hd rfl
    rw [← e3, ← e4] at y0
    clear hrt3 hch3 hx9 e2 e3 e4 HDR c0 x4
    by_cases hc1 : lc = 1
    · have htl : tl = [] := List.eq_nil_of_length_eq_zero (by have := HLC.out; omega)
      have hl9 : ln = 1 := by have := HLC.out; rw [htl] at this; simp at this; omega
      subst hc1 hl9 htl
      go_wp2_with fail
      refine wp_region_held_drew (S := (fun w' => w'.cell? ⟨lb, 0, none⟩ = some (nV hd))) (by kernel_rfl) ?_ (fun hS => ?_)
      · exact y0
      refine tkY 0 ?_ rfl hS ?_ ?_
      rotate_left
      · intro wz hz
        go_simp
        all_goals first | with_reducible rfl | omega
      try simp only [Act.put, pu]
      refine tkY 1 ?_ rfl hS ?_ ?_
      rotate_left
      · intro wz hz
        go_simp
        all_goals first | with_reducible rfl | omega
      try simp only [Act.put, pu]
      refine tkY 2 ?_ rfl hS ?_ ?_
      rotate_left
      · intro wz hz
        go_simp
        all_goals first | with_reducible rfl | omega
      try simp only [Act.put, pu]
      refine tkY 3 ?_ rfl hS ?_ ?_
      rotate_left
      · intro wz hz
        go_simp
        all_goals first | with_reducible rfl | omega
      try simp only [Act.put, pu]
      refine tkY 4 ?_ rfl hS ?_ ?_
      rotate_left
      · intro wz hz
        go_simp
        all_goals first | with_reducible rfl | omega
      try simp only [Act.put, pu]
      refine tkY 5 ?_ rfl hS ?_ ?_
      rotate_left
      · intro wz hz
        go_simp
        all_goals first | with_reducible rfl | omega
      try simp only [Act.put, pu]
      refine tkY 6 ?_ rfl hS ?_ ?_
      rotate_left
      · intro wz hz
        go_simp
        all_goals first | with_reducible rfl | omega
      try simp only [Act.put, pu]
      refine tkY 7 ?_ rfl hS ?_ ?_
      rotate_left
      · intro wz hz
        go_simp
        all_goals first | with_reducible rfl | omega
      try simp only [Act.put, pu]
      refine wpAnyH_done (by kernel_rfl) ?_ _
      clear hS
      go_wp2
      refine bodyPost_ret (v := .tuple #[nV hd, .slice (some ⟨lb, 0, none⟩) 0 0, .bool true]) (by simp [results, Try.results14, go_sem]) rfl ?_
      exact ⟨_, rfl, .inl ⟨_, _, rfl, rfl⟩, HRS.out.post (Below.refl _ _).drew, HKI.out.trans (Ki.below (Below.refl _ _).drew)⟩
    · have HCC : Hid (¬ (lc = 1) ∧ ¬ ((lc : Int) = 1) ∧ (1 : Int) ≤ (lc : Int) ∧ (1 : Int) ≤ (ln : Int) ∧ (ln : Int) ≤ (lc : Int)) := Lib.hid (by have := HLC.out; omega)
      have HTL : Hid (IS w3 (.slice (some ⟨lb, 1, none⟩) (ln - 1) (lc - 1)) tl) := Lib.hid (by
        by_cases h1 : ln = 1
        · have htl : tl = [] := List.eq_nil_of_length_eq_zero (by have := HLC.out; omega)
          rw [h1, htl]
          exact .inl ⟨_, _, rfl, rfl⟩
        · have := HIS3.out.drop 1 (by rw [HLN.out]; have := HLC.out; omega)
          exact this)
      have hl2 : 0 < ln := by omega
      clear hc1
      go_wp2_with fail
      refine wp_region_held_drew (S := (fun w' => w'.cell? ⟨lb, 0, none⟩ = some (nV hd))) (by kernel_rfl) ?_ (fun hS => ?_)
      · exact y0
      refine tkY 0 ?_ rfl hS ?_ ?_
      rotate_left
      · intro wz hz
        go_simp
        all_goals first | with_reducible rfl | omega
      try simp only [Act.put, pu]
      refine tkY 1 ?_ rfl hS ?_ ?_
      rotate_left
      · intro wz hz
        go_simp
        all_goals first | with_reducible rfl | omega
      try simp only [Act.put, pu]
      refine tkY 2 ?_ rfl hS ?_ ?_
      rotate_left
      · intro wz hz
        go_simp
        all_goals first | with_reducible rfl | omega
      try simp only [Act.put, pu]
      refine tkY 3 ?_ rfl hS ?_ ?_
      rotate_left
      · intro wz hz
        go_simp
        all_goals first | with_reducible rfl | omega
      try simp only [Act.put, pu]
      refine tkY 4 ?_ rfl hS ?_ ?_
      rotate_left
      · intro wz hz
        obtain ⟨hc1, hc2, hc3, hc4, hc5⟩ := HCC.out
        go_simp
        all_goals first | with_reducible rfl | omega
      try simp only [Act.put, pu]
      refine tkY 5 ?_ rfl hS ?_ ?_
      rotate_left
      · intro wz hz
        go_simp
        all_goals first | with_reducible rfl | omega
      try simp only [Act.put, pu]
      refine tkY 6 ?_ rfl hS ?_ ?_
      rotate_left
      · intro wz hz
        go_simp
        all_goals first | with_reducible rfl | omega
      try simp only [Act.put, pu]
      refine tkY 7 ?_ rfl hS ?_ ?_
      rotate_left
      · intro wz hz
        go_simp
        all_goals first | with_reducible rfl | omega
      try simp only [Act.put, pu]
      refine wpAnyH_done (by kernel_rfl) ?_ _
      clear hS
      go_wp2
      refine bodyPost_ret (v := .tuple #[nV hd, .slice (some ⟨lb, 1, none⟩) (ln - 1) (lc - 1), .bool true]) (by simp [results, Try.results14, go_sem]) rfl ?_
      exact ⟨_, rfl, HTL.out.below (Below.refl _ _).drew, HRS.out.post (Below.refl _ _).drew, HKI.out.trans (Ki.below (Below.refl _ _).drew)⟩
end Go.Proofs.Ytldpamlmnganmaa.FL
