/- Package flight: Ask. Conditions: how many asks there were, how long keys are. -/
import Derived.Test.YtldpamlmnganmaaFlj
namespace Go.Proofs.Ytldpamlmnganmaa.FL
open Go.ChangeShapes Go.WideShapes Go.ChangeAt Go.RowKit Go.Maps Go.ChangeMaps
open Go.Proofs.Ytldpamlmnganmaa.SL
set_option maxRecDepth 100000
set_option linter.unusedVariables false
set_option linter.unusedSimpArgs false

def AskP (w : World) (a N : Nat) (C : Bs) (R : List Fl × Bool × Int) (e : Ending) (w' : World) : Prop := e = .returned (.tuple #[.bool R.2.1, .int .i64 R.2.2]) ∧ StP w a (N + 1) C R.1 w'
theorem StP.same {w w' : World} {a N : Nat} {C : Bs} {S : List Fl} (h : CB w a N C S) (hb : Below w.heap.size w w') : StP w a N C S w' := ⟨C, h.below hb, .of_below hb, fun b hb => .inl hb⟩
theorem StP.mono {w w' : World} {a N M : Nat} {C : Bs} {S : List Fl} (h : StP w a N C S w') (hm : N ≤ M) : StP w a M C S w' := by
  obtain ⟨C', h1, h2, h3⟩ := h
  exact ⟨C', h1.mono hm, h2, h3⟩
theorem StP.pre {w w1 w' : World} {a N : Nat} {C : Bs} {S : List Fl} (hb : Below w.heap.size w w1) (h : StP w1 a N C S w') : StP w a N C S w' := by
  obtain ⟨C', h1, h2, h3⟩ := h
  exact ⟨C', h1, (Chg.of_below hb).trans h2, fun b hb2 => (h3 b hb2).imp id fun h => Nat.le_trans hb.size h⟩
theorem StP.post {w w1 w' : World} {a N : Nat} {C : Bs} {S : List Fl} (h : StP w a N C S w1) (hb : Below w1.heap.size w1 w') : StP w a N C S w' := by
  obtain ⟨C', h1, h2, h3⟩ := h
  exact ⟨C', h1.below hb, h2.trans' (S' := fun _ => False) (.of_below hb) (fun _ _ e => e.elim), h3⟩
theorem fV_same {C : Bs} {k : Ky} {r r' : Fr} (hF : C.F k = some r) (hg : r'.g = r.g) (Z : Int → Option (Nat × Int)) (kl : Lit) : fV C kl = fV (C.alt k (some r') Z) kl := by
  unfold fV Bs.alt
  congr 1
  funext x
  show (C.F x).map (fun r => ptr r.g) = (if x = k then some r' else C.F x).map fun r => ptr r.g
  by_cases e : x = k
  · rw [if_pos e, e, hF]
    show some (ptr r.g) = some (ptr r'.g)
    rw [hg]
  · rw [if_neg e]
/-- one who has joined -/
theorem CB.joined {w w' : World} {a N : Nat} {C : Bs} {S : List Fl} {k : Ky} {r : Fr} {c : Int} (h : CB w a N C S) (hF : C.F k = some r) (hZ : C.Z c = none) (hc : 0 ≤ c ∧ c ≤ 9223372036854775807)
    (hch : Chg (fun b => b = r.g ∨ b = r.m ∨ b = C.sb) w w') (hrow : RowP w' (N + 1) k ⟨r.ld, r.fl ++ [((r.last : Int) + 1, c)], r.last + 1, r.g, r.m⟩)
    (hms : MV.MapV Try.prog 3 w' C.sb (N + 1) (sV (C.alt k (some ⟨r.ld, r.fl ++ [((r.last : Int) + 1, c)], r.last + 1, r.g, r.m⟩) (openZ C c (r.g, (r.last : Int) + 1))))) : StP w a (N + 1) C (joinS S k c) w' := by
  have hfn := h.find_some hF
  have hna := h.not_a
  have hm := h.mo k r hF
  have hg := h.gfs hF
  refine ⟨_, h.alt (Nat.le_succ N) _ _ _ (hch.block _ h.bk.lt ?_) ((h.mf.mono (Nat.le_succ N)).keep (hch.block _ h.mf.lt ?_) |>.congr fun kl => fV_same hF (r' := ⟨r.ld, r.fl ++ [((r.last : Int) + 1, c)], r.last + 1, r.g, r.m⟩) rfl _ kl) hms (fun x s hx hs => ⟨hch.block _ (h.row x s hs).lt.1 ?_, hch.block _ (h.row x s hs).lt.2 ?_⟩) (fun s hs => ?_) (fun x p => join_z h hF hZ _ _ x p) (fun x => ?_) (h.wf.mapped (fun l => l ++ [c]) (fun l _ => by simp) (fun l hl y hy => ?_)) (fun s hs => ?_), hch.mono (fun b _ hb => ?_), fun b hb => ?_⟩
  · rintro (e | e | e)
    · exact hna (.inr (.inr ⟨k, r, hF, .inl e⟩))
    · exact hna (.inr (.inr ⟨k, r, hF, .inr e⟩))
    · exact hna (.inr (.inl e))
  · rintro (e | e | e)
    · exact hg.1 e.symm
    · exact hm.1 e.symm
    · exact h.fsb e
  · rintro (e | e | e)
    · exact hx (h.gg hs hF e)
    · exact h.gm hs hF e
    · exact (h.gfs hs).2 e
  · rintro (e | e | e)
    · exact h.gm hF hs e.symm
    · exact hx (h.mm x k s r hs hF e)
    · exact (h.mo x s hs).2 e
  · injection hs with hs
    rw [← hs]; exact hrow
  · unfold joinS
    rw [findF_map (fun l => l ++ [c]), hfn]
    show (if x = k then some (cl ⟨r.ld, r.fl ++ [((r.last : Int) + 1, c)], r.last + 1, r.g, r.m⟩) else findF S x) = if x = k then some (cl r ++ [c]) else findF S x
    unfold cl
    simp
  · rcases List.mem_append.1 hy with hy | hy
    · exact h.wf.pos _ hl y hy
    · obtain rfl : y = c := by simpa using hy
      exact hc
  · injection hs with hs
    rw [← hs]
    exact ⟨hm.1, hm.2, fun x s hx hs2 e => hx (h.mm x k s r hs2 hF e.symm)⟩
  · rcases hb with e | e | e
    · exact .inr (.inr ⟨k, r, hF, .inl e⟩)
    · exact .inr (.inr ⟨k, r, hF, .inr e⟩)
    · exact .inr (.inl e)
  · rcases Bs.alt_own hb with hb | ⟨s, hs, hb⟩
    · exact .inl hb
    · injection hs with hs
      rw [← hs] at hb
      exact .inl (.inr (.inr ⟨k, r, hF, hb⟩))
set_option maxHeartbeats 4000000 in
theorem ask_arg {w : World} {a N : Nat} {C : Bs} {S : List Fl} (h : CB w a N C S) (k : Ky) (c : Int) (hc : c < 0) :
    Calls Try.prog 10 #[ptr a, kyV k, .int .i64 c] w (AskP w a N C (S, false, 1)) := by
  obtain ⟨W0, hW0⟩ : ∃ W, w.alloc (.cells (kC k) 30) = W := ⟨_, rfl⟩
  obtain ⟨kb, hkb⟩ : ∃ b, w.heap.size = b := ⟨_, rfl⟩
  have b0 : Below w.heap.size w W0 := by rw [← hW0]; exact (Below.refl _ _).alloc (Nat.le_refl _) _
  have kk : Bk W0 kb 30 (kC k) := by rw [← hW0, ← hkb]; exact Bk.new _ _ _
  have HB0 := Lib.hid b0
  have H := Lib.hid h
  obtain ⟨c0, c1, c2⟩ := (h.below b0).cells
  clear h kk b0 c1 c2
  go_enter Try.func10, Try.ntmps10
  go_wp2_with fail
  try rw [hW0]
  try rw [hkb]
  refine (given_yes _ _ c0).mono ?_
  rintro e w' ⟨rfl, rfl⟩
  clear hW0 hkb c0
  go_wp2
  go_ret2
  exact ⟨rfl, (StP.same H.out HB0.out).mono (Nat.le_succ _)⟩
set_option maxHeartbeats 4000000 in
theorem ask_state {w : World} {a N : Nat} {C : Bs} {S : List Fl} (h : CB w a N C S) (k : Ky) (c : Int) (hc : 0 ≤ c ∧ c ≤ 9223372036854775807) {p : Nat × Int} (hZ : C.Z c = some p) :
    Calls Try.prog 10 #[ptr a, kyV k, .int .i64 c] w (AskP w a N C (S, false, 10)) := by
  obtain ⟨W0, hW0⟩ : ∃ W, w.alloc (.cells (kC k) 30) = W := ⟨_, rfl⟩
  obtain ⟨kb, hkb⟩ : ∃ b, w.heap.size = b := ⟨_, rfl⟩
  have b0 : Below w.heap.size w W0 := by rw [← hW0]; exact (Below.refl _ _).alloc (Nat.le_refl _) _
  have kk : Bk W0 kb 30 (kC k) := by rw [← hW0, ← hkb]; exact Bk.new _ _ _
  have HB0 := Lib.hid b0
  have H := Lib.hid h
  obtain ⟨c0, c1, c2⟩ := (h.below b0).cells
  have hl0 := (h.below b0).lookS c ⟨by omega, hc.2⟩
  rw [hZ] at hl0
  replace hl0 : (Instr.lookup 61 (.map (some C.sb)) (.int .i64 c) true).run Try.prog W0 = .ok (.tuple #[.agg #[ptr p.1, .int .i64 p.2], .bool true]) W0 := hl0
  obtain ⟨pg, pn⟩ := p
  simp only at hl0
  have l1 : ¬ c < 0 := by omega
  clear h kk b0 c1 hc hZ
  go_enter Try.func10, Try.ntmps10
  go_wp2_with fail
  try rw [hW0]
  try rw [hkb]
  refine (given_yes _ _ c0).mono ?_
  rintro e w' ⟨rfl, rfl⟩
  go_wp2
  go_ret2
  exact ⟨rfl, (StP.same H.out (HB0.out.alloc HB0.out.size _)).mono (Nat.le_succ _)⟩
set_option maxHeartbeats 4000000 in
theorem ask_open {w : World} {a N : Nat} {C : Bs} {S : List Fl} (h : CB w a N C S) (hN : N ≤ 1000000) (k : Ky) (hk : FitK k) (c : Int) (hc : 0 ≤ c ∧ c ≤ 9223372036854775807) (hZ : C.Z c = none) (hF : C.F k = none) :
    Calls Try.prog 10 #[ptr a, kyV k, .int .i64 c] w (AskP w a N C (openS S k c, true, 0)) := by
  obtain ⟨W0, hW0⟩ : ∃ W, w.alloc (.cells (kC k) 30) = W := ⟨_, rfl⟩
  obtain ⟨kb, hkb⟩ : ∃ b, w.heap.size = b := ⟨_, rfl⟩
  have b0 : Below w.heap.size w W0 := by rw [← hW0]; exact (Below.refl _ _).alloc (Nat.le_refl _) _
  have kk : Bk W0 kb 30 (kC k) := by rw [← hW0, ← hkb]; exact Bk.new _ _ _
  have HB0 := Lib.hid b0
  have H := Lib.hid h
  obtain ⟨c0, c1, c2⟩ := (h.below b0).cells
  have hl0 := (h.below b0).lookS c ⟨by omega, hc.2⟩
  rw [hZ] at hl0
  obtain ⟨px, hpx⟩ : ∃ x : Option Addr, none = x := ⟨_, rfl⟩
  obtain ⟨pn, hpn⟩ : ∃ x : Int, 0 = x := ⟨_, rfl⟩
  replace hl0 : (Instr.lookup 61 (.map (some C.sb)) (.int .i64 c) true).run Try.prog W0 = .ok (.tuple #[.agg #[.pointer px, .int .i64 pn], .bool false]) W0 := by rw [← hpx, ← hpn]; exact hl0
  obtain ⟨W1, hW1⟩ : ∃ W, W0.alloc (.cells #[.pointer px, .int .i64 pn] 68) = W := ⟨_, rfl⟩
  have b1 : Below w.heap.size w W1 := by rw [← hW1]; exact b0.alloc b0.size _
  have k1 : Bk W1 kb 30 (kC k) := by rw [← hW1]; exact kk.alloc _
  have h1 := h.below b1
  have hlk := fun (w' : World) (hb : Below W1.heap.size W1 w') => (h1.below hb).look k hk
  have hk9 := hk
  have l1 : ¬ c < 0 := by omega
  clear hpx hpn
  rw [hF] at hlk
  replace hlk : ∀ (w' : World), Below W1.heap.size W1 w' → (Instr.lookup 60 (.map (some C.fb)) (kyV k) true).run Try.prog w' = .ok (.tuple #[.pointer none, .bool false]) w' := hlk
  have HO := Lib.hid (open_any (h1.below (w' := W1.drew) (Below.refl _ _).drew) hN k hk c hc hF hZ)
  obtain ⟨db, ro, fm, no⟩ := k
  have a0 : W1.cell? ⟨kb, 0, none⟩ = some (.string db) := k1.cell 0
  have a1 : W1.cell? ⟨kb, 1, none⟩ = some (.string ro) := k1.cell 1
  have a2 : W1.cell? ⟨kb, 2, none⟩ = some (.int .i64 fm) := k1.cell 2
  have a3 : W1.cell? ⟨kb, 3, none⟩ = some (.string no) := k1.cell 3
  have d1 : W1.cell? ⟨a, 1, none⟩ = some (.map (some C.fb)) := h1.bk.cell 1
  have d2 : W1.cell? ⟨a, 2, none⟩ = some (.map (some C.sb)) := h1.bk.cell 2
  have H1 := Lib.hid h1
  have HB1 := Lib.hid b1
  have HLK := Lib.hid hlk
  have HKB : Hid (kb < W1.heap.size) := Lib.hid k1.lt
  clear h h1 hN hk hc hF hZ b0 b1 kk k1 c1 hlk hk9
  go_enter Try.func10, Try.ntmps10
  go_wp2_with fail
  try rw [hW0]
  try rw [hkb]
  refine (given_yes _ _ c0).mono ?_
  rintro e w' ⟨rfl, rfl⟩
  go_wp2_with fail
  try rw [hW1]
  refine wp_region_held_drew (S := (fun w' => w'.cell? ⟨a, 1, none⟩ = some (.map (some C.fb)) ∧ w'.cell? ⟨kb, 0, none⟩ = some (.string db) ∧ w'.cell? ⟨kb, 1, none⟩ = some (.string ro) ∧ w'.cell? ⟨kb, 2, none⟩ = some (.int .i64 fm) ∧ w'.cell? ⟨kb, 3, none⟩ = some (.string no) ∧ Below W1.heap.size W1 w')) (by kernel_rfl) ?_ (fun hS => ?_)
  · exact ⟨d1, a0, a1, a2, a3, (Below.refl _ _).drew⟩
  refine tkY 0 ?_ rfl hS ?_ ?_
  rotate_left
  · intro wz hz
    obtain ⟨z1, z2, z3, z4, z5, z6⟩ := hz
    have z7 := HLK.out wz z6
    go_simp
    all_goals first | with_reducible rfl | omega
  try simp only [Act.put, pu]
  refine tkY 1 ?_ rfl hS ?_ ?_
  rotate_left
  · intro wz hz
    obtain ⟨z1, z2, z3, z4, z5, z6⟩ := hz
    have z7 := HLK.out wz z6
    go_simp
    all_goals first | with_reducible rfl | omega
  try simp only [Act.put, pu]
  refine tkY 2 ?_ rfl hS ?_ ?_
  rotate_left
  · intro wz hz
    obtain ⟨z1, z2, z3, z4, z5, z6⟩ := hz
    have z7 := HLK.out wz z6
    go_simp
    all_goals first | with_reducible rfl | omega
  try simp only [Act.put, pu]
  refine tkY 3 ?_ rfl hS ?_ ?_
  rotate_left
  · intro wz hz
    obtain ⟨z1, z2, z3, z4, z5, z6⟩ := hz
    have z7 := HLK.out wz z6
    go_simp
    all_goals first | with_reducible rfl | omega
  try simp only [Act.put, pu]
  refine tkY 4 ?_ rfl hS ?_ ?_
  rotate_left
  · intro wz hz
    obtain ⟨z1, z2, z3, z4, z5, z6⟩ := hz
    have z7 := HLK.out wz z6
    go_simp
    all_goals first | with_reducible rfl | omega
  try simp only [Act.put, pu]
  refine tkY 5 ?_ rfl hS ?_ ?_
  rotate_left
  · intro wz hz
    obtain ⟨z1, z2, z3, z4, z5, z6⟩ := hz
    have z7 := HLK.out wz z6
    go_simp
    all_goals first | with_reducible rfl | omega
  try simp only [Act.put, pu]
  refine tkY 6 ?_ rfl hS ?_ ?_
  rotate_left
  · intro wz hz
    obtain ⟨z1, z2, z3, z4, z5, z6⟩ := hz
    have z7 := HLK.out wz z6
    go_simp
    all_goals first | with_reducible rfl | omega
  try simp only [Act.put, pu]
  refine tkY 7 ?_ rfl hS ?_ ?_
  rotate_left
  · intro wz hz
    obtain ⟨z1, z2, z3, z4, z5, z6⟩ := hz
    have z7 := HLK.out wz z6
    go_simp
    all_goals first | with_reducible rfl | omega
  try simp only [Act.put, pu]
  refine tkY 8 ?_ rfl hS ?_ ?_
  rotate_left
  · intro wz hz
    obtain ⟨z1, z2, z3, z4, z5, z6⟩ := hz
    have z7 := HLK.out wz z6
    go_simp
    all_goals first | with_reducible rfl | omega
  try simp only [Act.put, pu]
  refine tkY 9 ?_ rfl hS ?_ ?_
  rotate_left
  · intro wz hz
    obtain ⟨z1, z2, z3, z4, z5, z6⟩ := hz
    have z7 := HLK.out wz z6
    go_simp
    all_goals first | with_reducible rfl | omega
  try simp only [Act.put, pu]
  refine tkY 10 ?_ rfl hS ?_ ?_
  rotate_left
  · intro wz hz
    obtain ⟨z1, z2, z3, z4, z5, z6⟩ := hz
    have z7 := HLK.out wz z6
    go_simp
    all_goals first | with_reducible rfl | omega
  try simp only [Act.put, pu]
  refine wpAnyH_done (by kernel_rfl) ?_ _
  clear hS
  go_wp2_with fail
  refine HO.out.mono ?_
  rintro e w9 ⟨rfl, hst⟩
  have HST := Lib.hid (hst.pre (HB1.out.trans ((Below.refl _ _).drew.mono HB1.out.size)))
  clear hst
  go_wp2
  go_ret2
  exact ⟨rfl, HST.out⟩
set_option maxHeartbeats 4000000 in
theorem ask_join {w : World} {a N : Nat} {C : Bs} {S : List Fl} (h : CB w a N C S) (hN : N ≤ 1000000) (k : Ky) (hk : FitK k) (c : Int) (hc : 0 ≤ c ∧ c ≤ 9223372036854775807) (hZ : C.Z c = none) (r : Fr) (hF : C.F k = some r) :
    Calls Try.prog 10 #[ptr a, kyV k, .int .i64 c] w (AskP w a N C (joinS S k c, false, 0)) := by
  obtain ⟨W0, hW0⟩ : ∃ W, w.alloc (.cells (kC k) 30) = W := ⟨_, rfl⟩
  obtain ⟨kb, hkb⟩ : ∃ b, w.heap.size = b := ⟨_, rfl⟩
  have b0 : Below w.heap.size w W0 := by rw [← hW0]; exact (Below.refl _ _).alloc (Nat.le_refl _) _
  have kk : Bk W0 kb 30 (kC k) := by rw [← hW0, ← hkb]; exact Bk.new _ _ _
  have HB0 := Lib.hid b0
  have H := Lib.hid h
  obtain ⟨c0, c1, c2⟩ := (h.below b0).cells
  have hl0 := (h.below b0).lookS c ⟨by omega, hc.2⟩
  rw [hZ] at hl0
  obtain ⟨px, hpx⟩ : ∃ x : Option Addr, none = x := ⟨_, rfl⟩
  obtain ⟨pn, hpn⟩ : ∃ x : Int, 0 = x := ⟨_, rfl⟩
  replace hl0 : (Instr.lookup 61 (.map (some C.sb)) (.int .i64 c) true).run Try.prog W0 = .ok (.tuple #[.agg #[.pointer px, .int .i64 pn], .bool false]) W0 := by rw [← hpx, ← hpn]; exact hl0
  obtain ⟨W1, hW1⟩ : ∃ W, W0.alloc (.cells #[.pointer px, .int .i64 pn] 68) = W := ⟨_, rfl⟩
  have b1 : Below w.heap.size w W1 := by rw [← hW1]; exact b0.alloc b0.size _
  have k1 : Bk W1 kb 30 (kC k) := by rw [← hW1]; exact kk.alloc _
  have h1 := h.below b1
  have hlk := fun (w' : World) (hb : Below W1.heap.size W1 w') => (h1.below hb).look k hk
  have hk9 := hk
  have l1 : ¬ c < 0 := by omega
  clear hpx hpn
  rw [hF] at hlk
  replace hlk : ∀ (w' : World), Below W1.heap.size W1 w' → (Instr.lookup 60 (.map (some C.fb)) (kyV k) true).run Try.prog w' = .ok (.tuple #[ptr r.g, .bool true]) w' := hlk
  have HFO := Lib.hid (fun W (hx : RowP W N k r) => follow_any hx hN c ⟨by omega, hc.2⟩)
  have HC := Lib.hid hc
  have HF := Lib.hid hF
  have HZ := Lib.hid hZ
  have HN := Lib.hid hN
  have HROW : Hid (RowP W1.drew.drew N k r) := Lib.hid ((h1.row k r hF).keep rfl rfl)
  obtain ⟨db, ro, fm, no⟩ := k
  have a0 : W1.cell? ⟨kb, 0, none⟩ = some (.string db) := k1.cell 0
  have a1 : W1.cell? ⟨kb, 1, none⟩ = some (.string ro) := k1.cell 1
  have a2 : W1.cell? ⟨kb, 2, none⟩ = some (.int .i64 fm) := k1.cell 2
  have a3 : W1.cell? ⟨kb, 3, none⟩ = some (.string no) := k1.cell 3
  have d1 : W1.cell? ⟨a, 1, none⟩ = some (.map (some C.fb)) := h1.bk.cell 1
  have d2 : W1.cell? ⟨a, 2, none⟩ = some (.map (some C.sb)) := h1.bk.cell 2
  have H1 := Lib.hid h1
  have HB1 := Lib.hid b1
  have HLK := Lib.hid hlk
  have HKB : Hid (kb < W1.heap.size) := Lib.hid k1.lt
  clear h h1 hN hk hc hF hZ b0 b1 kk k1 c1 hlk hk9
  go_enter Try.func10, Try.ntmps10
  go_wp2_with fail
  try rw [hW0]
  try rw [hkb]
  refine (given_yes _ _ c0).mono ?_
  rintro e w' ⟨rfl, rfl⟩
  go_wp2_with fail
  try rw [hW1]
  refine wp_region_held_drew (S := (fun w' => w'.cell? ⟨a, 1, none⟩ = some (.map (some C.fb)) ∧ w'.cell? ⟨kb, 0, none⟩ = some (.string db) ∧ w'.cell? ⟨kb, 1, none⟩ = some (.string ro) ∧ w'.cell? ⟨kb, 2, none⟩ = some (.int .i64 fm) ∧ w'.cell? ⟨kb, 3, none⟩ = some (.string no) ∧ Below W1.heap.size W1 w')) (by kernel_rfl) ?_ (fun hS => ?_)
  · exact ⟨d1, a0, a1, a2, a3, (Below.refl _ _).drew⟩
  refine tkY 0 ?_ rfl hS ?_ ?_
  rotate_left
  · intro wz hz
    obtain ⟨z1, z2, z3, z4, z5, z6⟩ := hz
    have z7 := HLK.out wz z6
    go_simp
    all_goals first | with_reducible rfl | omega
  try simp only [Act.put, pu]
  refine tkY 1 ?_ rfl hS ?_ ?_
  rotate_left
  · intro wz hz
    obtain ⟨z1, z2, z3, z4, z5, z6⟩ := hz
    have z7 := HLK.out wz z6
    go_simp
    all_goals first | with_reducible rfl | omega
  try simp only [Act.put, pu]
  refine tkY 2 ?_ rfl hS ?_ ?_
  rotate_left
  · intro wz hz
    obtain ⟨z1, z2, z3, z4, z5, z6⟩ := hz
    have z7 := HLK.out wz z6
    go_simp
    all_goals first | with_reducible rfl | omega
  try simp only [Act.put, pu]
  refine tkY 3 ?_ rfl hS ?_ ?_
  rotate_left
  · intro wz hz
    obtain ⟨z1, z2, z3, z4, z5, z6⟩ := hz
    have z7 := HLK.out wz z6
    go_simp
    all_goals first | with_reducible rfl | omega
  try simp only [Act.put, pu]
  refine tkY 4 ?_ rfl hS ?_ ?_
  rotate_left
  · intro wz hz
    obtain ⟨z1, z2, z3, z4, z5, z6⟩ := hz
    have z7 := HLK.out wz z6
    go_simp
    all_goals first | with_reducible rfl | omega
  try simp only [Act.put, pu]
  refine tkY 5 ?_ rfl hS ?_ ?_
  rotate_left
  · intro wz hz
    obtain ⟨z1, z2, z3, z4, z5, z6⟩ := hz
    have z7 := HLK.out wz z6
    go_simp
    all_goals first | with_reducible rfl | omega
  try simp only [Act.put, pu]
  refine tkY 6 ?_ rfl hS ?_ ?_
  rotate_left
  · intro wz hz
    obtain ⟨z1, z2, z3, z4, z5, z6⟩ := hz
    have z7 := HLK.out wz z6
    go_simp
    all_goals first | with_reducible rfl | omega
  try simp only [Act.put, pu]
  refine tkY 7 ?_ rfl hS ?_ ?_
  rotate_left
  · intro wz hz
    obtain ⟨z1, z2, z3, z4, z5, z6⟩ := hz
    have z7 := HLK.out wz z6
    go_simp
    all_goals first | with_reducible rfl | omega
  try simp only [Act.put, pu]
  refine tkY 8 ?_ rfl hS ?_ ?_
  rotate_left
  · intro wz hz
    obtain ⟨z1, z2, z3, z4, z5, z6⟩ := hz
    have z7 := HLK.out wz z6
    go_simp
    all_goals first | with_reducible rfl | omega
  try simp only [Act.put, pu]
  refine tkY 9 ?_ rfl hS ?_ ?_
  rotate_left
  · intro wz hz
    obtain ⟨z1, z2, z3, z4, z5, z6⟩ := hz
    have z7 := HLK.out wz z6
    go_simp
    all_goals first | with_reducible rfl | omega
  try simp only [Act.put, pu]
  refine tkY 10 ?_ rfl hS ?_ ?_
  rotate_left
  · intro wz hz
    obtain ⟨z1, z2, z3, z4, z5, z6⟩ := hz
    have z7 := HLK.out wz z6
    go_simp
    all_goals first | with_reducible rfl | omega
  try simp only [Act.put, pu]
  refine wpAnyH_done (by kernel_rfl) ?_ _
  clear hS
  go_wp2_with fail
  refine wp_region_held_drew (S := (fun w' => w'.cell? ⟨a, 2, none⟩ = some (.map (some C.sb)))) (by kernel_rfl) ?_ (fun hS => ?_)
  · exact d2
  refine tkY 0 ?_ rfl hS ?_ ?_
  rotate_left
  · intro wz hz
    go_simp
    all_goals first | with_reducible rfl | omega
  try simp only [Act.put, pu]
  refine tkY 1 ?_ rfl hS ?_ ?_
  rotate_left
  · intro wz hz
    go_simp
    all_goals first | with_reducible rfl | omega
  try simp only [Act.put, pu]
  refine tkY 2 ?_ rfl hS ?_ ?_
  rotate_left
  · intro wz hz
    go_simp
    all_goals first | with_reducible rfl | omega
  try simp only [Act.put, pu]
  refine tkY 3 ?_ rfl hS ?_ ?_
  rotate_left
  · intro wz hz
    go_simp
    all_goals first | with_reducible rfl | omega
  try simp only [Act.put, pu]
  refine tkY 4 ?_ rfl hS ?_ ?_
  rotate_left
  · intro wz hz
    go_simp
    all_goals first | with_reducible rfl | omega
  try simp only [Act.put, pu]
  refine tkY 5 ?_ rfl hS ?_ ?_
  rotate_left
  · intro wz hz
    go_simp
    all_goals first | with_reducible rfl | omega
  try simp only [Act.put, pu]
  refine tkY 6 ?_ rfl hS ?_ ?_
  rotate_left
  · intro wz hz
    go_simp
    all_goals first | with_reducible rfl | omega
  try simp only [Act.put, pu]
  refine wpAnyH_ready (rs := [7]) (by kernel_rfl) (by simp) (AllReadyH.cons rfl (fun K' hK' => ?_) AllReadyH.nil)
  go_simp
  refine (HFO.out _ HROW.out).mono ?_
  rintro e w3 ⟨rfl, hrow3, hch3⟩
  have h1 := H1.out
  have hgs := h1.gfs HF.out
  have hms := h1.mo _ _ HF.out
  have hna := h1.not_a
  have ms3 : MV.MapV Try.prog 3 w3 C.sb N (sV C) := (h1.ms.keep (w' := W1.drew.drew) rfl).keep (hch3.block _ h1.ms.lt (fun e => by rcases e with e | e; exact hgs.2 e.symm; exact hms.2 e.symm))
  obtain ⟨w4, hrun4, hm4, ht4⟩ := ms3.put iK Try.underlying61 (by have := HN.out; unfold maxLen; omega) (keyI c ⟨by have := HC.out.1; omega, HC.out.2⟩) (seV (r.g, (r.last : Int) + 1))
  have hg4 := ht4.grown
  have e4 : ∀ b, b < w3.heap.size → b ≠ C.sb → w4.heap[b]? = w3.heap[b]? := fun b hb hne => hg4.block b hb (fun e => hne (by injection e))
  have hch4 : Chg (fun b => b = r.g ∨ b = r.m ∨ b = C.sb) W1 w4 := ((Chg.refl _ W1).drew.drew.trans (hch3.mono (fun b _ e => by rcases e with e | e; exact .inl e; exact .inr (.inl e)))).grown hg4 (fun k hk _ => by injection hk with hk; exact .inr (.inr hk.symm))
  have hrow4 := hrow3.keep (e4 _ hrow3.lt.1 hgs.2) (e4 _ hrow3.lt.2 hms.2)
  have HST := Lib.hid ((h1.joined HF.out HZ.out HC.out hch4 hrow4 (hm4.congr fun kl => sV_put _ _ kl)).pre HB1.out)
  have y2 : w3.cell? ⟨a, 2, none⟩ = some (.map (some C.sb)) := (hch3.cell (p := ⟨a, 2, none⟩) h1.bk.lt (fun e => by rcases e with e | e; exact hna (.inr (.inr ⟨_, r, HF.out, .inl e⟩)); exact hna (.inr (.inr ⟨_, r, HF.out, .inr e⟩)))).trans d2
  have y3 : w4.cell? ⟨a, 2, none⟩ = some (.map (some C.sb)) := (((mapTurned_chg ht4).cell (p := ⟨a, 2, none⟩) (Nat.lt_of_lt_of_le h1.bk.lt hch3.size) (fun e => hna (.inr (.inl e))))).trans y2
  clear hch4 hrow4 hm4 ht4 ms3 hg4 e4 hrow3 hch3 h1 hgs hms hna
  refine hK'.out _ _ ?_ (fun hSn => ?_)
  · exact y2
  clear hK' K' hS
  have hS := hSn
  clear hSn
  try simp only [Act.put, pu]
  refine wpAnyH_ready (rs := [8]) (by kernel_rfl) (by simp) (AllReadyH.cons rfl (fun K' hK' => ?_) AllReadyH.nil)
  go_simp

  refine hK'.out _ _ ?_ (fun hSn => ?_)
  · exact y3
  clear hK' K' hS
  have hS := hSn
  clear hSn
  try simp only [Act.put, pu]
  refine wpAnyH_done (by kernel_rfl) ?_ _
  clear hS
  go_wp2
  go_ret2
  exact ⟨rfl, HST.out⟩
end Go.Proofs.Ytldpamlmnganmaa.FL
