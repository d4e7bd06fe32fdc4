/- CacheNil's walk. No condition.
   Package cache: Copy; the code's cache and the document's, one beside the other. Conditions: as each.
   CachePlays' walk. No condition. -/
import Derived.Test.YtjngangojgjceaaGreatG21
import Derived.Test.YtjngangojgjceaaGreatG23
set_option linter.unusedSimpArgs false
set_option linter.unusedVariables false
namespace Go.Proofs.YtjngangojgjceaaGreat.CA
open Go.ChangeShapes Go.WideShapes Go.ChangeAt Go.RowKit Go.Maps Go.ChangeMaps Go.Deep
open Go.Proofs.YtjngangojgjceaaGreat.SL Go.Proofs.YtjngangojgjceaaGreat.EX Go.Proofs.YtjngangojgjceaaGreat.RW
set_option maxRecDepth 100000
set_option linter.unusedVariables false
set_option linter.unusedSimpArgs false

theorem czero (w : World) : Bk (w.alloc (.cells #[.pointer none, .int .i64 0, .map none, .pointer none, .pointer none] 61)) w.heap.size 61 #[.pointer none, .int .i64 0, .map none, .pointer none, .pointer none] := Bk.new _ _ _
set_option maxHeartbeats 8000000 in
theorem cnil_any (v : Value) (w : World) (hf : FitsK w v) :
    Calls Tryz.prog 4 #[v] w fun e w' => e = .returned (.bool true) ∧ Below w.heap.size w w' := by
  obtain ⟨k, rfl, _⟩ := hf
  obtain ⟨kb, hkb⟩ : ∃ b, w.heap.size = b := ⟨_, rfl⟩
  obtain ⟨W0, hW0⟩ : ∃ W, w.alloc (.cells (kC k) 32) = W := ⟨_, rfl⟩
  have hb0 : Below w.heap.size w W0 := by rw [← hW0]; exact (Below.refl _ _).alloc (Nat.le_refl _) _
  have kk0 : Bk W0 kb 32 (kC k) := by rw [← hW0, ← hkb]; exact Bk.new _ _ _
  obtain ⟨W, hW⟩ : ∃ W, W0.alloc (.cells #[.pointer none, .int .i64 0, .map none, .pointer none, .pointer none] 61) = W := ⟨_, rfl⟩
  obtain ⟨z, hz⟩ : ∃ b, W0.heap.size = b := ⟨_, rfl⟩
  have hb : Below w.heap.size w W := by rw [← hW]; exact hb0.alloc hb0.size _
  have kk : Bk W kb 32 (kC k) := by rw [← hW]; exact kk0.alloc _
  have hk : Bk W z 61 #[.pointer none, .int .i64 0, .map none, .pointer none, .pointer none] := by rw [← hW, ← hz]; exact czero W0
  have HB := Lib.hid hb
  have HK := Lib.hid hk
  have HKK := Lib.hid kk
  clear hb0 kk0 hb kk hk
  have HPN := Lib.hid (fun W => CA.put_nil k ⟨#[]⟩ 0 W)
  have HPZ := Lib.hid (fun W (h : W.cell? ⟨z, 0, none⟩ = some (.pointer none)) => CA.put_zero k ⟨#[]⟩ 0 W z h)
  have HGN := Lib.hid (fun W => CA.get_nil k 0 W)
  have HGZ := Lib.hid (fun W (h : W.cell? ⟨z, 0, none⟩ = some (.pointer none)) => CA.get_zero k 0 W z h)
  have HDN := Lib.hid (fun W => CA.drop_nil k W)
  have HDZ := Lib.hid (fun W (h : W.cell? ⟨z, 0, none⟩ = some (.pointer none)) => CA.drop_zero k W z h)
  unfold NoV at HGN HGZ
  unfold FalseB at HDN HDZ
  obtain ⟨db, ro, fm, no⟩ := k
  have a0 : W.cell? ⟨kb, 0, none⟩ = some (.string db) := HKK.out.cell 0
  have a1 : W.cell? ⟨kb, 1, none⟩ = some (.string ro) := HKK.out.cell 1
  have a2 : W.cell? ⟨kb, 2, none⟩ = some (.int .i64 fm) := HKK.out.cell 2
  have a3 : W.cell? ⟨kb, 3, none⟩ = some (.string no) := HKK.out.cell 3
  go_enter Tryz.func4, Tryz.ntmps4
  go_wp2_with fail
  try rw [hW0]
  try rw [hW]
  refine (HPN.out _).mono ?_
  rintro e w1 ⟨rfl, hb⟩
  have HK := Lib.hid (HK.out.below hb)
  have HKK := Lib.hid (HKK.out.below hb)
  have HB := Lib.hid (HB.out.trans (hb.mono HB.out.size))
  clear hb a0 a1 a2 a3
  try clear hW hW0
  have a0 : w1.cell? ⟨kb, 0, none⟩ = some (.string db) := HKK.out.cell 0
  have a1 : w1.cell? ⟨kb, 1, none⟩ = some (.string ro) := HKK.out.cell 1
  have a2 : w1.cell? ⟨kb, 2, none⟩ = some (.int .i64 fm) := HKK.out.cell 2
  have a3 : w1.cell? ⟨kb, 3, none⟩ = some (.string no) := HKK.out.cell 3
  go_wp2_with fail
  refine (HPZ.out _ (HK.out.cell 0)).mono ?_
  rintro e w2 ⟨rfl, hb⟩
  have HK := Lib.hid (HK.out.below hb)
  have HKK := Lib.hid (HKK.out.below hb)
  have HB := Lib.hid (HB.out.trans (hb.mono HB.out.size))
  clear hb a0 a1 a2 a3
  try clear hW hW0
  have a0 : w2.cell? ⟨kb, 0, none⟩ = some (.string db) := HKK.out.cell 0
  have a1 : w2.cell? ⟨kb, 1, none⟩ = some (.string ro) := HKK.out.cell 1
  have a2 : w2.cell? ⟨kb, 2, none⟩ = some (.int .i64 fm) := HKK.out.cell 2
  have a3 : w2.cell? ⟨kb, 3, none⟩ = some (.string no) := HKK.out.cell 3
  go_wp2_with fail
  refine (HGN.out _).mono ?_
  rintro e w3 ⟨rfl, hb⟩
  have HK := Lib.hid (HK.out.below hb)
  have HKK := Lib.hid (HKK.out.below hb)
  have HB := Lib.hid (HB.out.trans (hb.mono HB.out.size))
  clear hb a0 a1 a2 a3
  try clear hW hW0
  have a0 : w3.cell? ⟨kb, 0, none⟩ = some (.string db) := HKK.out.cell 0
  have a1 : w3.cell? ⟨kb, 1, none⟩ = some (.string ro) := HKK.out.cell 1
  have a2 : w3.cell? ⟨kb, 2, none⟩ = some (.int .i64 fm) := HKK.out.cell 2
  have a3 : w3.cell? ⟨kb, 3, none⟩ = some (.string no) := HKK.out.cell 3
  go_wp2_with fail
  refine (HGZ.out _ (HK.out.cell 0)).mono ?_
  rintro e w4 ⟨rfl, hb⟩
  have HK := Lib.hid (HK.out.below hb)
  have HKK := Lib.hid (HKK.out.below hb)
  have HB := Lib.hid (HB.out.trans (hb.mono HB.out.size))
  clear hb a0 a1 a2 a3
  try clear hW hW0
  have a0 : w4.cell? ⟨kb, 0, none⟩ = some (.string db) := HKK.out.cell 0
  have a1 : w4.cell? ⟨kb, 1, none⟩ = some (.string ro) := HKK.out.cell 1
  have a2 : w4.cell? ⟨kb, 2, none⟩ = some (.int .i64 fm) := HKK.out.cell 2
  have a3 : w4.cell? ⟨kb, 3, none⟩ = some (.string no) := HKK.out.cell 3
  go_wp2_with fail
  refine (HDN.out _).mono ?_
  rintro e w5 ⟨rfl, hb⟩
  have HK := Lib.hid (HK.out.below hb)
  have HKK := Lib.hid (HKK.out.below hb)
  have HB := Lib.hid (HB.out.trans (hb.mono HB.out.size))
  clear hb a0 a1 a2 a3
  try clear hW hW0
  have a0 : w5.cell? ⟨kb, 0, none⟩ = some (.string db) := HKK.out.cell 0
  have a1 : w5.cell? ⟨kb, 1, none⟩ = some (.string ro) := HKK.out.cell 1
  have a2 : w5.cell? ⟨kb, 2, none⟩ = some (.int .i64 fm) := HKK.out.cell 2
  have a3 : w5.cell? ⟨kb, 3, none⟩ = some (.string no) := HKK.out.cell 3
  go_wp2_with fail
  refine (HDZ.out _ (HK.out.cell 0)).mono ?_
  rintro e w6 ⟨rfl, hb⟩
  have HK := Lib.hid (HK.out.below hb)
  have HKK := Lib.hid (HKK.out.below hb)
  have HB := Lib.hid (HB.out.trans (hb.mono HB.out.size))
  clear hb a0 a1 a2 a3
  try clear hW hW0
  have a0 : w6.cell? ⟨kb, 0, none⟩ = some (.string db) := HKK.out.cell 0
  have a1 : w6.cell? ⟨kb, 1, none⟩ = some (.string ro) := HKK.out.cell 1
  have a2 : w6.cell? ⟨kb, 2, none⟩ = some (.int .i64 fm) := HKK.out.cell 2
  have a3 : w6.cell? ⟨kb, 3, none⟩ = some (.string no) := HKK.out.cell 3
  go_wp2_with fail
  refine (CA.tick_nil 9 _).mono ?_
  rintro e w7 ⟨rfl, hb⟩
  have HK := Lib.hid (HK.out.below hb)
  have HKK := Lib.hid (HKK.out.below hb)
  have HB := Lib.hid (HB.out.trans (hb.mono HB.out.size))
  clear hb a0 a1 a2 a3
  try clear hW hW0
  have a0 : w7.cell? ⟨kb, 0, none⟩ = some (.string db) := HKK.out.cell 0
  have a1 : w7.cell? ⟨kb, 1, none⟩ = some (.string ro) := HKK.out.cell 1
  have a2 : w7.cell? ⟨kb, 2, none⟩ = some (.int .i64 fm) := HKK.out.cell 2
  have a3 : w7.cell? ⟨kb, 3, none⟩ = some (.string no) := HKK.out.cell 3
  go_wp2_with fail
  refine (CA.tick_zero 9 _ z (HK.out.cell 0)).mono ?_
  rintro e w8 ⟨rfl, hb⟩
  have HK := Lib.hid (HK.out.below hb)
  have HKK := Lib.hid (HKK.out.below hb)
  have HB := Lib.hid (HB.out.trans (hb.mono HB.out.size))
  clear hb a0 a1 a2 a3
  try clear hW hW0
  have a0 : w8.cell? ⟨kb, 0, none⟩ = some (.string db) := HKK.out.cell 0
  have a1 : w8.cell? ⟨kb, 1, none⟩ = some (.string ro) := HKK.out.cell 1
  have a2 : w8.cell? ⟨kb, 2, none⟩ = some (.int .i64 fm) := HKK.out.cell 2
  have a3 : w8.cell? ⟨kb, 3, none⟩ = some (.string no) := HKK.out.cell 3
  go_wp2_with fail
  refine (CA.flush_nil _).mono ?_
  rintro e w9 ⟨rfl, hb⟩
  have HK := Lib.hid (HK.out.below hb)
  have HKK := Lib.hid (HKK.out.below hb)
  have HB := Lib.hid (HB.out.trans (hb.mono HB.out.size))
  clear hb a0 a1 a2 a3
  try clear hW hW0
  have a0 : w9.cell? ⟨kb, 0, none⟩ = some (.string db) := HKK.out.cell 0
  have a1 : w9.cell? ⟨kb, 1, none⟩ = some (.string ro) := HKK.out.cell 1
  have a2 : w9.cell? ⟨kb, 2, none⟩ = some (.int .i64 fm) := HKK.out.cell 2
  have a3 : w9.cell? ⟨kb, 3, none⟩ = some (.string no) := HKK.out.cell 3
  go_wp2_with fail
  refine (CA.flush_zero _ z (HK.out.cell 0)).mono ?_
  rintro e w10 ⟨rfl, hb⟩
  have HK := Lib.hid (HK.out.below hb)
  have HKK := Lib.hid (HKK.out.below hb)
  have HB := Lib.hid (HB.out.trans (hb.mono HB.out.size))
  clear hb a0 a1 a2 a3
  try clear hW hW0
  have a0 : w10.cell? ⟨kb, 0, none⟩ = some (.string db) := HKK.out.cell 0
  have a1 : w10.cell? ⟨kb, 1, none⟩ = some (.string ro) := HKK.out.cell 1
  have a2 : w10.cell? ⟨kb, 2, none⟩ = some (.int .i64 fm) := HKK.out.cell 2
  have a3 : w10.cell? ⟨kb, 3, none⟩ = some (.string no) := HKK.out.cell 3
  go_wp2_with fail
  refine (CA.keys_nil _).mono ?_
  rintro e w11 ⟨rfl, hb⟩
  have HK := Lib.hid (HK.out.below hb)
  have HKK := Lib.hid (HKK.out.below hb)
  have HB := Lib.hid (HB.out.trans (hb.mono HB.out.size))
  clear hb a0 a1 a2 a3
  try clear hW hW0
  have a0 : w11.cell? ⟨kb, 0, none⟩ = some (.string db) := HKK.out.cell 0
  have a1 : w11.cell? ⟨kb, 1, none⟩ = some (.string ro) := HKK.out.cell 1
  have a2 : w11.cell? ⟨kb, 2, none⟩ = some (.int .i64 fm) := HKK.out.cell 2
  have a3 : w11.cell? ⟨kb, 3, none⟩ = some (.string no) := HKK.out.cell 3
  go_wp2_with fail
  refine (CA.bytes_zero _ z (HK.out.cell 0)).mono ?_
  rintro e w12 ⟨rfl, hb⟩
  have HK := Lib.hid (HK.out.below hb)
  have HKK := Lib.hid (HKK.out.below hb)
  have HB := Lib.hid (HB.out.trans (hb.mono HB.out.size))
  clear hb a0 a1 a2 a3
  try clear hW hW0
  have a0 : w12.cell? ⟨kb, 0, none⟩ = some (.string db) := HKK.out.cell 0
  have a1 : w12.cell? ⟨kb, 1, none⟩ = some (.string ro) := HKK.out.cell 1
  have a2 : w12.cell? ⟨kb, 2, none⟩ = some (.int .i64 fm) := HKK.out.cell 2
  have a3 : w12.cell? ⟨kb, 3, none⟩ = some (.string no) := HKK.out.cell 3
  go_wp2_with fail
  refine (CA.copy_nil _).mono ?_
  rintro e w13 ⟨rfl, hb⟩
  have HK := Lib.hid (HK.out.below hb)
  have HKK := Lib.hid (HKK.out.below hb)
  have HB := Lib.hid (HB.out.trans (hb.mono HB.out.size))
  clear hb a0 a1 a2 a3
  try clear hW hW0
  have a0 : w13.cell? ⟨kb, 0, none⟩ = some (.string db) := HKK.out.cell 0
  have a1 : w13.cell? ⟨kb, 1, none⟩ = some (.string ro) := HKK.out.cell 1
  have a2 : w13.cell? ⟨kb, 2, none⟩ = some (.int .i64 fm) := HKK.out.cell 2
  have a3 : w13.cell? ⟨kb, 3, none⟩ = some (.string no) := HKK.out.cell 3
  go_wp2_with fail
  refine (CA.copy_zero _ z (HK.out.cell 0)).mono ?_
  rintro e w14 ⟨rfl, hb⟩
  have HK := Lib.hid (HK.out.below hb)
  have HKK := Lib.hid (HKK.out.below hb)
  have HB := Lib.hid (HB.out.trans (hb.mono HB.out.size))
  clear hb a0 a1 a2 a3
  try clear hW hW0
  have a0 : w14.cell? ⟨kb, 0, none⟩ = some (.string db) := HKK.out.cell 0
  have a1 : w14.cell? ⟨kb, 1, none⟩ = some (.string ro) := HKK.out.cell 1
  have a2 : w14.cell? ⟨kb, 2, none⟩ = some (.int .i64 fm) := HKK.out.cell 2
  have a3 : w14.cell? ⟨kb, 3, none⟩ = some (.string no) := HKK.out.cell 3
  go_wp2_with fail
  refine (CA.known_any _).mono ?_
  rintro e wk ⟨rfl, hk⟩
  have HK2 := Lib.hid hk
  clear hk
  go_wp2
  go_ret
  exact ⟨rfl, HB.out.trans (HK2.out.mono HB.out.size)⟩
end Go.Proofs.YtjngangojgjceaaGreat.CA
namespace Go.Proofs.YtjngangojgjceaaGreat.CA
open Go.ChangeShapes Go.WideShapes Go.ChangeAt Go.RowKit Go.Maps Go.ChangeMaps
open Go.Proofs.YtjngangojgjceaaGreat.SL Go.Proofs.YtjngangojgjceaaGreat.EX Go.Proofs.YtjngangojgjceaaGreat.RW
set_option maxRecDepth 100000
set_option linter.unusedVariables false
set_option linter.unusedSimpArgs false

set_option maxHeartbeats 2000000 in
theorem mcloneC_any (w : World) (b n : Nat) (f : Ky → Option Ce) (h : MapC w b n f) :
    Calls Tryz.prog 55 #[.map (some b)] w fun e w' => e = .returned (.map (some w.heap.size)) ∧ MapC w' w.heap.size n f ∧ Below w.heap.size w w' := by
  obtain ⟨D, ⟨es, clock, hb, r⟩, hr⟩ := h
  have hq := fun w => run_eql_map_nil_sl (P := Tryz.prog) w 57 _ _ (some b) Tryz.underlying57
  have hcl := run_maps_clone_sl (P := Tryz.prog) w 57 hb
  have hext : (callFunc 95 #[.iface 57 (.map (some b))]).run Tryz.prog w = .ok (.value (.iface 57 (.map (some w.heap.size)))) (w.alloc (.map es clock)) := by
    rw [run_callFunc_extern Tryz.func95 (by kernel_rfl) (by kernel_rfl) (by kernel_rfl) (e := Extern.MapsClone.clone) (by kernel_rfl), hcl]; rfl
  have hta := fun W v => run_typeAssert_map_sl (P := Tryz.prog) W 57 20 _ _ v Tryz.underlying57
  go_enter Tryz.func55, Tryz.ntmps55
  go_wp2
  go_ret
  exact ⟨rfl, ⟨D, ⟨es, clock, heap_alloc_new w _, r⟩, hr⟩, (Below.refl _ _).alloc (Nat.le_refl _) _⟩
section
variable {w0 w w' : World} {C : Cb} {N : Nat} {σ : Sg} {O : List Kp}
/-- another cache that stays -/
def Kc (B : Nat) (C : Cb) (N : Nat) (c : Cw) (σ : Sg) : Kp := .keep (fun w => CT B w C N c σ) (fun b => c.own C b)
def CopC (w0 : World) (C : Cb) (N : Nat) (σ : Sg) (O : List Kp) (e : Ending) (w' : World) : Prop :=
  ∃ C' c', e = .returned (ptr C'.g) ∧ (C'.al = C.al ∧ C'.ke = C.ke ∧ C'.mo = C.mo ∧ C'.ttl = C.ttl) ∧ LC w0 w' C N σ (Kc w0.heap.size C' N c' σ :: O)
/-- the other cache's turn -/
theorem LC.turn {C' : Cb} {c' : Cw} {N2 N' : Nat} {σ2 σ' : Sg} {O' : List Kp} (h : LC w0 w C N2 σ2 O') (hm : Kc w0.heap.size C' N' c' σ' ∈ O') : LC w0 w C' N' σ' [] :=
  ⟨c', h.kp hm, h.bel, fun p hp => by cases hp⟩
set_option maxHeartbeats 4000000 in
theorem lc_copy (h : LC w0 w C N σ O) (hT : kLe σ.T) (hK : kLe σ.K) (hN : N ≤ 1000000) :
    Calls Tryz.prog 20 #[ptr C.g] w (CopC w0 C N σ O) := by
  have hf := h.facts
  obtain ⟨c0, c1, c2, c3, c4⟩ := h.cells
  have hglt := h.glt
  have H := Lib.hid h
  obtain ⟨c, h1, h2, h3⟩ := h
  have HX : Hid (∀ w', Below w.heap.size w w' → w'.cell? ⟨C.g, 0, none⟩ = some (ptr C.g) ∧ w'.cell? ⟨C.g, 1, none⟩ = some (.int .i64 C.ttl) ∧ w'.cell? ⟨C.g, 2, none⟩ = some (.map (some C.m)) ∧ w'.cell? ⟨C.g, 3, none⟩ = some (ptr C.s) ∧ w'.cell? ⟨C.g, 4, none⟩ = some (ptr C.q)) := Lib.hid fun w' hb => (H.out.below hb).cells
  have HM := Lib.hid (fun W (hb : Below w.heap.size w W) => mcloneC_any W C.m c.nm (fV σ.V) ((h1.below hb).mp))
  have HSC := Lib.hid (fun W (hb : Below w.heap.size w W) => SL.copy_any W C.s c.n C.al C.ke C.mo c.x (h1.below hb).st (fun y hy => hy.elim (fun h => hT y (by rw [← h1.eT]; exact h)) (fun h => hK y (by rw [← h1.eK]; exact h))))
  have HQC := Lib.hid (fun W (hb : Below w.heap.size w W) => EX.copy_any W w0.heap.size C.q c.nq c.y (h1.below hb).qt (by have := h1.n2; omega) (Nat.le_trans h2.size hb.size))
  rw [h1.eT, h1.eK] at HSC
  have HC1 := Lib.hid h1
  have HN2 : Hid (c.nq ≤ N ∧ c.nm ≤ N ∧ σ.T.length + σ.K.length ≤ 1073741824) := Lib.hid ⟨h1.n2, h1.n3, hf.2.2.2.2.2.2.1⟩
  unfold CopQ at HQC
  unfold CopC
  clear hf h1 h2 h3 hT hK hN hglt c1 c2 c3 c4
  go_enter Tryz.func20, Tryz.ntmps20
  go_wp2_with fail
  refine (CA.given_yes _ _ c0).mono ?_
  rintro e w' ⟨rfl, rfl⟩
  clear c0
  go_wp2_with fail
  refine wp_region_held_drew (S := (fun w' => w'.cell? ⟨C.g, 0, none⟩ = some (ptr C.g) ∧ w'.cell? ⟨C.g, 1, none⟩ = some (.int .i64 C.ttl) ∧ w'.cell? ⟨C.g, 2, none⟩ = some (.map (some C.m)) ∧ w'.cell? ⟨C.g, 3, none⟩ = some (ptr C.s) ∧ w'.cell? ⟨C.g, 4, none⟩ = some (ptr C.q))) (by kernel_rfl) ?_ (fun hS => ?_)
  · exact HX.out _ (Below.refl _ _).drew
  refine tkY 0 ?_ rfl hS ?_ ?_
  rotate_left
  · intro wz hz
    obtain ⟨z0, z1, z2, z3, z4⟩ := hz
    go_simp
    all_goals first | with_reducible rfl | omega
  try simp only [Act.put, pu]
  refine tkY 1 ?_ rfl hS ?_ ?_
  rotate_left
  · intro wz hz
    obtain ⟨z0, z1, z2, z3, z4⟩ := hz
    go_simp
    all_goals first | with_reducible rfl | omega
  try simp only [Act.put, pu]
  refine tkY 2 ?_ rfl hS ?_ ?_
  rotate_left
  · intro wz hz
    obtain ⟨z0, z1, z2, z3, z4⟩ := hz
    go_simp
    all_goals first | with_reducible rfl | omega
  try simp only [Act.put, pu]
  refine tkY 3 ?_ rfl hS ?_ ?_
  rotate_left
  · intro wz hz
    obtain ⟨z0, z1, z2, z3, z4⟩ := hz
    go_simp
    all_goals first | with_reducible rfl | omega
  try simp only [Act.put, pu]
  refine tkY 4 ?_ rfl hS ?_ ?_
  rotate_left
  · intro wz hz
    obtain ⟨z0, z1, z2, z3, z4⟩ := hz
    go_simp
    all_goals first | with_reducible rfl | omega
  try simp only [Act.put, pu]
  refine tkY 5 ?_ rfl hS ?_ ?_
  rotate_left
  · intro wz hz
    obtain ⟨z0, z1, z2, z3, z4⟩ := hz
    go_simp
    all_goals first | with_reducible rfl | omega
  try simp only [Act.put, pu]
  refine tkY 6 ?_ rfl hS ?_ ?_
  rotate_left
  · intro wz hz
    obtain ⟨z0, z1, z2, z3, z4⟩ := hz
    go_simp
    all_goals first | with_reducible rfl | omega
  try simp only [Act.put, pu]
  refine tkY 7 ?_ rfl hS ?_ ?_
  rotate_left
  · intro wz hz
    obtain ⟨z0, z1, z2, z3, z4⟩ := hz
    go_simp
    all_goals first | with_reducible rfl | omega
  try simp only [Act.put, pu]
  refine tkY 9 ?_ rfl hS ?_ ?_
  rotate_left
  · intro wz hz
    obtain ⟨z0, z1, z2, z3, z4⟩ := hz
    go_simp
    all_goals first | with_reducible rfl | omega
  try simp only [Act.put, pu]
  refine tkY 10 ?_ rfl hS ?_ ?_
  rotate_left
  · intro wz hz
    obtain ⟨z0, z1, z2, z3, z4⟩ := hz
    go_simp
    all_goals first | with_reducible rfl | omega
  try simp only [Act.put, pu]
  refine tkY 11 ?_ rfl hS ?_ ?_
  rotate_left
  · intro wz hz
    obtain ⟨z0, z1, z2, z3, z4⟩ := hz
    go_simp
    all_goals first | with_reducible rfl | omega
  try simp only [Act.put, pu]
  refine tkY 12 ?_ rfl hS ?_ ?_
  rotate_left
  · intro wz hz
    obtain ⟨z0, z1, z2, z3, z4⟩ := hz
    go_simp
    all_goals first | with_reducible rfl | omega
  try simp only [Act.put, pu]
  refine tkY 14 ?_ rfl hS ?_ ?_
  rotate_left
  · intro wz hz
    obtain ⟨z0, z1, z2, z3, z4⟩ := hz
    go_simp
    all_goals first | with_reducible rfl | omega
  try simp only [Act.put, pu]
  refine tkY 15 ?_ rfl hS ?_ ?_
  rotate_left
  · intro wz hz
    obtain ⟨z0, z1, z2, z3, z4⟩ := hz
    go_simp
    all_goals first | with_reducible rfl | omega
  try simp only [Act.put, pu]
  refine tkY 16 ?_ rfl hS ?_ ?_
  rotate_left
  · intro wz hz
    obtain ⟨z0, z1, z2, z3, z4⟩ := hz
    go_simp
    all_goals first | with_reducible rfl | omega
  try simp only [Act.put, pu]
  refine tkY 17 ?_ rfl hS ?_ ?_
  rotate_left
  · intro wz hz
    obtain ⟨z0, z1, z2, z3, z4⟩ := hz
    go_simp
    all_goals first | with_reducible rfl | omega
  try simp only [Act.put, pu]
  refine wpAnyH_ready (rs := [8]) (by kernel_rfl) (by simp) (AllReadyH.cons rfl (fun K' hK' => ?_) AllReadyH.nil)
  go_simp
  have hbd : Below w.heap.size w w.drew := (Below.refl _ _).drew
  refine (HM.out w.drew hbd).mono ?_
  rintro e w1 ⟨rfl, m1, b1⟩
  obtain ⟨mb, hmb⟩ : ∃ b, w.drew.heap.size = b := ⟨_, rfl⟩
  rw [hmb] at m1 ⊢
  have hml : mb < w1.heap.size := m1.lt
  have HM1 := Lib.hid m1
  have HML : Hid (w.heap.size ≤ mb ∧ mb < w1.heap.size) := Lib.hid ⟨by rw [← hmb]; exact hbd.size, hml⟩
  have HB1 := Lib.hid (hbd.trans (b1.mono hbd.size))
  clear m1 b1 hbd hmb hml
  refine hK'.out _ _ ?_ (fun hSn => ?_)
  · exact HX.out _ HB1.out
  clear hK' K' hS
  have hS := hSn
  clear hSn
  try simp only [Act.put, pu]
  refine wpAnyH_ready (rs := [13]) (by kernel_rfl) (by simp) (AllReadyH.cons rfl (fun K' hK' => ?_) AllReadyH.nil)
  go_simp
  refine (HSC.out w1 HB1.out).mono ?_
  rintro e w2 ⟨sb, rfl, ns, xs, s1, s2, s3, s4, s5, s6⟩
  have HS1 := Lib.hid s1
  have HS2 : Hid (xs.tE = σ.T ∧ xs.kE = σ.K ∧ ns = σ.T.length + σ.K.length) := Lib.hid ⟨s2, s3, s6⟩
  have HS4 : Hid (∀ b, xs.own sb b → w1.heap.size ≤ b ∧ b < w2.heap.size) := Lib.hid fun b hb => ⟨s4 b hb, s1.lt hb⟩
  have HB12 := Lib.hid s5
  have HB2 := Lib.hid (HB1.out.trans (s5.mono HB1.out.size))
  clear s1 s2 s3 s4 s5 s6
  refine hK'.out _ _ ?_ (fun hSn => ?_)
  · exact HX.out _ HB2.out
  clear hK' K' hS
  have hS := hSn
  clear hSn
  try simp only [Act.put, pu]
  refine wpAnyH_ready (rs := [18]) (by kernel_rfl) (by simp) (AllReadyH.cons rfl (fun K' hK' => ?_) AllReadyH.nil)
  go_simp
  refine (HQC.out w2 HB2.out).mono ?_
  rintro e w3 ⟨qb, yq, rfl, q1, q2, q3, q4⟩
  have HQ1 := Lib.hid q1
  have HQ2 := Lib.hid q2
  have HQ4 : Hid (∀ b, yq.own qb b → w2.heap.size ≤ b ∧ b < w3.heap.size) := Lib.hid fun b hb => ⟨q3 b hb, q1.lt hb⟩
  have HB23 := Lib.hid q4
  have HB3 := Lib.hid (HB2.out.trans (q4.mono HB2.out.size))
  clear q1 q2 q3 q4
  refine hK'.out _ _ ?_ (fun hSn => ?_)
  · exact HX.out _ HB3.out
  clear hK' K' hS
  have hS := hSn
  clear hSn
  try simp only [Act.put, pu]
  refine wpAnyH_ready (rs := [19]) (by kernel_rfl) (by simp) (AllReadyH.cons rfl (fun K' hK' => ?_) AllReadyH.nil)
  go_simp
  refine (made_any C.ttl mb sb qb w3).mono ?_
  rintro e w4 ⟨gb, rfl, g1, g2, g3⟩
  have HG1 := Lib.hid g1
  have HG2 := Lib.hid g2
  have HB34 := Lib.hid g3
  have HB4 := Lib.hid (HB3.out.trans (g3.mono HB3.out.size))
  clear g1 g2 g3
  refine hK'.out _ _ ?_ (fun hSn => ?_)
  · exact HX.out _ HB4.out
  clear hK' K' hS
  have hS := hSn
  clear hSn
  try simp only [Act.put, pu]
  refine tkY 20 ?_ rfl hS ?_ ?_
  rotate_left
  · intro wz hz
    go_simp
    all_goals first | with_reducible rfl | omega
  try simp only [Act.put, pu]
  refine wpAnyH_done (by kernel_rfl) ?_ _
  clear hS
  go_wp2
  go_ret
  have hs2 := HB12.out.size
  have hs3 := HB23.out.size
  have hs4 := HB34.out.size
  have hm := HML.out
  have hg := HG2.out
  have hb0 := H.out.bel.size
  have hb24 : Below w2.heap.size w2 w4 := HB23.out.trans (HB34.out.mono HB23.out.size)
  have hb14 : Below w1.heap.size w1 w4 := HB12.out.trans (hb24.mono HB12.out.size)
  have ct : CT w0.heap.size w4 ⟨gb, sb, qb, mb, C.al, C.ke, C.mo, C.ttl⟩ N ⟨ns, c.nq, c.nm, xs, yq⟩ σ := {
    bk := HG1.out
    st := HS1.out.below hb24
    qt := HQ1.out.below HB34.out
    mp := HM1.out.keep (hb14.block mb hm.2)
    eT := HS2.out.1
    eK := HS2.out.2.1
    eI := by
      show yq.L.map it = σ.I
      rw [HQ2.out]; exact HC1.out.eI
    n1 := by have := HS2.out.2.2; have := HN2.out; show ns ≤ _; omega
    n2 := HN2.out.1
    n3 := HN2.out.2.1
    bg := ⟨by show _ ≤ gb; omega, by show _ ≤ mb; omega⟩
    bx := fun b hb => by have := (HS4.out b hb).1; omega
    gm := by show gb ≠ mb; omega
    gx := fun hb => by have := (HS4.out _ hb).2; have : gb < w2.heap.size := this; omega
    gy := fun hb => by have := (HQ4.out _ hb).2; have : gb < w3.heap.size := this; omega
    mx := fun hb => by have := (HS4.out _ hb).1; have : w1.heap.size ≤ mb := this; omega
    my := fun hb => by have := (HQ4.out _ hb).1; have : w2.heap.size ≤ mb := this; omega
    xy := fun b hx hy => by have := (HS4.out b hx).2; have := (HQ4.out b hy).1; omega }
  refine ⟨⟨gb, sb, qb, mb, C.al, C.ke, C.mo, C.ttl⟩, ⟨ns, c.nq, c.nm, xs, yq⟩, rfl, ⟨rfl, rfl, rfl, rfl⟩, H.out.addO HB4.out ct (fun b hb => ⟨?_, ct.lt hb⟩) fun w1 w2 h1 hk => h1.keep hk⟩
  rcases hb with hb | hb | hb | hb
  · have : b = gb := hb; omega
  · have : b = mb := hb; omega
  · have := (HS4.out b hb).1; have := HB1.out.size; omega
  · have := (HQ4.out b hb).1; have := HB2.out.size; omega
/-- the document's types -/
def docT (t : TypeId) : Prop := t = 78 ∨ t = 94 ∨ t = 71 ∨ t = 138 ∨ t = 75 ∨ t = 141
/-- blocks of other types are none of the cache's -/
theorem CT.other {B : Nat} {c : Cw} (h : CT B w C N c σ) {b : Nat} {cur : Array Value} {t : TypeId} {fz : Nat × Nat} (hb : w.heap[b]? = some (.cells cur t fz)) (hn : t ≠ 61 ∧ t ≠ 124 ∧ t ≠ 148 ∧ t ≠ 129 ∧ t ≠ 168 ∧ t ≠ 131) : ¬ c.own C b := by
  obtain ⟨n1, n2, n3, n4, n5, n6⟩ := hn
  intro ho
  rcases ho with rfl | rfl | ho | ho
  · have := h.bk
    unfold Bk at this
    rw [hb] at this
    injection this with this
    injection this with _ ht
    exact n1 ht
  · obtain ⟨D, ⟨es, clock, hm, _⟩, _⟩ := h.mp
    rw [hb] at hm
    cases hm
  · exact h.st.other hb n2 n3 ho
  · exact h.qt.otherB hb n4 n5 n6 ho
theorem docT.code {t : TypeId} (h : docT t) : t ≠ 61 ∧ t ≠ 124 ∧ t ≠ 148 ∧ t ≠ 129 ∧ t ≠ 168 ∧ t ≠ 131 := by
  rcases h with rfl | rfl | rfl | rfl | rfl | rfl <;> refine ⟨?_, ?_, ?_, ?_, ?_, ?_⟩ <;> decide
/-- the document's blocks stay as they are -/
def docB (wa : World) (b : Nat) : Prop := ∃ cur t fz, docT t ∧ wa.heap[b]? = some (.cells cur t fz)
def Kd (wa : World) : Kp := .keep (fun w => ∀ b, docB wa b → w.heap[b]? = wa.heap[b]?) (docB wa)
theorem LC.pin (h : LC w0 w C N σ O) : LC w0 w C N σ (Kd w :: O) := by
  obtain ⟨c, h1, h2, h3⟩ := h
  refine ⟨c, h1, h2, fun p hp => ?_⟩
  rcases List.mem_cons.1 hp with rfl | hp
  · refine ⟨fun b _ => rfl, fun b hb => ?_, fun w1 w2 p1 hk b hb => (hk b hb).trans (p1 b hb)⟩
    obtain ⟨cur, t, fz, ht, hc⟩ := hb
    exact ⟨(Array.getElem?_eq_some_iff.1 hc).1, h1.other hc ht.code⟩
  · exact h3 p hp
theorem LC.unpin {wa : World} {R : Rb} {M : Nat} {σr : Sg} (h : LC w0 w C N σ O) (hm : Kd wa ∈ O) (hr : RT w0 wa R M σr) : RT w0 w R M σr :=
  hr.kt (fun t ht b cur fz hb => (h.kp hm) b ⟨cur, t, fz, ht, hb⟩) h.bel
/-- a step of the document's cache alone -/
theorem LC.doc {R : Rb} {M M' : Nat} {σ1 σ2 : Sg} (h : LC w0 w C N σ O) (hr : RT w0 w R M σ1) (hs : StR w0 R M' σ2 w w') (hO : ∀ p ∈ O, (∃ b cs, p = .blk b 34 cs) ∨ ∃ v d, p = Kk w0.heap.size v d) : LC w0 w' C N σ O := by
  obtain ⟨c, h1, h2, h3⟩ := h
  have hty : ∀ b, R.own b → ∃ cur t fz, docT t ∧ t ≠ 34 ∧ t ≠ 32 ∧ w.heap[b]? = some (.cells cur t fz) := by
    obtain ⟨va, vc, L, hr, hs, hq, _⟩ := hr
    obtain ⟨scs, hsk⟩ := CA.RS.bk hs
    obtain ⟨qcs, hqk⟩ := CA.RQ.bk hq
    intro b hb
    rcases hb with rfl | rfl | rfl
    · exact ⟨_, _, _, .inl rfl, by decide, by decide, hr⟩
    · exact ⟨_, _, _, .inr (.inr (.inl rfl)), by decide, by decide, hsk⟩
    · exact ⟨_, _, _, .inr (.inr (.inr (.inr (.inl rfl)))), by decide, by decide, hqk⟩
  have hge : ∀ b, R.own b → w0.heap.size ≤ b := by
    obtain ⟨va, vc, L, hr, ⟨_, _, _, _, _, _, _, _, _, hs, _⟩, ⟨_, _, _, _, hq⟩, _, _, _, _, hb⟩ := hr
    intro b hb2
    rcases hb2 with rfl | rfl | rfl <;> assumption
  have hno : ∀ b, R.own b → ¬ c.own C b := fun b hb => by
    obtain ⟨cur, t, fz, ht, _, _, hc⟩ := hty b hb
    exact h1.other hc ht.code
  refine ⟨c, h1.keep fun b hb => hs.2.block b (h1.lt hb) fun ho => hno b ho hb, below_chg h2 hs.2 hge, fun p hp => ?_⟩
  have hp3 := h3 p hp
  rcases hO p hp with ⟨b, cs, rfl⟩ | ⟨v, d, rfl⟩
  · refine ⟨hp3.1.heap (hs.2.block b hp3.1.lt fun ho => ?_), hp3.2⟩
    obtain ⟨cur, t, fz, _, hn, _, hc⟩ := hty b ho
    have hb := hp3.1
    unfold Bk at hb
    rw [hc] at hb
    injection hb with hb
    injection hb with _ ht
    exact hn ht
  · have hko : KO 32 w0.heap.size w v d := hp3.1
    refine ⟨hko.keepB fun b hb => hs.2.block b (hp3.2.1 b hb).1 fun ho => ?_, fun b hb => ⟨Nat.lt_of_lt_of_le (hp3.2.1 b hb).1 hs.2.size, (hp3.2.1 b hb).2⟩, hp3.2.2⟩
    obtain ⟨cur, t, fz, _, _, hn, hc⟩ := hty b ho
    obtain ⟨cur2, fz2, hc2⟩ := row_ty hko hb
    rw [hc] at hc2
    injection hc2 with hc2
    injection hc2 with _ ht
    exact hn ht
theorem LC.sts (h : LC w0 w C N σ O) (hi : InvS C.al C.ke σ) : Sts C.al C.ke σ :=
  ⟨hi, h.facts.1, h.facts.2.1, h.facts.2.2.1, h.facts.2.2.2.1, h.facts.2.2.2.2.1, h.facts.2.2.2.2.2.2.2⟩
end
end Go.Proofs.YtjngangojgjceaaGreat.CA
namespace Go.Proofs.YtjngangojgjceaaGreat.CA
open Go.ChangeShapes Go.WideShapes Go.ChangeAt Go.RowKit Go.Maps Go.ChangeMaps
open Go.Proofs.YtjngangojgjceaaGreat.SL Go.Proofs.YtjngangojgjceaaGreat.EX Go.Proofs.YtjngangojgjceaaGreat.RW
set_option maxRecDepth 100000
set_option linter.unusedVariables false
set_option linter.unusedSimpArgs false

def OC0 (w : World) (b : Nat) (o : Opc) : Prop := w.cell? ⟨b, 0, none⟩ = some (.int .i64 o.1) ∧ w.cell? ⟨b, 1, none⟩ = some (.string o.2.1.1) ∧ w.cell? ⟨b, 2, none⟩ = some (.string o.2.1.2.1) ∧ w.cell? ⟨b, 3, none⟩ = some (.int .i64 o.2.1.2.2.1) ∧ w.cell? ⟨b, 4, none⟩ = some (.string o.2.1.2.2.2) ∧ w.cell? ⟨b, 5, none⟩ = some (.string o.2.2.1) ∧ w.cell? ⟨b, 6, none⟩ = some (.int .i64 o.2.2.2)
theorem OC0.of {w : World} {b : Nat} {o : Opc} (h : Bk w b 34 (opcC o).toArray) : OC0 w b o := ⟨h.cell 0, h.cell 1, h.cell 2, h.cell 3, h.cell 4, h.cell 5, h.cell 6⟩
theorem put_glen (al mo ttl : Int) (k : Ky) (v : ByteArray) (now : Int) (s : Sg) : (putR al mo ttl k v now s).1.2.length ≤ s.T.length + s.K.length := by
  unfold putR
  split
  · split
    · have h2 := room_len (al := al) (z := szK k v) ((delE (textK k) s.T).length + (delE (textK k) s.K).length) (delE (textK k) s.T) (delE (textK k) s.K)
      have h3 : (delE (textK k) s.T).length ≤ s.T.length := List.length_filter_le _ _
      have h4 : (delE (textK k) s.K).length ≤ s.K.length := List.length_filter_le _ _
      show (putE al (textK k) (szK k v) s.T s.K).2.2.length ≤ _
      unfold putE
      simp only
      omega
    · exact Nat.zero_le _
  · exact Nat.zero_le _
theorem Sts.has {al ke : Int} {s : Sg} (h : Sts al ke s) (t : ByteArray) : (hasS t s.T s.K).isSome = (s.V t).isSome := by
  rw [Bool.eq_iff_iff]
  exact has_iff.trans (h.iv.st t)
theorem Sts.drop_no {al ke : Int} {s : Sg} (h : Sts al ke s) (t : ByteArray) (hv : s.V t = none) : dropS t s = s := by
  have hn : ¬ (s.V t).isSome = true := by rw [hv]; decide
  have h1 : t ∉ keysE s.T := fun hx => hn ((h.iv.st t).1 (.inl hx))
  have h2 : t ∉ keysE s.K := fun hx => hn ((h.iv.st t).1 (.inr hx))
  have h3 : t ∉ keysI s.I := fun hx => hn ((h.iv.qu t).1 hx)
  refine Sg.ext' ?_ ?_ ?_ ?_
  · exact List.filter_eq_self.2 fun y hy => decide_eq_true fun e => h1 (mem_keysE.2 ⟨y, hy, e⟩)
  · exact List.filter_eq_self.2 fun y hy => decide_eq_true fun e => h2 (mem_keysE.2 ⟨y, hy, e⟩)
  · exact List.filter_eq_self.2 fun y hy => decide_eq_true fun e => h3 (mem_keysI.2 ⟨y, hy, e⟩)
  · funext x
    show delV t s.V x = s.V x
    unfold delV
    by_cases e : x = t
    · rw [if_pos e, e, hv]
    · rw [if_neg e]
theorem Sts.due {al ke : Int} {s : Sg} (h : Sts al ke s) (now : Int) : ∀ t ∈ keysI (leI now s.I), t.size ≤ 4000 := fun t ht => by
  obtain ⟨y, hy, rfl⟩ := mem_keysI.1 ht
  exact (h.iv.ok _ ((h.iv.qu _).1 (mem_keysI.2 ⟨y, (List.mem_filter.1 hy).1, rfl⟩))).2
theorem Sts.all {al ke : Int} {s : Sg} (h : Sts al ke s) : (∀ t ∈ allS s, okP t = true ∧ t.size ≤ 4000) ∧ (allS s).length ≤ 2147483648 := by
  refine ⟨fun t ht => h.iv.ok t ((all_there h.iv h.uk).vs t ht), ?_⟩
  have h1 := h.okl.1
  have h2 := h.okl.2
  unfold allS keysE
  rw [List.length_append, List.length_map, List.length_map]; omega
theorem flush_inv {al ke : Int} {s : Sg} (h : Sts al ke s) : InvS al ke (flushS s) := h.iv.drops h.pT h.pK _
theorem okD.of {C C' : Cb} (h : okD C) (e : C'.al = C.al ∧ C'.ke = C.ke ∧ C'.mo = C.mo ∧ C'.ttl = C.ttl) : okD C' := by
  unfold okD at *
  rw [e.1, e.2.1, e.2.2.1, e.2.2.2]; exact h
def vSp : ByteArray := ⟨#[115, 112, 111, 105, 108, 116]⟩
set_option maxHeartbeats 8000000 in
theorem plays_no (v0 v1 : Value) (w : World) (f0 : Fits4i w v0) (f1 : FitsP w v1) (hno : ∀ a b c d : Int, v0 = .agg #[.int .i64 a, .int .i64 b, .int .i64 c, .int .i64 d] → ¬ okC a b c d) :
    Calls Tryz.prog 3 #[v0, v1] w fun e w' => e = .returned (.bool true) ∧ Below w.heap.size w w' := by
  obtain ⟨a, b, c, d, rfl, ha, hb, hc, hd⟩ := f0
  obtain ⟨l, hl⟩ := f1
  obtain ⟨va, vc, rfl⟩ := hl.form
  obtain ⟨hb0, hhb⟩ : ∃ b, w.heap.size = b := ⟨_, rfl⟩
  obtain ⟨W0, hW0⟩ : ∃ W, w.alloc (.cells #[.int .i64 a, .int .i64 b, .int .i64 c, .int .i64 d] 22) = W := ⟨_, rfl⟩
  have hbw : Below w.heap.size w W0 := by rw [← hW0]; exact (Below.refl _ _).alloc (Nat.le_refl _) _
  have kh : Bk W0 hb0 22 #[.int .i64 a, .int .i64 b, .int .i64 c, .int .i64 d] := by rw [← hW0, ← hhb]; exact Bk.new _ _ _
  have HBW := Lib.hid hbw
  have HKH := Lib.hid kh
  have HL := Lib.hid hl
  have hn := hno a b c d rfl
  have HN := Lib.hid hn
  have q0 : W0.cell? ⟨hb0, 0, none⟩ = some (.int .i64 a) := HKH.out.cell 0
  have q1 : W0.cell? ⟨hb0, 1, none⟩ = some (.int .i64 b) := HKH.out.cell 1
  have q2 : W0.cell? ⟨hb0, 2, none⟩ = some (.int .i64 c) := HKH.out.cell 2
  have q3 : W0.cell? ⟨hb0, 3, none⟩ = some (.int .i64 d) := HKH.out.cell 3
  clear hno hn ha hb hc hd hl hbw kh
  go_enter Tryz.func3, Tryz.ntmps3
  go_wp2_with fail
  try rw [hW0]
  try rw [hhb]
  refine (CA.new_no _ a b c d HN.out).mono ?_
  rintro e w2 ⟨rfl, b2⟩
  have HKH := Lib.hid (HKH.out.below b2)
  have HBW := Lib.hid (HBW.out.trans (b2.mono HBW.out.size))
  clear b2 hW0 hhb q0 q1 q2 q3
  have q0 : w2.cell? ⟨hb0, 0, none⟩ = some (.int .i64 a) := HKH.out.cell 0
  have q1 : w2.cell? ⟨hb0, 1, none⟩ = some (.int .i64 b) := HKH.out.cell 1
  have q2 : w2.cell? ⟨hb0, 2, none⟩ = some (.int .i64 c) := HKH.out.cell 2
  have q3 : w2.cell? ⟨hb0, 3, none⟩ = some (.int .i64 d) := HKH.out.cell 3
  go_wp2_with fail
  refine (CA.rnew12_no a b c d _ HN.out).mono ?_
  rintro e w3 ⟨rg, rfl, b3⟩
  have HBW := Lib.hid (HBW.out.trans (b3.mono HBW.out.size))
  clear b3 q0 q1 q2 q3 HKH HN HL
  go_wp2
  go_loopg [5, 9] 0 (fun gk u5 u9 wx => u5 = .pointer none ∧ u9 = .int .i64 0 ∧ Below w.heap.size w wx)
  case atStart => exact ⟨rfl, rfl, HBW.out⟩
  case round =>
    obtain ⟨rfl, rfl, hB⟩ := hrel
    have HB := Lib.hid hB
    clear hB
    by_cases hlt : 0 < l.length
    · have l1 : (0 : Int) < (l.length : Int) := by omega
      clear hlt
      go_wp2_with fail
      refine (CA.known_any _).mono ?_
      rintro e wk ⟨rfl, hk⟩
      have HK := Lib.hid hk
      clear hk
      go_wp2
      go_ret
      exact ⟨rfl, HB.out.trans (HK.out.mono HB.out.size)⟩
    · have l1 : ¬ ((0 : Int) < (l.length : Int)) := by omega
      clear hlt
      go_wp2_with fail
      refine (CA.known_any _).mono ?_
      rintro e wk ⟨rfl, hk⟩
      have HK := Lib.hid hk
      clear hk
      go_wp2
      go_ret
      exact ⟨rfl, HB.out.trans (HK.out.mono HB.out.size)⟩
set_option maxHeartbeats 64000000 in
theorem plays_yes (v0 v1 : Value) (w : World) (f0 : Fits4i w v0) (f1 : FitsP w v1) (hyes : ∀ a b c d : Int, v0 = .agg #[.int .i64 a, .int .i64 b, .int .i64 c, .int .i64 d] → okC a b c d) :
    Calls Tryz.prog 3 #[v0, v1] w fun e w' => e = .returned (.bool true) ∧ Below w.heap.size w w' := by
  obtain ⟨a, b, c, d, rfl, ha, hb, hc, hd⟩ := f0
  obtain ⟨l, hl⟩ := f1
  obtain ⟨va, vc, rfl⟩ := hl.form
  obtain ⟨hb0, hhb⟩ : ∃ b, w.heap.size = b := ⟨_, rfl⟩
  obtain ⟨W0, hW0⟩ : ∃ W, w.alloc (.cells #[.int .i64 a, .int .i64 b, .int .i64 c, .int .i64 d] 22) = W := ⟨_, rfl⟩
  have hbw : Below w.heap.size w W0 := by rw [← hW0]; exact (Below.refl _ _).alloc (Nat.le_refl _) _
  have kh : Bk W0 hb0 22 #[.int .i64 a, .int .i64 b, .int .i64 c, .int .i64 d] := by rw [← hW0, ← hhb]; exact Bk.new _ _ _
  have HBW := Lib.hid hbw
  have HKH := Lib.hid kh
  have HL := Lib.hid hl
  have hy := hyes a b c d rfl
  have HY := Lib.hid hy
  have q0 : W0.cell? ⟨hb0, 0, none⟩ = some (.int .i64 a) := HKH.out.cell 0
  have q1 : W0.cell? ⟨hb0, 1, none⟩ = some (.int .i64 b) := HKH.out.cell 1
  have q2 : W0.cell? ⟨hb0, 2, none⟩ = some (.int .i64 c) := HKH.out.cell 2
  have q3 : W0.cell? ⟨hb0, 3, none⟩ = some (.int .i64 d) := HKH.out.cell 3
  clear hyes hy ha hb hc hd hl hbw kh
  go_enter Tryz.func3, Tryz.ntmps3
  go_wp2_with fail
  try rw [hW0]
  try rw [hhb]
  refine (CA.new_yes w W0 HBW.out a b c d HY.out).mono ?_
  rintro e w2 ⟨C, rfl, e1, e2, e3, e4, hh, b2, _⟩
  have HKH := Lib.hid (HKH.out.below b2)
  have H := Lib.hid hh
  have HCE : Hid (C.al = a ∧ C.ke = b ∧ C.mo = c ∧ C.ttl = d) := Lib.hid ⟨e1, e2, e3, e4⟩
  clear b2 hh hW0 hhb q0 q1 q2 q3 e1 e2 e3 e4
  have q0 : w2.cell? ⟨hb0, 0, none⟩ = some (.int .i64 a) := HKH.out.cell 0
  have q1 : w2.cell? ⟨hb0, 1, none⟩ = some (.int .i64 b) := HKH.out.cell 1
  have q2 : w2.cell? ⟨hb0, 2, none⟩ = some (.int .i64 c) := HKH.out.cell 2
  have q3 : w2.cell? ⟨hb0, 3, none⟩ = some (.int .i64 d) := HKH.out.cell 3
  go_wp2_with fail
  refine (CA.rnew12_yes w w2 H.out.bel a b c d HY.out).mono ?_
  rintro e w3 ⟨R, rfl, e1, e2, e3, e4, hr, b3, _⟩
  have HR := Lib.hid hr
  have H := Lib.hid (H.out.below b3)
  have HE : Hid (R.al = C.al ∧ R.ke = C.ke ∧ R.mo = C.mo ∧ R.ttl = C.ttl) := Lib.hid ⟨by rw [e1, HCE.out.1], by rw [e2, HCE.out.2.1], by rw [e3, HCE.out.2.2.1], by rw [e4, HCE.out.2.2.2]⟩
  have HC : Hid (okD C) := Lib.hid (by unfold okD; rw [HCE.out.1, HCE.out.2.1, HCE.out.2.2.1, HCE.out.2.2.2]; exact HY.out)
  have HI : Hid (InvS C.al C.ke emS) := Lib.hid (InvS.nil ⟨HC.out.1.2.2.1, by have := HC.out.1.1; omega⟩)
  clear b3 hr e1 e2 e3 e4 q0 q1 q2 q3 HKH HY HCE HBW
  go_wp2
  go_loopg [5, 9] (min l.length 50) (fun gk u5 u9 wx => ∃ (i n : Nat) (C : Cb) (σ : Sg), u5 = ptr C.g ∧ u9 = .int .i64 (i : Int) ∧ i + gk = min l.length 50 ∧ n ≤ 3 * i ∧ okD C ∧ (R.al = C.al ∧ R.ke = C.ke ∧ R.mo = C.mo ∧ R.ttl = C.ttl) ∧ InvS C.al C.ke σ ∧ LC w wx C n σ [] ∧ RT w wx R i σ)
  case atStart => exact ⟨0, 0, C, emS, rfl, rfl, by omega, by omega, HC.out, HE.out, HI.out, H.out, HR.out⟩
  case round =>
    obtain ⟨i, n, C, σ, rfl, rfl, hi, hn, hC, hE, hinv, hS, hRT⟩ := hrel
    have H := Lib.hid hS
    have HI := Lib.hid hinv
    have HC := Lib.hid hC
    have HE := Lib.hid hE
    have HR := Lib.hid hRT
    cases gk with
    | zero =>
      by_cases hlt : i < l.length
      · have l1 : (i : Int) < (l.length : Int) := by omega
        have l2 : ¬ ((i : Int) < 50) := by omega
        clear hi hn hC hE hinv hS hRT hlt
        go_wp2_with fail
        refine (CA.known_any _).mono ?_
        rintro e wk ⟨rfl, hk⟩
        have HK := Lib.hid hk
        clear hk
        go_wp2
        go_ret
        exact ⟨rfl, H.out.bel.trans (HK.out.mono H.out.bel.size)⟩
      · have l1 : ¬ ((i : Int) < (l.length : Int)) := by omega
        clear hi hn hC hE hinv hS hRT hlt
        go_wp2_with fail
        refine (CA.known_any _).mono ?_
        rintro e wk ⟨rfl, hk⟩
        have HK := Lib.hid hk
        clear hk
        go_wp2
        go_ret
        exact ⟨rfl, H.out.bel.trans (HK.out.mono H.out.bel.size)⟩
    | succ g =>
      have hlt : i < l.length := by omega
      have l0 : (0 : Int) ≤ (i : Int) := by omega
      have l1 : (i : Int) < (l.length : Int) := by omega
      have l2 : (i : Int) < 50 := by omega
      obtain ⟨i1, hi1⟩ : ∃ i1, i + 1 = i1 := ⟨_, rfl⟩
      have wk : IntKind.i64.wrap ((i : Int) + 1) = (i1 : Int) := by rw [show (i : Int) + 1 = (i1 : Int) by omega]; exact IntWalk.i64_in _ (by omega)
      have HI1 : Hid (i1 + g = min l.length 50 ∧ n + 3 ≤ 3 * i1 ∧ i + 1 = i1 ∧ i1 ≤ 50) := Lib.hid (by omega)
      obtain ⟨bb, off, cap, he, hcp, hx⟩ := (HL.out.below hS.bel).inv (by omega)
      injection he with e1 _ e3
      subst e1 e3
      obtain ⟨o, ho⟩ : ∃ o, l[i] = o := ⟨_, rfl⟩
      have hyi : l[i]? = some o := by rw [List.getElem?_eq_getElem hlt, ho]
      obtain ⟨hob, hxx⟩ := hx i o hyi
      obtain ⟨kd, k, val, now⟩ := o
      obtain ⟨hb1, hbk, hb3, hb4⟩ := hob
      have HSH := Lib.hid (fun W => short_any k hbk W)
      have hsh := fun h => kyB.sh hbk h
      obtain ⟨o1, o2, o3, o4⟩ := k
      have x0 := hxx 0 _ rfl
      have x1 := hxx 1 _ rfl
      have x2 := hxx 2 _ rfl
      have x3 := hxx 3 _ rfl
      have x4 := hxx 4 _ rfl
      have x5 := hxx 5 _ rfl
      have x6 := hxx 6 _ rfl
      rw [Nat.add_zero] at x0
      obtain ⟨W7, hW7⟩ : ∃ W, wr.alloc (.cells #[.int .i64 kd, .string o1, .string o2, .int .i64 o3, .string o4, .string val, .int .i64 now] 34) = W := ⟨_, rfl⟩
      obtain ⟨ob, hob⟩ : ∃ b, wr.heap.size = b := ⟨_, rfl⟩
      have hb7 : Below wr.heap.size wr W7 := by rw [← hW7]; exact (Below.refl _ _).alloc (Nat.le_refl _) _
      have k7 : Bk W7 ob 34 #[.int .i64 kd, .string o1, .string o2, .int .i64 o3, .string o4, .string val, .int .i64 now] := by rw [← hW7, ← hob]; exact Bk.new _ _ _
      have H := Lib.hid (H.out.blkO hb7 (Nat.le_of_eq hob) k7)
      have HR := Lib.hid (HR.out.below hb7)
      clear hi hn hC hE hinv hS hRT hlt hi1 hcp hx ho hyi hxx hb1 hbk hb3 hb4 hb7 k7
      cases sa : shK (o1, o2, o3, o4) with
      | false =>
        rw [sa] at HSH
        clear hsh sa
        as_aux_lemma =>
          have kk := H.out.blk (List.mem_cons_self ..)
          have y0 : W7.cell? ⟨ob, 0, none⟩ = some (.int .i64 kd) := kk.cell 0
          have y1 : W7.cell? ⟨ob, 1, none⟩ = some (.string o1) := kk.cell 1
          have y2 : W7.cell? ⟨ob, 2, none⟩ = some (.string o2) := kk.cell 2
          have y3 : W7.cell? ⟨ob, 3, none⟩ = some (.int .i64 o3) := kk.cell 3
          have y4 : W7.cell? ⟨ob, 4, none⟩ = some (.string o4) := kk.cell 4
          have y5 : W7.cell? ⟨ob, 5, none⟩ = some (.string val) := kk.cell 5
          have y6 : W7.cell? ⟨ob, 6, none⟩ = some (.int .i64 now) := kk.cell 6
          clear kk
          go_wp2_with fail
          try rw [hW7]
          try rw [hob]
          refine (HSH.out _).mono ?_
          rintro e w3 ⟨rfl, hb3⟩
          have H := Lib.hid (H.out.below hb3)
          have HR := Lib.hid (HR.out.below hb3)
          clear hb3 hW7 hob HSH
          clear x0 x1 x2 x3 x4 x5 x6
          clear y0 y1 y2 y3 y4 y5 y6
          have kk := H.out.blk (List.mem_cons_self ..)
          have y0 : w3.cell? ⟨ob, 0, none⟩ = some (.int .i64 kd) := kk.cell 0
          have y1 : w3.cell? ⟨ob, 1, none⟩ = some (.string o1) := kk.cell 1
          have y2 : w3.cell? ⟨ob, 2, none⟩ = some (.string o2) := kk.cell 2
          have y3 : w3.cell? ⟨ob, 3, none⟩ = some (.int .i64 o3) := kk.cell 3
          have y4 : w3.cell? ⟨ob, 4, none⟩ = some (.string o4) := kk.cell 4
          have y5 : w3.cell? ⟨ob, 5, none⟩ = some (.string val) := kk.cell 5
          have y6 : w3.cell? ⟨ob, 6, none⟩ = some (.int .i64 now) := kk.cell 6
          clear kk
          go_wp2
          go_roundg g
          case measure => exact Nat.lt_succ_self _
          case rel => exact ⟨i1, n, C, σ, rfl, rfl, HI1.out.1, by have := HI1.out; omega, HC.out, HE.out, HI.out, H.out.nil, HR.out.mono (by have := HI1.out; omega)⟩
      | true =>
        rw [sa] at HSH
        have hsk := hsh sa
        have HSK := Lib.hid hsk
        have HFK := Lib.hid hsk.fit
        clear hsh sa hsk
        by_cases hv : val.size ≤ 500
        · have v5 : ¬ ((500 : Int) < (val.size : Int)) := by omega
          have HV : Hid (val.size ≤ 1099511627776) := Lib.hid (by omega)
          clear hv
          by_cases k0 : kd = 0
          · subst k0
            as_aux_lemma =>
              obtain ⟨⟨⟨cd, G⟩, s'⟩, hQ⟩ : ∃ Q, putR C.al C.mo C.ttl (o1, o2, o3, o4) val now σ = Q := ⟨_, rfl⟩
              have hinv' : InvS C.al C.ke s' := by
                have hf := H.out.facts
                have := putR_inv HI.out HC.out.1.2.2.2.2.2 hf.1 hf.2.1 hf.2.2.1 (o1, o2, o3, o4) HSK.out val now (mo := C.mo) (ttl := C.ttl)
                rw [hQ] at this; exact this
              have hgl : G.length ≤ 1099511627776 := by
                have h1 := put_glen C.al C.mo C.ttl (o1, o2, o3, o4) val now σ
                rw [hQ] at h1
                have h2 := H.out.facts.2.2.2.2.2.2.1
                simp only at h1
                omega
              have HQ := Lib.hid hQ
              have HST0 := Lib.hid (H.out.sts HI.out)
              have HI' := Lib.hid hinv'
              have HGL : Hid ((G.map parK).length ≤ 1099511627776) := Lib.hid (by rw [List.length_map]; exact hgl)
              obtain ⟨D0, hD0⟩ : ∃ D, G.map parK = D := ⟨_, rfl⟩
              rw [hD0] at HGL
              have HD0 := Lib.hid hD0
              clear hQ hinv' hgl hD0
              have kk := H.out.blk (List.mem_cons_self ..)
              have y0 : W7.cell? ⟨ob, 0, none⟩ = some (.int .i64 0) := kk.cell 0
              have y1 : W7.cell? ⟨ob, 1, none⟩ = some (.string o1) := kk.cell 1
              have y2 : W7.cell? ⟨ob, 2, none⟩ = some (.string o2) := kk.cell 2
              have y3 : W7.cell? ⟨ob, 3, none⟩ = some (.int .i64 o3) := kk.cell 3
              have y4 : W7.cell? ⟨ob, 4, none⟩ = some (.string o4) := kk.cell 4
              have y5 : W7.cell? ⟨ob, 5, none⟩ = some (.string val) := kk.cell 5
              have y6 : W7.cell? ⟨ob, 6, none⟩ = some (.int .i64 now) := kk.cell 6
              clear kk
              go_wp2_with fail
              try rw [hW7]
              try rw [hob]
              refine (HSH.out _).mono ?_
              rintro e w3 ⟨rfl, hb3⟩
              have H := Lib.hid (H.out.below hb3)
              have HR := Lib.hid (HR.out.below hb3)
              clear hb3 hW7 hob HSH
              clear x0 x1 x2 x3 x4 x5 x6
              clear y0 y1 y2 y3 y4 y5 y6
              have kk := H.out.blk (List.mem_cons_self ..)
              have y0 : w3.cell? ⟨ob, 0, none⟩ = some (.int .i64 0) := kk.cell 0
              have y1 : w3.cell? ⟨ob, 1, none⟩ = some (.string o1) := kk.cell 1
              have y2 : w3.cell? ⟨ob, 2, none⟩ = some (.string o2) := kk.cell 2
              have y3 : w3.cell? ⟨ob, 3, none⟩ = some (.int .i64 o3) := kk.cell 3
              have y4 : w3.cell? ⟨ob, 4, none⟩ = some (.string o4) := kk.cell 4
              have y5 : w3.cell? ⟨ob, 5, none⟩ = some (.string val) := kk.cell 5
              have y6 : w3.cell? ⟨ob, 6, none⟩ = some (.int .i64 now) := kk.cell 6
              clear kk
              go_wp2_with fail
              refine (lc_put H.out.pin HI.out HC.out (o1, o2, o3, o4) HSK.out val HV.out (by have := HI1.out; omega) now _ HQ.out).mono ?_
              unfold PutP
              simp only
              rw [HD0.out]
              rintro e w5 ⟨pa, pc, rfl, h5⟩
              have HR := Lib.hid (LC.unpin h5 (List.mem_cons_of_mem _ (List.mem_cons_self ..)) HR.out)
              have H := Lib.hid (h5.forget (O' := [Kk w.heap.size (.slice pa D0.length pc) D0, .blk ob 34 #[.int .i64 0, .string o1, .string o2, .int .i64 o3, .string o4, .string val, .int .i64 now]]) fun p hp => (List.mem_cons.1 hp).elim (fun e => e ▸ List.mem_cons_self ..) fun hp => List.mem_cons_of_mem _ (List.mem_cons_of_mem _ hp))
              clear h5
              clear y0 y1 y2 y3 y4 y5 y6
              have kk := H.out.blk (List.mem_cons_of_mem _ (List.mem_cons_self ..))
              have y0 : w5.cell? ⟨ob, 0, none⟩ = some (.int .i64 0) := kk.cell 0
              have y1 : w5.cell? ⟨ob, 1, none⟩ = some (.string o1) := kk.cell 1
              have y2 : w5.cell? ⟨ob, 2, none⟩ = some (.string o2) := kk.cell 2
              have y3 : w5.cell? ⟨ob, 3, none⟩ = some (.int .i64 o3) := kk.cell 3
              have y4 : w5.cell? ⟨ob, 4, none⟩ = some (.string o4) := kk.cell 4
              have y5 : w5.cell? ⟨ob, 5, none⟩ = some (.string val) := kk.cell 5
              have y6 : w5.cell? ⟨ob, 6, none⟩ = some (.int .i64 now) := kk.cell 6
              clear kk
              go_wp2_with fail
              refine wp_region_held_drew (S := (fun w' => OC0 w' ob (0, (o1, o2, o3, o4), val, now))) (by kernel_rfl) ?_ (fun hS => ?_)
              · have H := Lib.hid (H.out.below (show Below w5.heap.size w5 w5.drew from (Below.refl _ _).drew)); exact CA.OC0.of (o := (0, (o1, o2, o3, o4), val, now)) (H.out.blk (List.mem_cons_of_mem _ (List.mem_cons_self ..)))
              refine tkY 0 ?_ rfl hS ?_ ?_
              rotate_left
              · intro wz hz
                obtain ⟨z0, z1, z2, z3, z4, z5, z6⟩ := hz
                go_simp
                all_goals first | with_reducible rfl | omega
              try simp only [Act.put, pu]
              refine tkY 1 ?_ rfl hS ?_ ?_
              rotate_left
              · intro wz hz
                obtain ⟨z0, z1, z2, z3, z4, z5, z6⟩ := hz
                go_simp
                all_goals first | with_reducible rfl | omega
              try simp only [Act.put, pu]
              refine tkY 2 ?_ rfl hS ?_ ?_
              rotate_left
              · intro wz hz
                obtain ⟨z0, z1, z2, z3, z4, z5, z6⟩ := hz
                go_simp
                all_goals first | with_reducible rfl | omega
              try simp only [Act.put, pu]
              refine tkY 4 ?_ rfl hS ?_ ?_
              rotate_left
              · intro wz hz
                obtain ⟨z0, z1, z2, z3, z4, z5, z6⟩ := hz
                go_simp
                all_goals first | with_reducible rfl | omega
              try simp only [Act.put, pu]
              refine tkY 5 ?_ rfl hS ?_ ?_
              rotate_left
              · intro wz hz
                obtain ⟨z0, z1, z2, z3, z4, z5, z6⟩ := hz
                go_simp
                all_goals first | with_reducible rfl | omega
              try simp only [Act.put, pu]
              refine tkY 6 ?_ rfl hS ?_ ?_
              rotate_left
              · intro wz hz
                obtain ⟨z0, z1, z2, z3, z4, z5, z6⟩ := hz
                go_simp
                all_goals first | with_reducible rfl | omega
              try simp only [Act.put, pu]
              refine tkY 7 ?_ rfl hS ?_ ?_
              rotate_left
              · intro wz hz
                obtain ⟨z0, z1, z2, z3, z4, z5, z6⟩ := hz
                go_simp
                all_goals first | with_reducible rfl | omega
              try simp only [Act.put, pu]
              refine wpAnyH_ready (rs := [3]) (by kernel_rfl) (by simp) (AllReadyH.cons rfl (fun K' hK' => ?_) AllReadyH.nil)
              go_simp
              have hbd : Below w5.heap.size w5 w5.drew := (Below.refl _ _).drew
              refine (lplain_any (o1, o2, o3, o4) w5.drew).mono ?_
              rintro e w6 ⟨rfl, b4⟩
              have b4 := hbd.trans (b4.mono hbd.size)
              have H := Lib.hid (H.out.below b4)
              have HR := Lib.hid (HR.out.below b4)
              clear b4 hbd
              refine hK'.out _ _ ?_ (fun hSn => ?_)
              · exact CA.OC0.of (o := (0, (o1, o2, o3, o4), val, now)) (H.out.blk (List.mem_cons_of_mem _ (List.mem_cons_self ..)))
              clear hK' K' hS
              have hS := hSn
              clear hSn
              try simp only [Act.put, pu]
              refine wpAnyH_ready (rs := [8]) (by kernel_rfl) (by simp) (AllReadyH.cons rfl (fun K' hK' => ?_) AllReadyH.nil)
              go_simp
              refine (rputR_any HR.out (by rw [HE.out.1, HE.out.2.1]; exact HST0.out) (by have := HI1.out; omega) (by rw [HE.out.1, HE.out.2.2.1]; exact ⟨HC.out.1.2.2.2.2.2, HC.out.1.2.1⟩) (by rw [HE.out.2.2.2]; exact HC.out.2) (o1, o2, o3, o4) HFK.out val HV.out now ((cd, G), s') (by rw [HE.out.1, HE.out.2.2.1, HE.out.2.2.2]; exact HQ.out)).mono ?_
              unfold RPutP
              simp only
              rw [HD0.out]
              rintro e w7 ⟨qa, qc, rfl, kr7, h7⟩
              have H := Lib.hid (LC.doc H.out HR.out h7 (fun p hp => (List.mem_cons.1 hp).elim (fun e => .inr ⟨_, _, e⟩) (fun hp => .inl ⟨_, _, List.mem_singleton.1 hp⟩)))
              have HR := Lib.hid h7.1
              have HK7 := Lib.hid kr7
              clear h7 kr7
              refine hK'.out _ _ ?_ (fun hSn => ?_)
              · exact CA.OC0.of (o := (0, (o1, o2, o3, o4), val, now)) (H.out.blk (List.mem_cons_of_mem _ (List.mem_cons_self ..)))
              clear hK' K' hS
              have hS := hSn
              clear hSn
              try simp only [Act.put, pu]
              refine tkY 9 ?_ rfl hS ?_ ?_
              rotate_left
              · intro wz hz
                go_simp
                all_goals first | with_reducible rfl | omega
              try simp only [Act.put, pu]
              refine tkY 10 ?_ rfl hS ?_ ?_
              rotate_left
              · intro wz hz
                go_simp
                all_goals first | with_reducible rfl | omega
              try simp only [Act.put, pu]
              refine tkY 11 ?_ rfl hS ?_ ?_
              rotate_left
              · intro wz hz
                go_simp
                all_goals first | with_reducible rfl | omega
              try simp only [Act.put, pu]
              refine tkY 12 ?_ rfl hS ?_ ?_
              rotate_left
              · intro wz hz
                go_simp
                all_goals first | with_reducible rfl | omega
              try simp only [Act.put, pu]
              refine tkY 13 ?_ rfl hS ?_ ?_
              rotate_left
              · intro wz hz
                go_simp
                all_goals first | with_reducible rfl | omega
              try simp only [Act.put, pu]
              refine wpAnyH_done (by kernel_rfl) ?_ _
              clear hS
              have HK6 := Lib.hid (LC.keysK H.out (List.mem_cons_self ..)).kr
              go_wp2_with fail
              refine (same_any _ _ D0 _ HK6.out HK7.out HGL.out).mono ?_
              rintro e w8 ⟨rfl, hb8⟩
              have H := Lib.hid (H.out.below hb8)
              have HR := Lib.hid (HR.out.below hb8)
              clear hb8 HK6 HK7
              have HST : Hid (Sts C.al C.ke s') := Lib.hid (H.out.sts HI'.out)
              obtain ⟨la, hla⟩ : ∃ l, allS s' = l := ⟨_, rfl⟩
              have hall := HST.out.all
              rw [hla] at hall
              obtain ⟨D, hD⟩ : ∃ D, la.map parK = D := ⟨_, rfl⟩
              have HDL : Hid (D.length ≤ 1099511627776) := Lib.hid (by rw [← hD, List.length_map]; have := hall.2; omega)
              have HKC := Lib.hid (lc_keysS H.out HI'.out la hla)
              have HRK := Lib.hid (fun W M9 (hh : RT w W R M9 s') => rkeysR_any hh HST.out.okl la hla fun t ht => (hall.1 t ht).2)
              rw [hD] at HKC HRK
              have HHR := HR
              clear hla hall hD
              clear y0 y1 y2 y3 y4 y5 y6
              go_wp2_with fail
              refine HKC.out.mono ?_
              rintro e v1 ⟨ka, kc, rfl, ok1, hb1⟩
              have H := Lib.hid (H.out.below hb1)
              have HR := Lib.hid (HR.out.below hb1)
              have HK1 := Lib.hid ok1.kr
              clear ok1 hb1 HKC
              go_wp2_with fail
              refine (HRK.out _ _ HR.out).mono ?_
              rintro e v2 ⟨kb, kd2, rfl, ok2, hb2⟩
              have H := Lib.hid (H.out.below hb2)
              have HR := Lib.hid (HR.out.below hb2)
              have HK1 := Lib.hid (HK1.out.below hb2)
              have HK2 := Lib.hid ok2.kr
              clear ok2 hb2 HRK
              go_wp2_with fail
              refine (same_any _ _ D _ HK1.out HK2.out HDL.out).mono ?_
              rintro e v3 ⟨rfl, hb3⟩
              have H := Lib.hid (H.out.below hb3)
              have HR := Lib.hid (HR.out.below hb3)
              clear hb3 HK1 HK2
              obtain ⟨z, hz⟩ : ∃ z, sumE (s').T + sumE (s').K = z := ⟨_, rfl⟩
              have HZ := Lib.hid hz
              clear hz
              go_wp2_with fail
              refine (lc_bytes H.out z HZ.out).mono ?_
              rintro e v4 ⟨rfl, hb4⟩
              have H := Lib.hid (H.out.below hb4)
              have HR := Lib.hid (HR.out.below hb4)
              clear hb4
              go_wp2_with fail
              refine (rbytes_any HR.out HST.out.pT HST.out.pK HST.out.su z HZ.out).mono ?_
              rintro e v5 ⟨rfl, hb5⟩
              have H := Lib.hid (H.out.below hb5)
              have HR := Lib.hid (HR.out.below hb5)
              clear hb5
              go_wp2
              go_roundg g
              case measure => exact Nat.lt_succ_self _
              case rel => exact ⟨i1, (n + 3), C, s', rfl, rfl, HI1.out.1, by have := HI1.out; omega, HC.out, HE.out, HI'.out, H.out.nil, HR.out.mono (by have := HI1.out; omega)⟩
          · have k0' : (kd == 0) = false := by simpa using k0
            by_cases k1 : kd = 1
            · subst k1
              clear k0 k0'
              as_aux_lemma =>
                obtain ⟨⟨go, s'⟩, hQ⟩ : ∃ Q, getR C.ke (o1, o2, o3, o4) now σ = Q := ⟨_, rfl⟩
                have hf := H.out.facts
                have hinv' := getR_inv HI.out HC.out.1.2.2.1 hf.2.1 hf.2.2.1 (o1, o2, o3, o4) now
                rw [hQ] at hinv'
                obtain ⟨gv, gb, hgv⟩ : ∃ gv gb, getV go = .tuple #[.string gv, .bool gb] := ⟨_, _, rfl⟩
                have HQ := Lib.hid hQ
                have HST0 := Lib.hid (H.out.sts HI.out)
                have HI' := Lib.hid hinv'
                have HGV := Lib.hid hgv
                clear hQ hinv' hgv hf
                have kk := H.out.blk (List.mem_cons_self ..)
                have y0 : W7.cell? ⟨ob, 0, none⟩ = some (.int .i64 1) := kk.cell 0
                have y1 : W7.cell? ⟨ob, 1, none⟩ = some (.string o1) := kk.cell 1
                have y2 : W7.cell? ⟨ob, 2, none⟩ = some (.string o2) := kk.cell 2
                have y3 : W7.cell? ⟨ob, 3, none⟩ = some (.int .i64 o3) := kk.cell 3
                have y4 : W7.cell? ⟨ob, 4, none⟩ = some (.string o4) := kk.cell 4
                have y5 : W7.cell? ⟨ob, 5, none⟩ = some (.string val) := kk.cell 5
                have y6 : W7.cell? ⟨ob, 6, none⟩ = some (.int .i64 now) := kk.cell 6
                clear kk
                go_wp2_with fail
                try rw [hW7]
                try rw [hob]
                refine (HSH.out _).mono ?_
                rintro e w3 ⟨rfl, hb3⟩
                have H := Lib.hid (H.out.below hb3)
                have HR := Lib.hid (HR.out.below hb3)
                clear hb3 hW7 hob HSH
                clear x0 x1 x2 x3 x4 x5 x6
                clear y0 y1 y2 y3 y4 y5 y6
                have kk := H.out.blk (List.mem_cons_self ..)
                have y0 : w3.cell? ⟨ob, 0, none⟩ = some (.int .i64 1) := kk.cell 0
                have y1 : w3.cell? ⟨ob, 1, none⟩ = some (.string o1) := kk.cell 1
                have y2 : w3.cell? ⟨ob, 2, none⟩ = some (.string o2) := kk.cell 2
                have y3 : w3.cell? ⟨ob, 3, none⟩ = some (.int .i64 o3) := kk.cell 3
                have y4 : w3.cell? ⟨ob, 4, none⟩ = some (.string o4) := kk.cell 4
                have y5 : w3.cell? ⟨ob, 5, none⟩ = some (.string val) := kk.cell 5
                have y6 : w3.cell? ⟨ob, 6, none⟩ = some (.int .i64 now) := kk.cell 6
                clear kk
                go_wp2_with fail
                refine (lc_get H.out.pin HI.out HC.out.1.2.2.1 (o1, o2, o3, o4) HFK.out (by have := HI1.out; omega) now _ HQ.out).mono ?_
                unfold RetC
                simp only
                rw [HGV.out]
                rintro e w5 ⟨rfl, h5⟩
                have HR := Lib.hid (LC.unpin h5 (List.mem_cons_self ..) HR.out)
                have H := Lib.hid (h5.forget (O' := [.blk ob 34 #[.int .i64 1, .string o1, .string o2, .int .i64 o3, .string o4, .string val, .int .i64 now]]) fun p hp => List.mem_cons_of_mem _ hp)
                clear h5
                clear y0 y1 y2 y3 y4 y5 y6
                have kk := H.out.blk (List.mem_cons_self ..)
                have y0 : w5.cell? ⟨ob, 0, none⟩ = some (.int .i64 1) := kk.cell 0
                have y1 : w5.cell? ⟨ob, 1, none⟩ = some (.string o1) := kk.cell 1
                have y2 : w5.cell? ⟨ob, 2, none⟩ = some (.string o2) := kk.cell 2
                have y3 : w5.cell? ⟨ob, 3, none⟩ = some (.int .i64 o3) := kk.cell 3
                have y4 : w5.cell? ⟨ob, 4, none⟩ = some (.string o4) := kk.cell 4
                have y5 : w5.cell? ⟨ob, 5, none⟩ = some (.string val) := kk.cell 5
                have y6 : w5.cell? ⟨ob, 6, none⟩ = some (.int .i64 now) := kk.cell 6
                clear kk
                go_wp2_with fail
                refine wp_region_held_drew (S := (fun w' => OC0 w' ob (1, (o1, o2, o3, o4), val, now))) (by kernel_rfl) ?_ (fun hS => ?_)
                · have H := Lib.hid (H.out.below (show Below w5.heap.size w5 w5.drew from (Below.refl _ _).drew)); exact CA.OC0.of (o := (1, (o1, o2, o3, o4), val, now)) (H.out.blk (List.mem_cons_self ..))
                refine tkY 0 ?_ rfl hS ?_ ?_
                rotate_left
                · intro wz hz
                  obtain ⟨z0, z1, z2, z3, z4, z5, z6⟩ := hz
                  go_simp
                  all_goals first | with_reducible rfl | omega
                try simp only [Act.put, pu]
                refine tkY 1 ?_ rfl hS ?_ ?_
                rotate_left
                · intro wz hz
                  obtain ⟨z0, z1, z2, z3, z4, z5, z6⟩ := hz
                  go_simp
                  all_goals first | with_reducible rfl | omega
                try simp only [Act.put, pu]
                refine tkY 2 ?_ rfl hS ?_ ?_
                rotate_left
                · intro wz hz
                  obtain ⟨z0, z1, z2, z3, z4, z5, z6⟩ := hz
                  go_simp
                  all_goals first | with_reducible rfl | omega
                try simp only [Act.put, pu]
                refine tkY 4 ?_ rfl hS ?_ ?_
                rotate_left
                · intro wz hz
                  obtain ⟨z0, z1, z2, z3, z4, z5, z6⟩ := hz
                  go_simp
                  all_goals first | with_reducible rfl | omega
                try simp only [Act.put, pu]
                refine tkY 5 ?_ rfl hS ?_ ?_
                rotate_left
                · intro wz hz
                  obtain ⟨z0, z1, z2, z3, z4, z5, z6⟩ := hz
                  go_simp
                  all_goals first | with_reducible rfl | omega
                try simp only [Act.put, pu]
                refine wpAnyH_ready (rs := [3]) (by kernel_rfl) (by simp) (AllReadyH.cons rfl (fun K' hK' => ?_) AllReadyH.nil)
                go_simp
                have hbd : Below w5.heap.size w5 w5.drew := (Below.refl _ _).drew
                refine (lplain_any (o1, o2, o3, o4) w5.drew).mono ?_
                rintro e w6 ⟨rfl, b4⟩
                have b4 := hbd.trans (b4.mono hbd.size)
                have H := Lib.hid (H.out.below b4)
                have HR := Lib.hid (HR.out.below b4)
                clear b4 hbd
                refine hK'.out _ _ ?_ (fun hSn => ?_)
                · exact CA.OC0.of (o := (1, (o1, o2, o3, o4), val, now)) (H.out.blk (List.mem_cons_self ..))
                clear hK' K' hS
                have hS := hSn
                clear hSn
                try simp only [Act.put, pu]
                refine wpAnyH_ready (rs := [6]) (by kernel_rfl) (by simp) (AllReadyH.cons rfl (fun K' hK' => ?_) AllReadyH.nil)
                go_simp
                refine (rgetR_any HR.out C.al (by rw [HE.out.2.1]; exact HST0.out) (by rw [HE.out.2.1]; exact HC.out.1.2.2.1) (by have := HI1.out; omega) (o1, o2, o3, o4) HFK.out now (go, s') (by rw [HE.out.2.1]; exact HQ.out)).mono ?_
                unfold RetR
                simp only
                rw [HGV.out]
                rintro e w7 ⟨rfl, h7⟩
                have H := Lib.hid (LC.doc H.out HR.out h7 (fun p hp => .inl ⟨_, _, List.mem_singleton.1 hp⟩))
                have HR := Lib.hid h7.1
                clear h7
                refine hK'.out _ _ ?_ (fun hSn => ?_)
                · exact CA.OC0.of (o := (1, (o1, o2, o3, o4), val, now)) (H.out.blk (List.mem_cons_self ..))
                clear hK' K' hS
                have hS := hSn
                clear hSn
                try simp only [Act.put, pu]
                refine tkY 7 ?_ rfl hS ?_ ?_
                rotate_left
                · intro wz hz
                  go_simp
                  all_goals first | with_reducible rfl | omega
                try simp only [Act.put, pu]
                refine tkY 8 ?_ rfl hS ?_ ?_
                rotate_left
                · intro wz hz
                  go_simp
                  all_goals first | with_reducible rfl | omega
                try simp only [Act.put, pu]
                refine tkY 9 ?_ rfl hS ?_ ?_
                rotate_left
                · intro wz hz
                  go_simp
                  all_goals first | with_reducible rfl | omega
                try simp only [Act.put, pu]
                refine tkY 10 ?_ rfl hS ?_ ?_
                rotate_left
                · intro wz hz
                  go_simp
                  all_goals first | with_reducible rfl | omega
                try simp only [Act.put, pu]
                refine tkY 11 ?_ rfl hS ?_ ?_
                rotate_left
                · intro wz hz
                  go_simp
                  all_goals first | with_reducible rfl | omega
                try simp only [Act.put, pu]
                refine wpAnyH_done (by kernel_rfl) ?_ _
                clear hS
                have HST : Hid (Sts C.al C.ke s') := Lib.hid (H.out.sts HI'.out)
                obtain ⟨la, hla⟩ : ∃ l, allS s' = l := ⟨_, rfl⟩
                have hall := HST.out.all
                rw [hla] at hall
                obtain ⟨D, hD⟩ : ∃ D, la.map parK = D := ⟨_, rfl⟩
                have HDL : Hid (D.length ≤ 1099511627776) := Lib.hid (by rw [← hD, List.length_map]; have := hall.2; omega)
                have HKC := Lib.hid (lc_keysS H.out HI'.out la hla)
                have HRK := Lib.hid (fun W M9 (hh : RT w W R M9 s') => rkeysR_any hh HST.out.okl la hla fun t ht => (hall.1 t ht).2)
                rw [hD] at HKC HRK
                have HHR := HR
                clear hla hall hD
                clear y0 y1 y2 y3 y4 y5 y6
                go_wp2_with fail
                refine HKC.out.mono ?_
                rintro e v1 ⟨ka, kc, rfl, ok1, hb1⟩
                have H := Lib.hid (H.out.below hb1)
                have HR := Lib.hid (HR.out.below hb1)
                have HK1 := Lib.hid ok1.kr
                clear ok1 hb1 HKC
                go_wp2_with fail
                refine (HRK.out _ _ HR.out).mono ?_
                rintro e v2 ⟨kb, kd2, rfl, ok2, hb2⟩
                have H := Lib.hid (H.out.below hb2)
                have HR := Lib.hid (HR.out.below hb2)
                have HK1 := Lib.hid (HK1.out.below hb2)
                have HK2 := Lib.hid ok2.kr
                clear ok2 hb2 HRK
                go_wp2_with fail
                refine (same_any _ _ D _ HK1.out HK2.out HDL.out).mono ?_
                rintro e v3 ⟨rfl, hb3⟩
                have H := Lib.hid (H.out.below hb3)
                have HR := Lib.hid (HR.out.below hb3)
                clear hb3 HK1 HK2
                obtain ⟨z, hz⟩ : ∃ z, sumE (s').T + sumE (s').K = z := ⟨_, rfl⟩
                have HZ := Lib.hid hz
                clear hz
                go_wp2_with fail
                refine (lc_bytes H.out z HZ.out).mono ?_
                rintro e v4 ⟨rfl, hb4⟩
                have H := Lib.hid (H.out.below hb4)
                have HR := Lib.hid (HR.out.below hb4)
                clear hb4
                go_wp2_with fail
                refine (rbytes_any HR.out HST.out.pT HST.out.pK HST.out.su z HZ.out).mono ?_
                rintro e v5 ⟨rfl, hb5⟩
                have H := Lib.hid (H.out.below hb5)
                have HR := Lib.hid (HR.out.below hb5)
                clear hb5
                go_wp2
                go_roundg g
                case measure => exact Nat.lt_succ_self _
                case rel => exact ⟨i1, n, C, s', rfl, rfl, HI1.out.1, by have := HI1.out; omega, HC.out, HE.out, HI'.out, H.out.nil, HR.out.mono (by have := HI1.out; omega)⟩
            · have k1' : (kd == 1) = false := by simpa using k1
              by_cases k2 : kd = 2
              · subst k2
                clear k0 k0' k1 k1'
                as_aux_lemma =>
                  obtain ⟨⟨db, s'⟩, hQ⟩ : ∃ Q, dropR (o1, o2, o3, o4) σ = Q := ⟨_, rfl⟩
                  have hf := H.out.facts
                  have hinv' := dropR_inv HI.out hf.2.1 hf.2.2.1 (o1, o2, o3, o4)
                  rw [hQ] at hinv'
                  have HQ := Lib.hid hQ
                  have HI' := Lib.hid hinv'
                  clear hQ hinv' hf
                  have kk := H.out.blk (List.mem_cons_self ..)
                  have y0 : W7.cell? ⟨ob, 0, none⟩ = some (.int .i64 2) := kk.cell 0
                  have y1 : W7.cell? ⟨ob, 1, none⟩ = some (.string o1) := kk.cell 1
                  have y2 : W7.cell? ⟨ob, 2, none⟩ = some (.string o2) := kk.cell 2
                  have y3 : W7.cell? ⟨ob, 3, none⟩ = some (.int .i64 o3) := kk.cell 3
                  have y4 : W7.cell? ⟨ob, 4, none⟩ = some (.string o4) := kk.cell 4
                  have y5 : W7.cell? ⟨ob, 5, none⟩ = some (.string val) := kk.cell 5
                  have y6 : W7.cell? ⟨ob, 6, none⟩ = some (.int .i64 now) := kk.cell 6
                  clear kk
                  go_wp2_with fail
                  try rw [hW7]
                  try rw [hob]
                  refine (HSH.out _).mono ?_
                  rintro e w3 ⟨rfl, hb3⟩
                  have H := Lib.hid (H.out.below hb3)
                  have HR := Lib.hid (HR.out.below hb3)
                  clear hb3 hW7 hob HSH
                  clear x0 x1 x2 x3 x4 x5 x6
                  clear y0 y1 y2 y3 y4 y5 y6
                  have kk := H.out.blk (List.mem_cons_self ..)
                  have y0 : w3.cell? ⟨ob, 0, none⟩ = some (.int .i64 2) := kk.cell 0
                  have y1 : w3.cell? ⟨ob, 1, none⟩ = some (.string o1) := kk.cell 1
                  have y2 : w3.cell? ⟨ob, 2, none⟩ = some (.string o2) := kk.cell 2
                  have y3 : w3.cell? ⟨ob, 3, none⟩ = some (.int .i64 o3) := kk.cell 3
                  have y4 : w3.cell? ⟨ob, 4, none⟩ = some (.string o4) := kk.cell 4
                  have y5 : w3.cell? ⟨ob, 5, none⟩ = some (.string val) := kk.cell 5
                  have y6 : w3.cell? ⟨ob, 6, none⟩ = some (.int .i64 now) := kk.cell 6
                  clear kk
                  go_wp2_with fail
                  refine wp_region_held_drew (S := (fun w' => OC0 w' ob (2, (o1, o2, o3, o4), val, now))) (by kernel_rfl) ?_ (fun hS => ?_)
                  · have H := Lib.hid (H.out.below (show Below w3.heap.size w3 w3.drew from (Below.refl _ _).drew)); exact CA.OC0.of (o := (2, (o1, o2, o3, o4), val, now)) (H.out.blk (List.mem_cons_self ..))
                  refine tkY 0 ?_ rfl hS ?_ ?_
                  rotate_left
                  · intro wz hz
                    obtain ⟨z0, z1, z2, z3, z4, z5, z6⟩ := hz
                    go_simp
                    all_goals first | with_reducible rfl | omega
                  try simp only [Act.put, pu]
                  refine tkY 1 ?_ rfl hS ?_ ?_
                  rotate_left
                  · intro wz hz
                    obtain ⟨z0, z1, z2, z3, z4, z5, z6⟩ := hz
                    go_simp
                    all_goals first | with_reducible rfl | omega
                  try simp only [Act.put, pu]
                  refine tkY 2 ?_ rfl hS ?_ ?_
                  rotate_left
                  · intro wz hz
                    obtain ⟨z0, z1, z2, z3, z4, z5, z6⟩ := hz
                    go_simp
                    all_goals first | with_reducible rfl | omega
                  try simp only [Act.put, pu]
                  refine tkY 4 ?_ rfl hS ?_ ?_
                  rotate_left
                  · intro wz hz
                    obtain ⟨z0, z1, z2, z3, z4, z5, z6⟩ := hz
                    go_simp
                    all_goals first | with_reducible rfl | omega
                  try simp only [Act.put, pu]
                  refine tkY 5 ?_ rfl hS ?_ ?_
                  rotate_left
                  · intro wz hz
                    obtain ⟨z0, z1, z2, z3, z4, z5, z6⟩ := hz
                    go_simp
                    all_goals first | with_reducible rfl | omega
                  try simp only [Act.put, pu]
                  refine tkY 6 ?_ rfl hS ?_ ?_
                  rotate_left
                  · intro wz hz
                    obtain ⟨z0, z1, z2, z3, z4, z5, z6⟩ := hz
                    go_simp
                    all_goals first | with_reducible rfl | omega
                  try simp only [Act.put, pu]
                  refine wpAnyH_ready (rs := [3]) (by kernel_rfl) (by simp) (AllReadyH.cons rfl (fun K' hK' => ?_) AllReadyH.nil)
                  go_simp
                  have hbd : Below w3.heap.size w3 w3.drew := (Below.refl _ _).drew
                  refine (lc_dropR (H.out.below hbd).pin (o1, o2, o3, o4) HFK.out (by have := HI1.out; omega) _ HQ.out).mono ?_
                  unfold RetC
                  simp only
                  rintro e w5 ⟨rfl, h5⟩
                  have HST0 := Lib.hid (H.out.sts HI.out)
                  have HR := Lib.hid (LC.unpin h5 (List.mem_cons_self ..) (HR.out.below hbd))
                  have H := Lib.hid (h5.forget (O' := [.blk ob 34 #[.int .i64 2, .string o1, .string o2, .int .i64 o3, .string o4, .string val, .int .i64 now]]) fun p hp => List.mem_cons_of_mem _ hp)
                  clear h5 hbd
                  refine hK'.out _ _ ?_ (fun hSn => ?_)
                  · exact CA.OC0.of (o := (2, (o1, o2, o3, o4), val, now)) (H.out.blk (List.mem_cons_self ..))
                  clear hK' K' hS
                  have hS := hSn
                  clear hSn
                  try simp only [Act.put, pu]
                  refine wpAnyH_ready (rs := [7]) (by kernel_rfl) (by simp) (AllReadyH.cons rfl (fun K' hK' => ?_) AllReadyH.nil)
                  go_simp
                  refine (lplain_any (o1, o2, o3, o4) w5).mono ?_
                  rintro e w6 ⟨rfl, b4⟩
                  have H := Lib.hid (H.out.below b4)
                  have HR := Lib.hid (HR.out.below b4)
                  clear b4
                  refine hK'.out _ _ ?_ (fun hSn => ?_)
                  · exact CA.OC0.of (o := (2, (o1, o2, o3, o4), val, now)) (H.out.blk (List.mem_cons_self ..))
                  clear hK' K' hS
                  have hS := hSn
                  clear hSn
                  try simp only [Act.put, pu]
                  refine wpAnyH_ready (rs := [8]) (by kernel_rfl) (by simp) (AllReadyH.cons rfl (fun K' hK' => ?_) AllReadyH.nil)
                  go_simp
                  refine (rdropS_any HR.out HST0.out.okl (by have := HI1.out; omega) (o1, o2, o3, o4) HFK.out HST0.out.has (db, s') HQ.out (fun hv => HST0.out.drop_no _ hv)).mono ?_
                  unfold RetR
                  simp only
                  rintro e w7 ⟨rfl, h7⟩
                  have H := Lib.hid (LC.doc H.out HR.out h7 (fun p hp => .inl ⟨_, _, List.mem_singleton.1 hp⟩))
                  have HR := Lib.hid h7.1
                  clear h7
                  refine hK'.out _ _ ?_ (fun hSn => ?_)
                  · exact CA.OC0.of (o := (2, (o1, o2, o3, o4), val, now)) (H.out.blk (List.mem_cons_self ..))
                  clear hK' K' hS
                  have hS := hSn
                  clear hSn
                  try simp only [Act.put, pu]
                  refine tkY 9 ?_ rfl hS ?_ ?_
                  rotate_left
                  · intro wz hz
                    go_simp
                    all_goals first | with_reducible rfl | omega
                  try simp only [Act.put, pu]
                  refine wpAnyH_done (by kernel_rfl) ?_ _
                  clear hS
                  have HST : Hid (Sts C.al C.ke s') := Lib.hid (H.out.sts HI'.out)
                  obtain ⟨la, hla⟩ : ∃ l, allS s' = l := ⟨_, rfl⟩
                  have hall := HST.out.all
                  rw [hla] at hall
                  obtain ⟨D, hD⟩ : ∃ D, la.map parK = D := ⟨_, rfl⟩
                  have HDL : Hid (D.length ≤ 1099511627776) := Lib.hid (by rw [← hD, List.length_map]; have := hall.2; omega)
                  have HKC := Lib.hid (lc_keysS H.out HI'.out la hla)
                  have HRK := Lib.hid (fun W M9 (hh : RT w W R M9 s') => rkeysR_any hh HST.out.okl la hla fun t ht => (hall.1 t ht).2)
                  rw [hD] at HKC HRK
                  have HHR := HR
                  clear hla hall hD
                  clear y0 y1 y2 y3 y4 y5 y6
                  go_wp2_with fail
                  refine HKC.out.mono ?_
                  rintro e v1 ⟨ka, kc, rfl, ok1, hb1⟩
                  have H := Lib.hid (H.out.below hb1)
                  have HR := Lib.hid (HR.out.below hb1)
                  have HK1 := Lib.hid ok1.kr
                  clear ok1 hb1 HKC
                  go_wp2_with fail
                  refine (HRK.out _ _ HR.out).mono ?_
                  rintro e v2 ⟨kb, kd2, rfl, ok2, hb2⟩
                  have H := Lib.hid (H.out.below hb2)
                  have HR := Lib.hid (HR.out.below hb2)
                  have HK1 := Lib.hid (HK1.out.below hb2)
                  have HK2 := Lib.hid ok2.kr
                  clear ok2 hb2 HRK
                  go_wp2_with fail
                  refine (same_any _ _ D _ HK1.out HK2.out HDL.out).mono ?_
                  rintro e v3 ⟨rfl, hb3⟩
                  have H := Lib.hid (H.out.below hb3)
                  have HR := Lib.hid (HR.out.below hb3)
                  clear hb3 HK1 HK2
                  obtain ⟨z, hz⟩ : ∃ z, sumE (s').T + sumE (s').K = z := ⟨_, rfl⟩
                  have HZ := Lib.hid hz
                  clear hz
                  go_wp2_with fail
                  refine (lc_bytes H.out z HZ.out).mono ?_
                  rintro e v4 ⟨rfl, hb4⟩
                  have H := Lib.hid (H.out.below hb4)
                  have HR := Lib.hid (HR.out.below hb4)
                  clear hb4
                  go_wp2_with fail
                  refine (rbytes_any HR.out HST.out.pT HST.out.pK HST.out.su z HZ.out).mono ?_
                  rintro e v5 ⟨rfl, hb5⟩
                  have H := Lib.hid (H.out.below hb5)
                  have HR := Lib.hid (HR.out.below hb5)
                  clear hb5
                  go_wp2
                  go_roundg g
                  case measure => exact Nat.lt_succ_self _
                  case rel => exact ⟨i1, n, C, s', rfl, rfl, HI1.out.1, by have := HI1.out; omega, HC.out, HE.out, HI'.out, H.out.nil, HR.out.mono (by have := HI1.out; omega)⟩
              · have k2' : (kd == 2) = false := by simpa using k2
                by_cases k3 : kd = 3
                · subst k3
                  clear k0 k0' k1 k1' k2 k2'
                  as_aux_lemma =>
                    obtain ⟨s', hQ⟩ : ∃ Q, tickS now σ = Q := ⟨_, rfl⟩
                    have hf := H.out.facts
                    have hinv' := tick_inv HI.out hf.2.2.2.1 hf.2.1 hf.2.2.1 now
                    rw [hQ] at hinv'
                    obtain ⟨dl, hdl⟩ : ∃ d, keysI (leI now σ.I) = d := ⟨_, rfl⟩
                    have HDS : Hid (∀ t ∈ dl, t.size ≤ 4000) := Lib.hid (by rw [← hdl]; exact (H.out.sts HI.out).due now)
                    have hgl : dl.length ≤ n := by
                      have h1 : (leI now σ.I).length ≤ σ.I.length := List.length_filter_le _ _
                      have h2 := hf.2.2.2.2.2.1
                      rw [← hdl]; unfold keysI; rw [List.length_map]; omega
                    have HQ := Lib.hid hQ
                    have HDD := Lib.hid hdl
                    have HI' := Lib.hid hinv'
                    have HGL : Hid ((dl.map parK).length ≤ 1099511627776) := Lib.hid (by rw [List.length_map]; have := HI1.out; omega)
                    obtain ⟨D0, hD0⟩ : ∃ D, dl.map parK = D := ⟨_, rfl⟩
                    rw [hD0] at HGL
                    have HD0 := Lib.hid hD0
                    clear hQ hinv' hgl hD0 hf hdl
                    have kk := H.out.blk (List.mem_cons_self ..)
                    have y0 : W7.cell? ⟨ob, 0, none⟩ = some (.int .i64 3) := kk.cell 0
                    have y1 : W7.cell? ⟨ob, 1, none⟩ = some (.string o1) := kk.cell 1
                    have y2 : W7.cell? ⟨ob, 2, none⟩ = some (.string o2) := kk.cell 2
                    have y3 : W7.cell? ⟨ob, 3, none⟩ = some (.int .i64 o3) := kk.cell 3
                    have y4 : W7.cell? ⟨ob, 4, none⟩ = some (.string o4) := kk.cell 4
                    have y5 : W7.cell? ⟨ob, 5, none⟩ = some (.string val) := kk.cell 5
                    have y6 : W7.cell? ⟨ob, 6, none⟩ = some (.int .i64 now) := kk.cell 6
                    clear kk
                    go_wp2_with fail
                    try rw [hW7]
                    try rw [hob]
                    refine (HSH.out _).mono ?_
                    rintro e w3 ⟨rfl, hb3⟩
                    have H := Lib.hid (H.out.below hb3)
                    have HR := Lib.hid (HR.out.below hb3)
                    clear hb3 hW7 hob HSH
                    clear x0 x1 x2 x3 x4 x5 x6
                    clear y0 y1 y2 y3 y4 y5 y6
                    have kk := H.out.blk (List.mem_cons_self ..)
                    have y0 : w3.cell? ⟨ob, 0, none⟩ = some (.int .i64 3) := kk.cell 0
                    have y1 : w3.cell? ⟨ob, 1, none⟩ = some (.string o1) := kk.cell 1
                    have y2 : w3.cell? ⟨ob, 2, none⟩ = some (.string o2) := kk.cell 2
                    have y3 : w3.cell? ⟨ob, 3, none⟩ = some (.int .i64 o3) := kk.cell 3
                    have y4 : w3.cell? ⟨ob, 4, none⟩ = some (.string o4) := kk.cell 4
                    have y5 : w3.cell? ⟨ob, 5, none⟩ = some (.string val) := kk.cell 5
                    have y6 : w3.cell? ⟨ob, 6, none⟩ = some (.int .i64 now) := kk.cell 6
                    clear kk
                    go_wp2_with fail
                    refine wp_region_held_drew (S := (fun w' => OC0 w' ob (3, (o1, o2, o3, o4), val, now))) (by kernel_rfl) ?_ (fun hS => ?_)
                    · have H := Lib.hid (H.out.below (show Below w3.heap.size w3 w3.drew from (Below.refl _ _).drew)); exact CA.OC0.of (o := (3, (o1, o2, o3, o4), val, now)) (H.out.blk (List.mem_cons_self ..))
                    refine tkY 0 ?_ rfl hS ?_ ?_
                    rotate_left
                    · intro wz hz
                      obtain ⟨z0, z1, z2, z3, z4, z5, z6⟩ := hz
                      go_simp
                      all_goals first | with_reducible rfl | omega
                    try simp only [Act.put, pu]
                    refine tkY 1 ?_ rfl hS ?_ ?_
                    rotate_left
                    · intro wz hz
                      obtain ⟨z0, z1, z2, z3, z4, z5, z6⟩ := hz
                      go_simp
                      all_goals first | with_reducible rfl | omega
                    try simp only [Act.put, pu]
                    refine tkY 2 ?_ rfl hS ?_ ?_
                    rotate_left
                    · intro wz hz
                      obtain ⟨z0, z1, z2, z3, z4, z5, z6⟩ := hz
                      go_simp
                      all_goals first | with_reducible rfl | omega
                    try simp only [Act.put, pu]
                    refine tkY 4 ?_ rfl hS ?_ ?_
                    rotate_left
                    · intro wz hz
                      obtain ⟨z0, z1, z2, z3, z4, z5, z6⟩ := hz
                      go_simp
                      all_goals first | with_reducible rfl | omega
                    try simp only [Act.put, pu]
                    refine tkY 5 ?_ rfl hS ?_ ?_
                    rotate_left
                    · intro wz hz
                      obtain ⟨z0, z1, z2, z3, z4, z5, z6⟩ := hz
                      go_simp
                      all_goals first | with_reducible rfl | omega
                    try simp only [Act.put, pu]
                    refine tkY 6 ?_ rfl hS ?_ ?_
                    rotate_left
                    · intro wz hz
                      obtain ⟨z0, z1, z2, z3, z4, z5, z6⟩ := hz
                      go_simp
                      all_goals first | with_reducible rfl | omega
                    try simp only [Act.put, pu]
                    refine wpAnyH_ready (rs := [3]) (by kernel_rfl) (by simp) (AllReadyH.cons rfl (fun K' hK' => ?_) AllReadyH.nil)
                    go_simp
                    have hbd : Below w3.heap.size w3 w3.drew := (Below.refl _ _).drew
                    refine (lc_tickS (H.out.below hbd).pin HI.out (by have := HI1.out; omega) now dl HDD.out _ HQ.out).mono ?_
                    unfold ForP
                    rw [HD0.out]
                    rintro e w5 ⟨pa, pc, rfl, h5⟩
                    have HST0 := Lib.hid (H.out.sts HI.out)
                    have HR := Lib.hid (LC.unpin h5 (List.mem_cons_of_mem _ (List.mem_cons_self ..)) (HR.out.below hbd))
                    have H := Lib.hid (h5.forget (O' := [Kk w.heap.size (.slice pa D0.length pc) D0, .blk ob 34 #[.int .i64 3, .string o1, .string o2, .int .i64 o3, .string o4, .string val, .int .i64 now]]) fun p hp => (List.mem_cons.1 hp).elim (fun e => e ▸ List.mem_cons_self ..) fun hp => List.mem_cons_of_mem _ (List.mem_cons_of_mem _ hp))
                    clear h5 hbd
                    refine hK'.out _ _ ?_ (fun hSn => ?_)
                    · exact CA.OC0.of (o := (3, (o1, o2, o3, o4), val, now)) (H.out.blk (List.mem_cons_of_mem _ (List.mem_cons_self ..)))
                    clear hK' K' hS
                    have hS := hSn
                    clear hSn
                    try simp only [Act.put, pu]
                    refine wpAnyH_ready (rs := [7]) (by kernel_rfl) (by simp) (AllReadyH.cons rfl (fun K' hK' => ?_) AllReadyH.nil)
                    go_simp
                    refine (rtickS_any HR.out HST0.out.okl (by have := HI1.out; omega) now dl HDD.out HDS.out _ HQ.out).mono ?_
                    unfold RForP
                    rw [HD0.out]
                    rintro e w7 ⟨qa, qc, rfl, kr7, h7⟩
                    have H := Lib.hid (LC.doc H.out HR.out h7 (fun p hp => (List.mem_cons.1 hp).elim (fun e => .inr ⟨_, _, e⟩) (fun hp => .inl ⟨_, _, List.mem_singleton.1 hp⟩)))
                    have HR := Lib.hid h7.1
                    have HK7 := Lib.hid kr7
                    clear h7 kr7
                    refine hK'.out _ _ ?_ (fun hSn => ?_)
                    · exact CA.OC0.of (o := (3, (o1, o2, o3, o4), val, now)) (H.out.blk (List.mem_cons_of_mem _ (List.mem_cons_self ..)))
                    clear hK' K' hS
                    have hS := hSn
                    clear hSn
                    try simp only [Act.put, pu]
                    refine wpAnyH_ready (rs := [8]) (by kernel_rfl) (by simp) (AllReadyH.cons rfl (fun K' hK' => ?_) AllReadyH.nil)
                    go_simp
                    refine (same_any _ _ D0 _ (LC.keysK H.out (List.mem_cons_self ..)).kr HK7.out HGL.out).mono ?_
                    rintro e w8 ⟨rfl, hb8⟩
                    have H := Lib.hid (H.out.below hb8)
                    have HR := Lib.hid (HR.out.below hb8)
                    clear hb8 HK7
                    refine hK'.out _ _ ?_ (fun hSn => ?_)
                    · exact CA.OC0.of (o := (3, (o1, o2, o3, o4), val, now)) (H.out.blk (List.mem_cons_of_mem _ (List.mem_cons_self ..)))
                    clear hK' K' hS
                    have hS := hSn
                    clear hSn
                    try simp only [Act.put, pu]
                    refine tkY 9 ?_ rfl hS ?_ ?_
                    rotate_left
                    · intro wz hz
                      go_simp
                      all_goals first | with_reducible rfl | omega
                    try simp only [Act.put, pu]
                    refine wpAnyH_done (by kernel_rfl) ?_ _
                    clear hS
                    have HST : Hid (Sts C.al C.ke s') := Lib.hid (H.out.sts HI'.out)
                    obtain ⟨la, hla⟩ : ∃ l, allS s' = l := ⟨_, rfl⟩
                    have hall := HST.out.all
                    rw [hla] at hall
                    obtain ⟨D, hD⟩ : ∃ D, la.map parK = D := ⟨_, rfl⟩
                    have HDL : Hid (D.length ≤ 1099511627776) := Lib.hid (by rw [← hD, List.length_map]; have := hall.2; omega)
                    have HKC := Lib.hid (lc_keysS H.out HI'.out la hla)
                    have HRK := Lib.hid (fun W M9 (hh : RT w W R M9 s') => rkeysR_any hh HST.out.okl la hla fun t ht => (hall.1 t ht).2)
                    rw [hD] at HKC HRK
                    have HHR := HR
                    clear hla hall hD
                    clear y0 y1 y2 y3 y4 y5 y6
                    go_wp2_with fail
                    refine HKC.out.mono ?_
                    rintro e v1 ⟨ka, kc, rfl, ok1, hb1⟩
                    have H := Lib.hid (H.out.below hb1)
                    have HR := Lib.hid (HR.out.below hb1)
                    have HK1 := Lib.hid ok1.kr
                    clear ok1 hb1 HKC
                    go_wp2_with fail
                    refine (HRK.out _ _ HR.out).mono ?_
                    rintro e v2 ⟨kb, kd2, rfl, ok2, hb2⟩
                    have H := Lib.hid (H.out.below hb2)
                    have HR := Lib.hid (HR.out.below hb2)
                    have HK1 := Lib.hid (HK1.out.below hb2)
                    have HK2 := Lib.hid ok2.kr
                    clear ok2 hb2 HRK
                    go_wp2_with fail
                    refine (same_any _ _ D _ HK1.out HK2.out HDL.out).mono ?_
                    rintro e v3 ⟨rfl, hb3⟩
                    have H := Lib.hid (H.out.below hb3)
                    have HR := Lib.hid (HR.out.below hb3)
                    clear hb3 HK1 HK2
                    obtain ⟨z, hz⟩ : ∃ z, sumE (s').T + sumE (s').K = z := ⟨_, rfl⟩
                    have HZ := Lib.hid hz
                    clear hz
                    go_wp2_with fail
                    refine (lc_bytes H.out z HZ.out).mono ?_
                    rintro e v4 ⟨rfl, hb4⟩
                    have H := Lib.hid (H.out.below hb4)
                    have HR := Lib.hid (HR.out.below hb4)
                    clear hb4
                    go_wp2_with fail
                    refine (rbytes_any HR.out HST.out.pT HST.out.pK HST.out.su z HZ.out).mono ?_
                    rintro e v5 ⟨rfl, hb5⟩
                    have H := Lib.hid (H.out.below hb5)
                    have HR := Lib.hid (HR.out.below hb5)
                    clear hb5
                    go_wp2
                    go_roundg g
                    case measure => exact Nat.lt_succ_self _
                    case rel => exact ⟨i1, n, C, s', rfl, rfl, HI1.out.1, by have := HI1.out; omega, HC.out, HE.out, HI'.out, H.out.nil, HR.out.mono (by have := HI1.out; omega)⟩
                · have k3' : (kd == 3) = false := by simpa using k3
                  by_cases k4 : kd = 4
                  · subst k4
                    clear k0 k0' k1 k1' k2 k2' k3 k3'
                    as_aux_lemma =>
                      obtain ⟨s', hQ⟩ : ∃ Q, flushS σ = Q := ⟨_, rfl⟩
                      have hst := H.out.sts HI.out
                      have hinv' := flush_inv hst
                      rw [hQ] at hinv'
                      obtain ⟨dl, hdl⟩ : ∃ d, allS σ = d := ⟨_, rfl⟩
                      have hall := hst.all
                      rw [hdl] at hall
                      have HALL := Lib.hid hall
                      have HST0 := Lib.hid hst
                      have HQ := Lib.hid hQ
                      have HDD := Lib.hid hdl
                      have HI' := Lib.hid hinv'
                      clear hQ hinv' hst hdl hall
                      have kk := H.out.blk (List.mem_cons_self ..)
                      have y0 : W7.cell? ⟨ob, 0, none⟩ = some (.int .i64 4) := kk.cell 0
                      have y1 : W7.cell? ⟨ob, 1, none⟩ = some (.string o1) := kk.cell 1
                      have y2 : W7.cell? ⟨ob, 2, none⟩ = some (.string o2) := kk.cell 2
                      have y3 : W7.cell? ⟨ob, 3, none⟩ = some (.int .i64 o3) := kk.cell 3
                      have y4 : W7.cell? ⟨ob, 4, none⟩ = some (.string o4) := kk.cell 4
                      have y5 : W7.cell? ⟨ob, 5, none⟩ = some (.string val) := kk.cell 5
                      have y6 : W7.cell? ⟨ob, 6, none⟩ = some (.int .i64 now) := kk.cell 6
                      clear kk
                      go_wp2_with fail
                      try rw [hW7]
                      try rw [hob]
                      refine (HSH.out _).mono ?_
                      rintro e w3 ⟨rfl, hb3⟩
                      have H := Lib.hid (H.out.below hb3)
                      have HR := Lib.hid (HR.out.below hb3)
                      clear hb3 hW7 hob HSH
                      clear x0 x1 x2 x3 x4 x5 x6
                      clear y0 y1 y2 y3 y4 y5 y6
                      have kk := H.out.blk (List.mem_cons_self ..)
                      have y0 : w3.cell? ⟨ob, 0, none⟩ = some (.int .i64 4) := kk.cell 0
                      have y1 : w3.cell? ⟨ob, 1, none⟩ = some (.string o1) := kk.cell 1
                      have y2 : w3.cell? ⟨ob, 2, none⟩ = some (.string o2) := kk.cell 2
                      have y3 : w3.cell? ⟨ob, 3, none⟩ = some (.int .i64 o3) := kk.cell 3
                      have y4 : w3.cell? ⟨ob, 4, none⟩ = some (.string o4) := kk.cell 4
                      have y5 : w3.cell? ⟨ob, 5, none⟩ = some (.string val) := kk.cell 5
                      have y6 : w3.cell? ⟨ob, 6, none⟩ = some (.int .i64 now) := kk.cell 6
                      clear kk
                      go_wp2_with fail
                      refine (lc_flushS H.out.pin HI.out (by have := HI1.out; omega) dl.length (by rw [HDD.out]) _ HQ.out).mono ?_
                      unfold RetC
                      rintro e w5 ⟨rfl, h5⟩
                      have HR := Lib.hid (LC.unpin h5 (List.mem_cons_self ..) HR.out)
                      have H := Lib.hid (h5.forget (O' := [.blk ob 34 #[.int .i64 4, .string o1, .string o2, .int .i64 o3, .string o4, .string val, .int .i64 now]]) fun p hp => List.mem_cons_of_mem _ hp)
                      clear h5
                      clear y0 y1 y2 y3 y4 y5 y6
                      have kk := H.out.blk (List.mem_cons_self ..)
                      have y0 : w5.cell? ⟨ob, 0, none⟩ = some (.int .i64 4) := kk.cell 0
                      have y1 : w5.cell? ⟨ob, 1, none⟩ = some (.string o1) := kk.cell 1
                      have y2 : w5.cell? ⟨ob, 2, none⟩ = some (.string o2) := kk.cell 2
                      have y3 : w5.cell? ⟨ob, 3, none⟩ = some (.int .i64 o3) := kk.cell 3
                      have y4 : w5.cell? ⟨ob, 4, none⟩ = some (.string o4) := kk.cell 4
                      have y5 : w5.cell? ⟨ob, 5, none⟩ = some (.string val) := kk.cell 5
                      have y6 : w5.cell? ⟨ob, 6, none⟩ = some (.int .i64 now) := kk.cell 6
                      clear kk
                      go_wp2_with fail
                      refine (rflushS_any HR.out HST0.out.okl (by have := HI1.out; omega) dl HDD.out HALL.out.1 _ HQ.out).mono ?_
                      unfold RetR
                      rintro e w7 ⟨rfl, h7⟩
                      have H := Lib.hid (LC.doc H.out HR.out h7 (fun p hp => .inl ⟨_, _, List.mem_singleton.1 hp⟩))
                      have HR := Lib.hid h7.1
                      clear h7
                      have HST : Hid (Sts C.al C.ke s') := Lib.hid (H.out.sts HI'.out)
                      obtain ⟨la, hla⟩ : ∃ l, allS s' = l := ⟨_, rfl⟩
                      have hall := HST.out.all
                      rw [hla] at hall
                      obtain ⟨D, hD⟩ : ∃ D, la.map parK = D := ⟨_, rfl⟩
                      have HDL : Hid (D.length ≤ 1099511627776) := Lib.hid (by rw [← hD, List.length_map]; have := hall.2; omega)
                      have HKC := Lib.hid (lc_keysS H.out HI'.out la hla)
                      have HRK := Lib.hid (fun W M9 (hh : RT w W R M9 s') => rkeysR_any hh HST.out.okl la hla fun t ht => (hall.1 t ht).2)
                      rw [hD] at HKC HRK
                      have HHR := HR
                      clear hla hall hD
                      clear y0 y1 y2 y3 y4 y5 y6
                      go_wp2_with fail
                      refine HKC.out.mono ?_
                      rintro e v1 ⟨ka, kc, rfl, ok1, hb1⟩
                      have H := Lib.hid (H.out.below hb1)
                      have HR := Lib.hid (HR.out.below hb1)
                      have HK1 := Lib.hid ok1.kr
                      clear ok1 hb1 HKC
                      go_wp2_with fail
                      refine (HRK.out _ _ HR.out).mono ?_
                      rintro e v2 ⟨kb, kd2, rfl, ok2, hb2⟩
                      have H := Lib.hid (H.out.below hb2)
                      have HR := Lib.hid (HR.out.below hb2)
                      have HK1 := Lib.hid (HK1.out.below hb2)
                      have HK2 := Lib.hid ok2.kr
                      clear ok2 hb2 HRK
                      go_wp2_with fail
                      refine (same_any _ _ D _ HK1.out HK2.out HDL.out).mono ?_
                      rintro e v3 ⟨rfl, hb3⟩
                      have H := Lib.hid (H.out.below hb3)
                      have HR := Lib.hid (HR.out.below hb3)
                      clear hb3 HK1 HK2
                      obtain ⟨z, hz⟩ : ∃ z, sumE (s').T + sumE (s').K = z := ⟨_, rfl⟩
                      have HZ := Lib.hid hz
                      clear hz
                      go_wp2_with fail
                      refine (lc_bytes H.out z HZ.out).mono ?_
                      rintro e v4 ⟨rfl, hb4⟩
                      have H := Lib.hid (H.out.below hb4)
                      have HR := Lib.hid (HR.out.below hb4)
                      clear hb4
                      go_wp2_with fail
                      refine (rbytes_any HR.out HST.out.pT HST.out.pK HST.out.su z HZ.out).mono ?_
                      rintro e v5 ⟨rfl, hb5⟩
                      have H := Lib.hid (H.out.below hb5)
                      have HR := Lib.hid (HR.out.below hb5)
                      clear hb5
                      go_wp2
                      go_roundg g
                      case measure => exact Nat.lt_succ_self _
                      case rel => exact ⟨i1, n, C, s', rfl, rfl, HI1.out.1, by have := HI1.out; omega, HC.out, HE.out, HI'.out, H.out.nil, HR.out.mono (by have := HI1.out; omega)⟩
                  · have k4' : (kd == 4) = false := by simpa using k4
                    as_aux_lemma =>
                      have hkl := HI.out.kle
                      have HKL := Lib.hid hkl
                      obtain ⟨⟨⟨cd, G⟩, s2⟩, hQ⟩ : ∃ Q, putR C.al C.mo C.ttl (o1, o2, o3, o4) vSp 0 σ = Q := ⟨_, rfl⟩
                      have hinv' : InvS C.al C.ke s2 := by
                        have hf := H.out.facts
                        have := putR_inv HI.out HC.out.1.2.2.2.2.2 hf.1 hf.2.1 hf.2.2.1 (o1, o2, o3, o4) HSK.out vSp 0 (mo := C.mo) (ttl := C.ttl)
                        rw [hQ] at this; exact this
                      have HQ := Lib.hid hQ
                      have HI2 := Lib.hid hinv'
                      have HSP : Hid (vSp.size ≤ 1099511627776) := Lib.hid (by decide)
                      clear hkl hQ hinv'
                      have kk := H.out.blk (List.mem_cons_self ..)
                      have y0 : W7.cell? ⟨ob, 0, none⟩ = some (.int .i64 kd) := kk.cell 0
                      have y1 : W7.cell? ⟨ob, 1, none⟩ = some (.string o1) := kk.cell 1
                      have y2 : W7.cell? ⟨ob, 2, none⟩ = some (.string o2) := kk.cell 2
                      have y3 : W7.cell? ⟨ob, 3, none⟩ = some (.int .i64 o3) := kk.cell 3
                      have y4 : W7.cell? ⟨ob, 4, none⟩ = some (.string o4) := kk.cell 4
                      have y5 : W7.cell? ⟨ob, 5, none⟩ = some (.string val) := kk.cell 5
                      have y6 : W7.cell? ⟨ob, 6, none⟩ = some (.int .i64 now) := kk.cell 6
                      clear kk
                      go_wp2_with fail
                      try rw [hW7]
                      try rw [hob]
                      refine (HSH.out _).mono ?_
                      rintro e w3 ⟨rfl, hb3⟩
                      have H := Lib.hid (H.out.below hb3)
                      have HR := Lib.hid (HR.out.below hb3)
                      clear hb3 hW7 hob HSH
                      clear x0 x1 x2 x3 x4 x5 x6
                      clear y0 y1 y2 y3 y4 y5 y6
                      have kk := H.out.blk (List.mem_cons_self ..)
                      have y0 : w3.cell? ⟨ob, 0, none⟩ = some (.int .i64 kd) := kk.cell 0
                      have y1 : w3.cell? ⟨ob, 1, none⟩ = some (.string o1) := kk.cell 1
                      have y2 : w3.cell? ⟨ob, 2, none⟩ = some (.string o2) := kk.cell 2
                      have y3 : w3.cell? ⟨ob, 3, none⟩ = some (.int .i64 o3) := kk.cell 3
                      have y4 : w3.cell? ⟨ob, 4, none⟩ = some (.string o4) := kk.cell 4
                      have y5 : w3.cell? ⟨ob, 5, none⟩ = some (.string val) := kk.cell 5
                      have y6 : w3.cell? ⟨ob, 6, none⟩ = some (.int .i64 now) := kk.cell 6
                      clear kk
                      go_wp2_with fail
                      refine (lc_copy H.out.pin HKL.out.1 HKL.out.2.1 (by have := HI1.out; omega)).mono ?_
                      rintro e w5 ⟨C', c', rfl, hEQ, h5⟩
                      have HEQ := Lib.hid hEQ
                      have HWR := HR
                      have H := Lib.hid h5
                      clear h5 hEQ
                      clear y0 y1 y2 y3 y4 y5 y6
                      have kk := H.out.blk (List.mem_cons_of_mem _ (List.mem_cons_of_mem _ (List.mem_cons_self ..)))
                      have y0 : w5.cell? ⟨ob, 0, none⟩ = some (.int .i64 kd) := kk.cell 0
                      have y1 : w5.cell? ⟨ob, 1, none⟩ = some (.string o1) := kk.cell 1
                      have y2 : w5.cell? ⟨ob, 2, none⟩ = some (.string o2) := kk.cell 2
                      have y3 : w5.cell? ⟨ob, 3, none⟩ = some (.int .i64 o3) := kk.cell 3
                      have y4 : w5.cell? ⟨ob, 4, none⟩ = some (.string o4) := kk.cell 4
                      have y5 : w5.cell? ⟨ob, 5, none⟩ = some (.string val) := kk.cell 5
                      have y6 : w5.cell? ⟨ob, 6, none⟩ = some (.int .i64 now) := kk.cell 6
                      clear kk
                      go_wp2_with fail
                      refine (show Calls _ _ #[_, _, .string vSp, _] _ _ from lc_put H.out HI.out HC.out (o1, o2, o3, o4) HSK.out vSp HSP.out (by have := HI1.out; omega) 0 _ HQ.out).mono ?_
                      rintro e w6 ⟨pa, pc, rfl, h6⟩
                      have H := Lib.hid (h6.forget (O' := [Kc w.heap.size C' n c' σ, Kd w3, .blk ob 34 #[.int .i64 kd, .string o1, .string o2, .int .i64 o3, .string o4, .string val, .int .i64 now]]) fun p hp => List.mem_cons_of_mem _ hp)
                      clear h6
                      clear y0 y1 y2 y3 y4 y5 y6
                      go_wp2_with fail
                      refine (lc_flushS H.out HI2.out (by have := HI1.out; omega) _ rfl _ rfl).mono ?_
                      unfold RetC
                      rintro e w7 ⟨rfl, h7⟩
                      have HR := Lib.hid (LC.unpin h7 (List.mem_cons_of_mem _ (List.mem_cons_self ..)) HWR.out)
                      have H := Lib.hid (LC.turn h7 (List.mem_cons_self ..))
                      have HC2 := Lib.hid (HC.out.of HEQ.out)
                      have HE2 : Hid (R.al = C'.al ∧ R.ke = C'.ke ∧ R.mo = C'.mo ∧ R.ttl = C'.ttl) := Lib.hid ⟨by rw [HEQ.out.1]; exact HE.out.1, by rw [HEQ.out.2.1]; exact HE.out.2.1, by rw [HEQ.out.2.2.1]; exact HE.out.2.2.1, by rw [HEQ.out.2.2.2]; exact HE.out.2.2.2⟩
                      have HI' : Hid (InvS C'.al C'.ke σ) := Lib.hid (by rw [HEQ.out.1, HEQ.out.2.1]; exact HI.out)
                      clear h7
                      have HST : Hid (Sts C'.al C'.ke σ) := Lib.hid (H.out.sts HI'.out)
                      obtain ⟨la, hla⟩ : ∃ l, allS σ = l := ⟨_, rfl⟩
                      have hall := HST.out.all
                      rw [hla] at hall
                      obtain ⟨D, hD⟩ : ∃ D, la.map parK = D := ⟨_, rfl⟩
                      have HDL : Hid (D.length ≤ 1099511627776) := Lib.hid (by rw [← hD, List.length_map]; have := hall.2; omega)
                      have HKC := Lib.hid (lc_keysS H.out HI'.out la hla)
                      have HRK := Lib.hid (fun W M9 (hh : RT w W R M9 σ) => rkeysR_any hh HST.out.okl la hla fun t ht => (hall.1 t ht).2)
                      rw [hD] at HKC HRK
                      have HHR := HR
                      clear hla hall hD
                      go_wp2_with fail
                      refine HKC.out.mono ?_
                      rintro e v1 ⟨ka, kc, rfl, ok1, hb1⟩
                      have H := Lib.hid (H.out.below hb1)
                      have HR := Lib.hid (HR.out.below hb1)
                      have HK1 := Lib.hid ok1.kr
                      clear ok1 hb1 HKC
                      go_wp2_with fail
                      refine (HRK.out _ _ HR.out).mono ?_
                      rintro e v2 ⟨kb, kd2, rfl, ok2, hb2⟩
                      have H := Lib.hid (H.out.below hb2)
                      have HR := Lib.hid (HR.out.below hb2)
                      have HK1 := Lib.hid (HK1.out.below hb2)
                      have HK2 := Lib.hid ok2.kr
                      clear ok2 hb2 HRK
                      go_wp2_with fail
                      refine (same_any _ _ D _ HK1.out HK2.out HDL.out).mono ?_
                      rintro e v3 ⟨rfl, hb3⟩
                      have H := Lib.hid (H.out.below hb3)
                      have HR := Lib.hid (HR.out.below hb3)
                      clear hb3 HK1 HK2
                      obtain ⟨z, hz⟩ : ∃ z, sumE (σ).T + sumE (σ).K = z := ⟨_, rfl⟩
                      have HZ := Lib.hid hz
                      clear hz
                      go_wp2_with fail
                      refine (lc_bytes H.out z HZ.out).mono ?_
                      rintro e v4 ⟨rfl, hb4⟩
                      have H := Lib.hid (H.out.below hb4)
                      have HR := Lib.hid (HR.out.below hb4)
                      clear hb4
                      go_wp2_with fail
                      refine (rbytes_any HR.out HST.out.pT HST.out.pK HST.out.su z HZ.out).mono ?_
                      rintro e v5 ⟨rfl, hb5⟩
                      have H := Lib.hid (H.out.below hb5)
                      have HR := Lib.hid (HR.out.below hb5)
                      clear hb5
                      go_wp2
                      go_roundg g
                      case measure => exact Nat.lt_succ_self _
                      case rel => exact ⟨i1, n, C', σ, rfl, rfl, HI1.out.1, by have := HI1.out; omega, HC2.out, HE2.out, HI'.out, H.out.nil, HR.out.mono (by have := HI1.out; omega)⟩
        · have v5 : (500 : Int) < (val.size : Int) := by omega
          clear hv
          as_aux_lemma =>
            have kk := H.out.blk (List.mem_cons_self ..)
            have y0 : W7.cell? ⟨ob, 0, none⟩ = some (.int .i64 kd) := kk.cell 0
            have y1 : W7.cell? ⟨ob, 1, none⟩ = some (.string o1) := kk.cell 1
            have y2 : W7.cell? ⟨ob, 2, none⟩ = some (.string o2) := kk.cell 2
            have y3 : W7.cell? ⟨ob, 3, none⟩ = some (.int .i64 o3) := kk.cell 3
            have y4 : W7.cell? ⟨ob, 4, none⟩ = some (.string o4) := kk.cell 4
            have y5 : W7.cell? ⟨ob, 5, none⟩ = some (.string val) := kk.cell 5
            have y6 : W7.cell? ⟨ob, 6, none⟩ = some (.int .i64 now) := kk.cell 6
            clear kk
            go_wp2_with fail
            try rw [hW7]
            try rw [hob]
            refine (HSH.out _).mono ?_
            rintro e w3 ⟨rfl, hb3⟩
            have H := Lib.hid (H.out.below hb3)
            have HR := Lib.hid (HR.out.below hb3)
            clear hb3 hW7 hob HSH
            clear x0 x1 x2 x3 x4 x5 x6
            clear y0 y1 y2 y3 y4 y5 y6
            have kk := H.out.blk (List.mem_cons_self ..)
            have y0 : w3.cell? ⟨ob, 0, none⟩ = some (.int .i64 kd) := kk.cell 0
            have y1 : w3.cell? ⟨ob, 1, none⟩ = some (.string o1) := kk.cell 1
            have y2 : w3.cell? ⟨ob, 2, none⟩ = some (.string o2) := kk.cell 2
            have y3 : w3.cell? ⟨ob, 3, none⟩ = some (.int .i64 o3) := kk.cell 3
            have y4 : w3.cell? ⟨ob, 4, none⟩ = some (.string o4) := kk.cell 4
            have y5 : w3.cell? ⟨ob, 5, none⟩ = some (.string val) := kk.cell 5
            have y6 : w3.cell? ⟨ob, 6, none⟩ = some (.int .i64 now) := kk.cell 6
            clear kk
            go_wp2
            go_roundg g
            case measure => exact Nat.lt_succ_self _
            case rel => exact ⟨i1, n, C, σ, rfl, rfl, HI1.out.1, by have := HI1.out; omega, HC.out, HE.out, HI.out, H.out.nil, HR.out.mono (by have := HI1.out; omega)⟩
theorem plays_any (v0 v1 : Value) (w : World) (f0 : Fits4i w v0) (f1 : FitsP w v1) :
    Calls Tryz.prog 3 #[v0, v1] w fun e w' => e = .returned (.bool true) ∧ Below w.heap.size w w' := by
  obtain ⟨a, b, c, d, hv, _⟩ := f0
  have inj : ∀ a' b' c' d' : Int, v0 = .agg #[.int .i64 a', .int .i64 b', .int .i64 c', .int .i64 d'] → a' = a ∧ b' = b ∧ c' = c ∧ d' = d := fun a' b' c' d' h => by
    rw [hv] at h
    simp only [Value.agg.injEq, Array.mk.injEq, List.cons.injEq, Value.int.injEq, true_and, and_true] at h
    exact ⟨h.1.symm, h.2.1.symm, h.2.2.1.symm, h.2.2.2.symm⟩
  by_cases h : okC a b c d
  · exact plays_yes v0 v1 w ⟨a, b, c, d, hv, ‹_›⟩ f1 fun a' b' c' d' e => by obtain ⟨rfl, rfl, rfl, rfl⟩ := inj _ _ _ _ e; exact h
  · exact plays_no v0 v1 w ⟨a, b, c, d, hv, ‹_›⟩ f1 fun a' b' c' d' e => by obtain ⟨rfl, rfl, rfl, rfl⟩ := inj _ _ _ _ e; exact h
end Go.Proofs.YtjngangojgjceaaGreat.CA
