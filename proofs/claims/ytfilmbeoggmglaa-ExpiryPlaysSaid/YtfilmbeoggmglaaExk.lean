/- Package expiry: what is due goes out of its order. Conditions: how many. -/
import Derived.Test.YtfilmbeoggmglaaExj
namespace Go.Proofs.Ytfilmbeoggmglaa.EX
open Go.ChangeShapes Go.WideShapes Go.ChangeAt Go.RowKit
open Go.Proofs.Ytfilmbeoggmglaa.SL Go.Proofs.Ytfilmbeoggmglaa.RW
set_option maxRecDepth 100000
set_option linter.unusedVariables false
set_option linter.unusedSimpArgs false

def TakP (B g ob : Nat) (qc : Array Value) (v : Value) (d : List ByteArray) (R : List Et) (w : World) (e : Ending) (w' : World) : Prop :=
  ∃ u, e = .returned u ∧ OT w.heap.size w' u d ∧ ∃ a c, Bk w' g 73 qc ∧ Bk w' ob 108 #[.slice a R.length c] ∧ EQ B w' (.slice a R.length c) R ∧ Chg (fun b => b = g ∨ b = ob ∨ v.ownBlock = some b) w w' ∧ ∀ q, (Value.slice a R.length c).ownBlock = some q → v.ownBlock = some q
theorem odel_any (w : World) (ob : Nat) :
    Calls Try.prog 76 #[.slice (some ⟨ob, 0, none⟩) 1 1, .int .i64 0, .int .i64 0] w fun e w' => e = .returned (.slice (some ⟨ob, 0, none⟩) 1 1) ∧ w = w' := by
  go_enter Try.func76, Try.ntmps76
  go_wp2
  go_ret
  exact ⟨rfl, rfl⟩
theorem OT.grown' {B : Nat} {w w' : World} {u : Value} {d : List ByteArray} {row : Option Nat} (h : OT B w u d) (hg : w.grownBy w' row) (hn : ∀ q, row = some q → u.ownBlock ≠ some q) : OT B w' u d := h.keep fun q hq => hg.block q (World.ownsRow.lt h q hq).2 (fun e => hn q e.symm hq)
theorem OT.below' {B : Nat} {w w' : World} {u : Value} {d : List ByteArray} (h : OT B w u d) (hb : Below w.heap.size w w') : OT B w' u d := h.keep fun q hq => hb.block q (World.ownsRow.lt h q hq).2
theorem OT.offB {B : Nat} {w : World} {u : Value} {d : List ByteArray} (h : OT B w u d) {b : Nat} {t : TypeId} {cs : Array Value} (hb : Bk w b t cs) (ht : t ≠ 9) : ∀ q, u.ownBlock = some q → b ≠ q := by
  rintro q hq rfl
  rcases h.2 with ⟨rfl, _⟩ | ⟨g, cap, cur, rfl, _, hg, _⟩
  · cases hq
  · injection hq with hq
    subst hq
    unfold Bk at hb
    rw [hb] at hg
    injection hg with hg
    injection hg with _ hg
    exact ht hg
theorem EQ.offT {B B' : Nat} {w : World} {v u : Value} {l : List Et} {d : List ByteArray} (h : EQ B w v l) (hu : OT B' w u d) : ∀ q, v.ownBlock = some q → u.ownBlock ≠ some q := by
  intro q hq hq2
  obtain ⟨_, cur, fz, h9⟩ := h.ty q hq
  rcases hu.2 with ⟨rfl, _⟩ | ⟨g, cap, cur2, rfl, _, hg, _⟩
  · cases hq2
  · injection hq2 with hq2
    subst hq2
    rw [h9] at hg
    injection hg with hg
    injection hg with _ hg
    exact absurd hg (by decide)
theorem ownEmpty (W : World) (B : Nat) (t : TypeId) (hB : B ≤ W.heap.size) : (W.alloc (.cells #[] t)).ownsRow B t 1 (.slice (some ⟨W.heap.size, 0, none⟩) 0 0) 0 [] :=
  ⟨rfl, .inr ⟨W.heap.size, 0, #[], rfl, hB, heap_alloc_new W _, Nat.le_refl _, Nat.zero_le _, rfl, rfl⟩⟩
theorem ownBelow {w w' : World} {B z n : Nat} {t : TypeId} {v : Value} {xs : List Value} (h : w.ownsRow B t z v n xs) (hb : Below w.heap.size w w') : w'.ownsRow B t z v n xs := by
  refine ⟨h.1, ?_⟩
  rcases h.2 with h2 | ⟨g, cap, cur, rfl, hbb, hg, hr⟩
  · exact .inl h2
  · exact .inr ⟨g, cap, cur, rfl, hbb, (hb.block g (World.ownsRow.lt h g rfl).2).trans hg, hr⟩
set_option maxHeartbeats 16000000 in
theorem take_any (w : World) (B g ob : Nat) (v : Value) (L : List Et) (n now : Int) (qc : Array Value) (hg : Bk w g 73 qc) (hq : qc[3]? = some (.slice (some ⟨ob, 0, none⟩) 1 1)) (ho : Bk w ob 108 #[v]) (hv : EQ B w v L) (hs : Srt n L) (hl : L.length ≤ 500) (hB : B ≤ w.heap.size) :
    Calls Try.prog 62 #[.pointer (some ⟨g, 3, none⟩), .int .i64 now] w (TakP B g ob qc v (keysT (leL now L)) (gtL now L) w) := by
  obtain ⟨D, hD⟩ : ∃ D, keysT (leL now L) = D := ⟨_, rfl⟩
  obtain ⟨R, hR⟩ : ∃ R, gtL now L = R := ⟨_, rfl⟩
  have HDK := Lib.hid hD
  have HR := Lib.hid hR
  rw [hD, hR]
  clear hD hR
  have HS := Lib.hid hs
  have HL := Lib.hid hl
  obtain ⟨va, vc, rfl⟩ := hv.form
  obtain ⟨xb, hxb⟩ : ∃ b, w.heap.size = b := ⟨_, rfl⟩
  obtain ⟨W1, hW1⟩ : ∃ W, w.alloc (.cells #[.int .i64 now] 3) = W := ⟨_, rfl⟩
  have hb1 : Below w.heap.size w W1 := by rw [← hW1]; exact (Below.refl _ _).alloc (Nat.le_refl _) _
  have kx : Bk W1 xb 3 #[.int .i64 now] := by rw [← hW1, ← hxb]; exact Bk.new _ _ _
  have HB1 := Lib.hid hb1
  have KX := Lib.hid kx
  have KG := Lib.hid (hg.below hb1)
  have KO := Lib.hid (ho.below hb1)
  have HV := Lib.hid (hv.below hb1)
  have q3 : W1.cell? ⟨g, 3, none⟩ = some (.slice (some ⟨ob, 0, none⟩) 1 1) := ((hg.below hb1).cell 3).trans hq
  have henter : ∀ args W, (callFunc 77 args).run Try.prog W = .ok (.enter 77 args) W := fun args W => by show Sem.run Try.prog (callFunc 77 args) W = _; go_simp
  have HE := Lib.hid henter
  have HQ3 := Lib.hid hq
  clear hs hl hb1 kx hg ho hv hB henter hq
  obtain ⟨j, hj, hjz, hjs, hjb⟩ := iSli
  go_enter Try.func62, Try.ntmps62
  go_wp2_with fail
  try rw [hxb]
  refine (first_any W1 B ob _ #[ptr xb] (.slice va L.length vc) L (fun e => decide (now < e.2.1)) KO.out HV.out ⟨HE.out, fun W hb e _ => takec_any W xb now e (KX.out.below hb) _ rfl⟩ (mono_gt HS.out) (by have := HL.out; omega)).mono ?_
  rintro e w2 ⟨c, rfl, hc, ht, hd, hb2⟩
  have ht2 : L.take c = leL now L := ht
  have hd2 : L.drop c = R := hd.trans HR.out
  have HT := Lib.hid ht2
  have HD := Lib.hid hd2
  have HC := Lib.hid hc
  have HB2 := Lib.hid (HB1.out.trans (hb2.mono HB1.out.size))
  have KG2 := Lib.hid (KG.out.below hb2)
  have KO2 := Lib.hid (KO.out.below hb2)
  have HV2 := Lib.hid (HV.out.below hb2)
  have c3 : w2.cell? ⟨g, 3, none⟩ = some (.slice (some ⟨ob, 0, none⟩) 1 1) := (KG2.out.cell 3).trans HQ3.out
  have c0 : w2.cell? ⟨ob, 0, none⟩ = some (.slice va L.length vc) := KO2.out.cell 0
  have hcl : (c : Int) ≤ (L.length : Int) := by omega
  have hc0 : (0 : Int) ≤ (c : Int) := by omega
  have hcv : c ≤ vc ∧ (va = none → c = 0 ∧ vc = 0) := by
    rcases HV2.out.inv with ⟨he, hl0⟩ | ⟨g', cap, he, hcap, _⟩
    · injection he with e1 e2 e3
      subst e1 e3
      rw [hl0] at hc
      simp at hc
      exact ⟨by omega, fun _ => ⟨hc, rfl⟩⟩
    · injection he with e1 e2 e3
      subst e1 e3
      exact ⟨by omega, fun h => by cases h⟩
  have hcc : (c : Int) ≤ (vc : Int) := by omega
  have HCV := Lib.hid hcv
  have HRE : Hid (∀ W, Below w2.heap.size w2 W → RE W (.slice va c vc) (L.take c)) := Lib.hid fun W hb => by
    rcases HV2.out.inv with ⟨he, hl0⟩ | ⟨g', cap, he, hcap, _⟩
    · injection he with e1 e2 e3
      have := (hcv.2 e1).1
      subst this
      exact .inl ⟨va, vc, rfl, rfl⟩
    · have h2 := HV2.out.below hb
      injection he with e1 e2 e3
      subst e1 e3
      exact h2.re_take c hc
  clear ht hd hc hb2 ht2 hd2 q3 KX KG KO HV HB1 hxb hW1 hcv
  go_wp2_with fail
  refine wp_region_held_drew (S := (fun w' => w'.cell? ⟨g, 3, none⟩ = some (.slice (some ⟨ob, 0, none⟩) 1 1) ∧ w'.cell? ⟨ob, 0, none⟩ = some (.slice va L.length vc))) (by kernel_rfl) ?_ (fun hS => ?_)
  · exact ⟨c3, c0⟩
  refine tkY 0 ?_ rfl hS ?_ ?_
  rotate_left
  · intro wz hz
    obtain ⟨z0, z1⟩ := hz
    go_simp
    all_goals first | with_reducible rfl | omega
  try simp only [Act.put, pu]
  refine tkY 1 ?_ rfl hS ?_ ?_
  rotate_left
  · intro wz hz
    obtain ⟨z0, z1⟩ := hz
    go_simp
    all_goals first | with_reducible rfl | omega
  try simp only [Act.put, pu]
  refine tkY 2 ?_ rfl hS ?_ ?_
  rotate_left
  · intro wz hz
    obtain ⟨z0, z1⟩ := hz
    go_simp
    all_goals first | with_reducible rfl | omega
  try simp only [Act.put, pu]
  refine tkY 3 ?_ rfl hS ?_ ?_
  rotate_left
  · intro wz hz
    obtain ⟨z0, z1⟩ := hz
    go_simp
    all_goals first | with_reducible rfl | omega
  try simp only [Act.put, pu]
  refine tkY 4 ?_ rfl hS ?_ ?_
  rotate_left
  · intro wz hz
    obtain ⟨z0, z1⟩ := hz
    go_simp
    all_goals first | with_reducible rfl | omega
  try simp only [Act.put, pu]
  refine tkY 6 ?_ rfl hS ?_ ?_
  rotate_left
  · intro wz hz
    obtain ⟨z0, z1⟩ := hz
    go_simp
    all_goals first | with_reducible rfl | omega
  try simp only [Act.put, pu]
  refine tkY 7 ?_ rfl hS ?_ ?_
  rotate_left
  · intro wz hz
    obtain ⟨z0, z1⟩ := hz
    go_simp
    all_goals first | with_reducible rfl | omega
  try simp only [Act.put, pu]
  refine tkY 8 ?_ rfl hS ?_ ?_
  rotate_left
  · intro wz hz
    obtain ⟨z0, z1⟩ := hz
    go_simp
    all_goals first | with_reducible rfl | omega
  try simp only [Act.put, pu]
  refine tkY 9 ?_ rfl hS ?_ ?_
  rotate_left
  · intro wz hz
    obtain ⟨z0, z1⟩ := hz
    go_simp
    all_goals first | with_reducible rfl | omega
  try simp only [Act.put, pu]
  refine tkY 10 ?_ rfl hS ?_ ?_
  rotate_left
  · intro wz hz
    obtain ⟨z0, z1⟩ := hz
    go_simp
    all_goals first | with_reducible rfl | omega
  try simp only [Act.put, pu]
  refine tkY 11 ?_ rfl hS ?_ ?_
  rotate_left
  · intro wz hz
    obtain ⟨z0, z1⟩ := hz
    go_simp
    all_goals first | with_reducible rfl | omega
  try simp only [Act.put, pu]
  refine tkY 12 ?_ rfl hS ?_ ?_
  rotate_left
  · intro wz hz
    obtain ⟨z0, z1⟩ := hz
    go_simp
    all_goals first | with_reducible rfl | omega
  try simp only [Act.put, pu]
  refine tkY 13 ?_ rfl hS ?_ ?_
  rotate_left
  · intro wz hz
    obtain ⟨z0, z1⟩ := hz
    go_simp
    all_goals first | with_reducible rfl | omega
  try simp only [Act.put, pu]
  refine wpAnyH_ready (rs := [5, 14]) (by kernel_rfl) (by simp) (AllReadyH.cons rfl (fun K' hK' => ?_) (AllReadyH.cons rfl (fun K' hK' => ?_) AllReadyH.nil))
  · have HBW : Hid (Below w2.heap.size w2 w2.drew) := Lib.hid (Below.refl _ _).drew
    go_simp
    have hbC : Below w2.heap.size w2 w2.drew := HBW.out
    refine (oclone_any w2.drew ob).mono ?_
    rintro e w4 ⟨rfl, hw4⟩
    obtain ⟨ce, hce⟩ : ∃ b, w2.drew.heap.size = b := ⟨_, rfl⟩
    have hx4 : w4.ownsRow w2.heap.size 108 1 (.slice (some ⟨ce, 0, none⟩) 0 0) 0 [] := by rw [hw4, ← hce]; exact ownEmpty w2.drew _ _ hbC.size
    have hb4 : Below w2.drew.heap.size w2.drew w4 := by rw [hw4]; exact (Below.refl _ _).alloc (Nat.le_refl _) _
    rw [hce]
    have HCE : Hid (w2.heap.size ≤ ce) := Lib.hid (by rw [← hce]; exact hbC.size)
    have HX4 := Lib.hid hx4
    have HB4 := Lib.hid (hbC.trans (hb4.mono hbC.size))
    clear hw4 hce hx4 hb4 hbC
    refine hK'.out _ _ ?_ (fun hSn => ?_)
    · exact ⟨((KG2.out.below HB4.out).cell 3).trans HQ3.out, (KO2.out.below HB4.out).cell 0⟩
    clear hK' K' hS
    have hS := hSn
    clear hSn
    try simp only [Act.put, pu]
    refine wpAnyH_ready (rs := [14]) (by kernel_rfl) (by simp) (AllReadyH.cons rfl (fun K' hK' => ?_) AllReadyH.nil)
    go_simp
    obtain ⟨W5, hW5⟩ : ∃ W, w4.alloc (.cells #[.slice va c vc] 108) = W := ⟨_, rfl⟩
    obtain ⟨vb, hvb⟩ : ∃ b, w4.heap.size = b := ⟨_, rfl⟩
    have hb5 : Below w4.heap.size w4 W5 := by rw [← hW5]; exact (Below.refl _ _).alloc (Nat.le_refl _) _
    have HVB : Hid (Bk W5 vb 108 #[.slice va c vc]) := Lib.hid (by rw [← hW5, ← hvb]; exact Bk.new _ _ _)
    have HX5 : Hid (W5.ownsRow w2.heap.size 108 1 (.slice (some ⟨ce, 0, none⟩) 0 0) 0 []) := Lib.hid (ownBelow HX4.out hb5)
    have HB5 := Lib.hid (HB4.out.trans (hb5.mono HB4.out.size))
    try rw [hW5]
    try rw [hvb]
    clear hW5 hvb hb5 HB4 HX4 HBW
    refine hK'.out _ _ ?_ (fun hSn => ?_)
    · exact ⟨((KG2.out.below HB5.out).cell 3).trans HQ3.out, (KO2.out.below HB5.out).cell 0⟩
    clear hK' K' hS
    have hS := hSn
    clear hSn
    try simp only [Act.put, pu]
    refine wpAnyH_ready (rs := [15]) (by kernel_rfl) (by simp) (AllReadyH.cons rfl (fun K' hK' => ?_) AllReadyH.nil)
    refine step_append_lies _ rfl _ _ 71 rfl w2.heap.size 108 j (.slice none 0 0) 1 24 Try.underlying71 hj hjz hjs hjb rfl (by decide) (.slice (some ⟨ce, 0, none⟩) 0 0) 0 [] (by simp [Act.eval, Act.put]) HX5.out ⟨vb, 0, none⟩ 1 1 [.slice va c vc] (by simp [Act.eval, Act.put]) rfl ?_ (by intro u hu; simp at hu; subst hu; rfl) (by decide) (by unfold maxLen; omega) (by decide) HB5.out.size _ rfl ?_
    · intro q u hq
      cases q with
      | zero => simp at hq; subst hq; rw [Addr.add_lit]; exact HVB.out.cell 0
      | succ q => simp at hq
    intro g9 cap9 w9 o9 gr9 at9 lt9
    have kg9 : Bk w9 g 73 qc := Bk.grown (KG2.out.below HB5.out) gr9 (fun q hq => by have hq2 : ce = q := (by injection hq); have := KG2.out.lt; have := HCE.out; omega)
    have ko9 : Bk w9 ob 108 #[.slice va L.length vc] := Bk.grown (KO2.out.below HB5.out) gr9 (fun q hq => by have hq2 : ce = q := (by injection hq); have := KO2.out.lt; have := HCE.out; omega)
    have hb9 : Below w2.heap.size w2 w9 := HB5.out.grown gr9 HB5.out.size (fun q hq => by have hq2 : ce = q := (by injection hq); have := HCE.out; omega)
    have cd9 : w9.cell? ⟨g9, 0, none⟩ = some (.slice va c vc) := by
      have := World.ownsRow.cells o9 (g := g9) rfl 0 (.slice va c vc) (by simp)
      rw [Addr.add_lit] at this
      exact this
    have HB9 := Lib.hid hb9
    have KG9 := Lib.hid kg9
    have KO9 := Lib.hid ko9
    have HCD := Lib.hid cd9
    refine hK'.out _ _ ?_ (fun hSn => ?_)
    · exact ⟨(kg9.cell 3).trans HQ3.out, ko9.cell 0⟩
    clear hK' K' hS kg9 ko9 hb9 cd9 o9 gr9 at9 lt9
    have hS := hSn
    clear hSn
    try simp only [Act.put, pu]
    refine tkY 16 ?_ rfl hS ?_ ?_
    rotate_left
    · intro wz hz
      obtain ⟨z0, z1⟩ := hz
      go_simp
      all_goals first | with_reducible rfl | omega
    try simp only [Act.put, pu]
    refine wpAnyH_done (by kernel_rfl) ?_ _
    clear hS c3 c0 HX5 HVB HB5 HCE
    have z1 : 0 + 1 = 1 := rfl
    try rw [z1]
    go_wp2_with fail
    refine (okeys_any w9 g9 cap9 (.slice va c vc) (L.take c) HCD.out (HRE.out w9 HB9.out) (by rw [List.length_take]; have := HL.out; omega)).mono ?_
    rintro e w10 ⟨u, rfl, ou, hb10⟩
    rw [HT.out, HDK.out] at ou
    have HOU := Lib.hid ou
    have HBA := Lib.hid (HB9.out.trans (hb10.mono HB9.out.size))
    have HWT : Hid (w2.heap.size ≤ w9.heap.size) := Lib.hid HB9.out.size
    have KGA := Lib.hid (KG9.out.below hb10)
    have KOA := Lib.hid (KO9.out.below hb10)
    have HVA := Lib.hid (HV2.out.below HBA.out)
    have c3 : w10.cell? ⟨g, 3, none⟩ = some (.slice (some ⟨ob, 0, none⟩) 1 1) := (KGA.out.cell 3).trans HQ3.out
    have c0 : w10.cell? ⟨ob, 0, none⟩ = some (.slice va L.length vc) := KOA.out.cell 0
    clear ou hb10 KG9 KO9 HCD HB9
    go_wp2_with fail
    refine wp_region_held_drew (S := (fun w' => w'.cell? ⟨g, 3, none⟩ = some (.slice (some ⟨ob, 0, none⟩) 1 1))) (by kernel_rfl) ?_ (fun hS => ?_)
    · exact c3
    refine tkY 0 ?_ rfl hS ?_ ?_
    rotate_left
    · intro wz hz
      go_simp
      all_goals first | with_reducible rfl | omega
    try simp only [Act.put, pu]
    refine tkY 1 ?_ rfl hS ?_ ?_
    rotate_left
    · intro wz hz
      go_simp
      all_goals first | with_reducible rfl | omega
    try simp only [Act.put, pu]
    refine tkY 2 ?_ rfl hS ?_ ?_
    rotate_left
    · intro wz hz
      go_simp
      all_goals first | with_reducible rfl | omega
    try simp only [Act.put, pu]
    refine tkY 3 ?_ rfl hS ?_ ?_
    rotate_left
    · intro wz hz
      go_simp
      all_goals first | with_reducible rfl | omega
    try simp only [Act.put, pu]
    refine tkY 4 ?_ rfl hS ?_ ?_
    rotate_left
    · intro wz hz
      go_simp
      all_goals first | with_reducible rfl | omega
    try simp only [Act.put, pu]
    refine tkY 5 ?_ rfl hS ?_ ?_
    rotate_left
    · intro wz hz
      go_simp
      all_goals first | with_reducible rfl | omega
    try simp only [Act.put, pu]
    refine tkY 6 ?_ rfl hS ?_ ?_
    rotate_left
    · intro wz hz
      go_simp
      all_goals first | with_reducible rfl | omega
    try simp only [Act.put, pu]
    refine tkY 7 ?_ rfl hS ?_ ?_
    rotate_left
    · intro wz hz
      go_simp
      all_goals first | with_reducible rfl | omega
    try simp only [Act.put, pu]
    refine tkY 8 ?_ rfl hS ?_ ?_
    rotate_left
    · intro wz hz
      go_simp
      all_goals first | with_reducible rfl | omega
    try simp only [Act.put, pu]
    refine tkY 10 ?_ rfl hS ?_ ?_
    rotate_left
    · intro wz hz
      go_simp
      all_goals first | with_reducible rfl | omega
    try simp only [Act.put, pu]
    refine wpAnyH_ready (rs := [9]) (by kernel_rfl) (by simp) (AllReadyH.cons rfl (fun K' hK' => ?_) AllReadyH.nil)
    go_simp
    refine hK'.out _ _ ?_ (fun hSn => ?_)
    · exact c3
    clear hK' K' hS
    have hS := hSn
    clear hSn
    try simp only [Act.put, pu]
    refine wpAnyH_ready (rs := [11]) (by kernel_rfl) (by simp) (AllReadyH.cons rfl (fun K' hK' => ?_) AllReadyH.nil)
    go_simp
    have hbd : Below w10.heap.size w10 w10.drew := (Below.refl _ _).drew
    refine (edelete_any B (.slice va L.length vc) L 0 c w10.drew (HVA.out.below hbd) (Nat.zero_le _) HC.out (by have := HL.out; omega)).mono ?_
    rintro e w11 ⟨a5, c5, rfl, he5, hg5, ho5⟩
    rw [List.take_zero, List.nil_append, HD.out] at he5 ho5
    rw [List.take_zero, List.nil_append, HD.out]
    have kg5 := Bk.grown (KGA.out.below hbd) hg5 (fun q hq => (HVA.out.below hbd).off (KGA.out.below hbd) ty_qe q hq)
    have ko5 := Bk.grown (KOA.out.below hbd) hg5 (fun q hq => (HVA.out.below hbd).off (KOA.out.below hbd) ty_oe q hq)
    have ou5 := OT.grown' (OT.below' HOU.out hbd) hg5 (fun q hq => (HVA.out.offT HOU.out) q hq)
    have hSC := (kg5.cell 3).trans HQ3.out
    have f0 := ko5.frozen 0
    have s0 : w11.cell? ⟨ob, 0, none⟩ = some (.slice va L.length vc) := ko5.cell 0
    have KG5 := Lib.hid kg5
    have KO5 := Lib.hid ko5
    have OU5 := Lib.hid ou5
    have HE5 := Lib.hid he5
    have HG5 := Lib.hid hg5
    have HO5 := Lib.hid ho5
    clear kg5 ko5 he5 hg5 ho5 ou5
    refine hK'.out _ _ ?_ (fun hSn => ?_)
    · exact hSC
    clear hK' K' hS
    have hS := hSn
    clear hSn
    try simp only [Act.put, pu]
    refine tkY 12 ?_ rfl hS ?_ ?_
    rotate_left
    · intro wz hz
      go_simp
      all_goals first | with_reducible rfl | omega
    try simp only [Act.put, pu]
    refine wpAnyH_ready (rs := [13]) (by kernel_rfl) (by simp) (AllReadyH.cons rfl (fun K' hK' => ?_) AllReadyH.nil)
    go_simp
    refine hK'.out _ _ ?_ (fun hSn => ?_)
    · exact (KG5.out.far (p := ⟨ob, 0, none⟩) (KG5.out.ne_ KO5.out ty_qo) _).cell 3 |>.trans HQ3.out
    clear hK' K' hS
    have hS := hSn
    clear hSn
    refine wpAnyH_done (by kernel_rfl) ?_ _
    clear hS
    have hko := KO5.out.set_ 0 (.slice a5 R.length c5)
    have hkg := KG5.out.far (p := ⟨ob, 0, none⟩) (KG5.out.ne_ KO5.out ty_qo) (.slice a5 R.length c5)
    have hEE : EQ B (w11.setCell ⟨ob, 0, none⟩ (.slice a5 R.length c5)) (.slice a5 R.length c5) R := HE5.out.keep fun q hq => Below.heap_setCell _ _ _ _ (fun e => (HE5.out.off KO5.out ty_oe q hq) e.symm)
    have hou : OT w9.heap.size (w11.setCell ⟨ob, 0, none⟩ (.slice a5 R.length c5)) u D := OU5.out.keep fun q hq => Below.heap_setCell _ _ _ _ (fun e => (OT.offB OU5.out KO5.out (by decide)) q hq e.symm)
    have h1 : Chg (fun b => b = g ∨ b = ob ∨ (Value.slice va L.length vc).ownBlock = some b) w w11 := ((Chg.of_below (S := fun b => b = g ∨ b = ob ∨ (Value.slice va L.length vc).ownBlock = some b) HB2.out).trans (Chg.of_below HBA.out)).grown (w1 := w10) ⟨HG5.out.os, HG5.out.tape, HG5.out.output, HG5.out.size, HG5.out.block⟩ (fun k hk _ => .inr (.inr hk))
    have hch := h1.setCell (p := ⟨ob, 0, none⟩) (.inr (.inl rfl)) (.slice a5 R.length c5)
    obtain ⟨w6, hw6⟩ : ∃ w6, w11.setCell ⟨ob, 0, none⟩ (.slice a5 R.length c5) = w6 := ⟨_, rfl⟩
    rw [hw6] at hko hkg hEE hch hou
    rw [hw6]
    have KO6 : Hid (Bk w6 ob 108 #[.slice a5 R.length c5]) := Lib.hid hko
    have KG6 := Lib.hid hkg
    have y3 : w6.cell? ⟨g, 3, none⟩ = some (.slice (some ⟨ob, 0, none⟩) 1 1) := (hkg.cell 3).trans HQ3.out
    have g3 := hkg.frozen 3
    have HEE := Lib.hid hEE
    have HCH := Lib.hid hch
    have OU6 := Lib.hid hou
    clear hko hkg hEE hch h1 hw6 c3 c0 f0 s0 hou
    go_wp2_with fail
    refine (odel_any _ ob).mono ?_
    rintro e w' ⟨rfl, rfl⟩
    go_wp2
    go_ret
    have hset : qc.setIfInBounds 3 (.slice (some ⟨ob, 0, none⟩) 1 1) = qc := by
      apply Array.ext_getElem?
      intro i
      rw [Array.getElem?_setIfInBounds]
      split
      · rename_i h3
        subst h3
        split
        · exact HQ3.out.symm
        · rw [Array.getElem?_eq_none (by omega)]
      · rfl
    have hkg7 := KG6.out.set_ 3 (.slice (some ⟨ob, 0, none⟩) 1 1)
    rw [hset] at hkg7
    refine ⟨u, rfl, ?_, a5, c5, hkg7, KO6.out.far (p := ⟨g, 3, none⟩) (fun e => (KG6.out.ne_ KO6.out ty_qo) e.symm) _, ?_, HCH.out.setCell (p := ⟨g, 3, none⟩) (.inl rfl) _, HO5.out⟩
    · exact OT.mono (OU6.out.keep fun q hq => Below.heap_setCell _ _ _ _ (fun e => (OT.offB OU6.out KG6.out (by decide)) q hq e.symm)) (Nat.le_trans HB2.out.size HWT.out)
    · exact HEE.out.keep fun q hq => Below.heap_setCell _ _ _ _ (fun e => (HEE.out.off KG6.out ty_qe q hq) e.symm)
  · go_simp
    obtain ⟨W3, hW3⟩ : ∃ W, (w2.alloc (.cells #[.slice va c vc] 108)).drew = W := ⟨_, rfl⟩
    obtain ⟨vb, hvb⟩ : ∃ b, w2.heap.size = b := ⟨_, rfl⟩
    have hb3 : Below w2.heap.size w2 W3 := by rw [← hW3]; exact ((Below.refl _ _).alloc (Nat.le_refl _) _).drew
    have hv3 : Bk W3 vb 108 #[.slice va c vc] := by rw [← hW3, ← hvb]; exact (Bk.new _ _ _).drew
    have HBW := Lib.hid hb3
    have HV3 := Lib.hid hv3
    try rw [hW3]
    try rw [hvb]
    clear hW3 hb3 hv3
    refine hK'.out _ _ ?_ (fun hSn => ?_)
    · exact ⟨((KG2.out.below HBW.out).cell 3).trans HQ3.out, (KO2.out.below HBW.out).cell 0⟩
    clear hK' K' hS
    have hS := hSn
    clear hSn
    try simp only [Act.put, pu]
    refine wpAnyH_ready (rs := [5]) (by kernel_rfl) (by simp) (AllReadyH.cons rfl (fun K' hK' => ?_) AllReadyH.nil)
    go_simp
    have hbC : Below w2.heap.size w2 W3 := HBW.out
    refine (oclone_any W3 ob).mono ?_
    rintro e w4 ⟨rfl, hw4⟩
    obtain ⟨ce, hce⟩ : ∃ b, W3.heap.size = b := ⟨_, rfl⟩
    have hx4 : w4.ownsRow w2.heap.size 108 1 (.slice (some ⟨ce, 0, none⟩) 0 0) 0 [] := by rw [hw4, ← hce]; exact ownEmpty W3 _ _ hbC.size
    have hb4 : Below W3.heap.size W3 w4 := by rw [hw4]; exact (Below.refl _ _).alloc (Nat.le_refl _) _
    rw [hce]
    have HCE : Hid (w2.heap.size ≤ ce) := Lib.hid (by rw [← hce]; exact hbC.size)
    have HX4 := Lib.hid hx4
    have HB4 := Lib.hid (hbC.trans (hb4.mono hbC.size))
    have HVB : Hid (Bk w4 vb 108 #[.slice va c vc]) := Lib.hid (HV3.out.below hb4)
    have HX5 := HX4
    have HB5 := HB4
    clear hw4 hce hx4 hb4 hbC HX4 HB4 HV3 HBW
    refine hK'.out _ _ ?_ (fun hSn => ?_)
    · exact ⟨((KG2.out.below HB5.out).cell 3).trans HQ3.out, (KO2.out.below HB5.out).cell 0⟩
    clear hK' K' hS
    have hS := hSn
    clear hSn
    try simp only [Act.put, pu]
    refine wpAnyH_ready (rs := [15]) (by kernel_rfl) (by simp) (AllReadyH.cons rfl (fun K' hK' => ?_) AllReadyH.nil)
    refine step_append_lies _ rfl _ _ 71 rfl w2.heap.size 108 j (.slice none 0 0) 1 24 Try.underlying71 hj hjz hjs hjb rfl (by decide) (.slice (some ⟨ce, 0, none⟩) 0 0) 0 [] (by simp [Act.eval, Act.put]) HX5.out ⟨vb, 0, none⟩ 1 1 [.slice va c vc] (by simp [Act.eval, Act.put]) rfl ?_ (by intro u hu; simp at hu; subst hu; rfl) (by decide) (by unfold maxLen; omega) (by decide) HB5.out.size _ rfl ?_
    · intro q u hq
      cases q with
      | zero => simp at hq; subst hq; rw [Addr.add_lit]; exact HVB.out.cell 0
      | succ q => simp at hq
    intro g9 cap9 w9 o9 gr9 at9 lt9
    have kg9 : Bk w9 g 73 qc := Bk.grown (KG2.out.below HB5.out) gr9 (fun q hq => by have hq2 : ce = q := (by injection hq); have := KG2.out.lt; have := HCE.out; omega)
    have ko9 : Bk w9 ob 108 #[.slice va L.length vc] := Bk.grown (KO2.out.below HB5.out) gr9 (fun q hq => by have hq2 : ce = q := (by injection hq); have := KO2.out.lt; have := HCE.out; omega)
    have hb9 : Below w2.heap.size w2 w9 := HB5.out.grown gr9 HB5.out.size (fun q hq => by have hq2 : ce = q := (by injection hq); have := HCE.out; omega)
    have cd9 : w9.cell? ⟨g9, 0, none⟩ = some (.slice va c vc) := by
      have := World.ownsRow.cells o9 (g := g9) rfl 0 (.slice va c vc) (by simp)
      rw [Addr.add_lit] at this
      exact this
    have HB9 := Lib.hid hb9
    have KG9 := Lib.hid kg9
    have KO9 := Lib.hid ko9
    have HCD := Lib.hid cd9
    refine hK'.out _ _ ?_ (fun hSn => ?_)
    · exact ⟨(kg9.cell 3).trans HQ3.out, ko9.cell 0⟩
    clear hK' K' hS kg9 ko9 hb9 cd9 o9 gr9 at9 lt9
    have hS := hSn
    clear hSn
    try simp only [Act.put, pu]
    refine tkY 16 ?_ rfl hS ?_ ?_
    rotate_left
    · intro wz hz
      obtain ⟨z0, z1⟩ := hz
      go_simp
      all_goals first | with_reducible rfl | omega
    try simp only [Act.put, pu]
    refine wpAnyH_done (by kernel_rfl) ?_ _
    clear hS c3 c0 HX5 HVB HB5 HCE
    have z1 : 0 + 1 = 1 := rfl
    try rw [z1]
    go_wp2_with fail
    refine (okeys_any w9 g9 cap9 (.slice va c vc) (L.take c) HCD.out (HRE.out w9 HB9.out) (by rw [List.length_take]; have := HL.out; omega)).mono ?_
    rintro e w10 ⟨u, rfl, ou, hb10⟩
    rw [HT.out, HDK.out] at ou
    have HOU := Lib.hid ou
    have HBA := Lib.hid (HB9.out.trans (hb10.mono HB9.out.size))
    have HWT : Hid (w2.heap.size ≤ w9.heap.size) := Lib.hid HB9.out.size
    have KGA := Lib.hid (KG9.out.below hb10)
    have KOA := Lib.hid (KO9.out.below hb10)
    have HVA := Lib.hid (HV2.out.below HBA.out)
    have c3 : w10.cell? ⟨g, 3, none⟩ = some (.slice (some ⟨ob, 0, none⟩) 1 1) := (KGA.out.cell 3).trans HQ3.out
    have c0 : w10.cell? ⟨ob, 0, none⟩ = some (.slice va L.length vc) := KOA.out.cell 0
    clear ou hb10 KG9 KO9 HCD HB9
    go_wp2_with fail
    refine wp_region_held_drew (S := (fun w' => w'.cell? ⟨g, 3, none⟩ = some (.slice (some ⟨ob, 0, none⟩) 1 1))) (by kernel_rfl) ?_ (fun hS => ?_)
    · exact c3
    refine tkY 0 ?_ rfl hS ?_ ?_
    rotate_left
    · intro wz hz
      go_simp
      all_goals first | with_reducible rfl | omega
    try simp only [Act.put, pu]
    refine tkY 1 ?_ rfl hS ?_ ?_
    rotate_left
    · intro wz hz
      go_simp
      all_goals first | with_reducible rfl | omega
    try simp only [Act.put, pu]
    refine tkY 2 ?_ rfl hS ?_ ?_
    rotate_left
    · intro wz hz
      go_simp
      all_goals first | with_reducible rfl | omega
    try simp only [Act.put, pu]
    refine tkY 3 ?_ rfl hS ?_ ?_
    rotate_left
    · intro wz hz
      go_simp
      all_goals first | with_reducible rfl | omega
    try simp only [Act.put, pu]
    refine tkY 4 ?_ rfl hS ?_ ?_
    rotate_left
    · intro wz hz
      go_simp
      all_goals first | with_reducible rfl | omega
    try simp only [Act.put, pu]
    refine tkY 5 ?_ rfl hS ?_ ?_
    rotate_left
    · intro wz hz
      go_simp
      all_goals first | with_reducible rfl | omega
    try simp only [Act.put, pu]
    refine tkY 6 ?_ rfl hS ?_ ?_
    rotate_left
    · intro wz hz
      go_simp
      all_goals first | with_reducible rfl | omega
    try simp only [Act.put, pu]
    refine tkY 7 ?_ rfl hS ?_ ?_
    rotate_left
    · intro wz hz
      go_simp
      all_goals first | with_reducible rfl | omega
    try simp only [Act.put, pu]
    refine tkY 8 ?_ rfl hS ?_ ?_
    rotate_left
    · intro wz hz
      go_simp
      all_goals first | with_reducible rfl | omega
    try simp only [Act.put, pu]
    refine tkY 10 ?_ rfl hS ?_ ?_
    rotate_left
    · intro wz hz
      go_simp
      all_goals first | with_reducible rfl | omega
    try simp only [Act.put, pu]
    refine wpAnyH_ready (rs := [9]) (by kernel_rfl) (by simp) (AllReadyH.cons rfl (fun K' hK' => ?_) AllReadyH.nil)
    go_simp
    refine hK'.out _ _ ?_ (fun hSn => ?_)
    · exact c3
    clear hK' K' hS
    have hS := hSn
    clear hSn
    try simp only [Act.put, pu]
    refine wpAnyH_ready (rs := [11]) (by kernel_rfl) (by simp) (AllReadyH.cons rfl (fun K' hK' => ?_) AllReadyH.nil)
    go_simp
    have hbd : Below w10.heap.size w10 w10.drew := (Below.refl _ _).drew
    refine (edelete_any B (.slice va L.length vc) L 0 c w10.drew (HVA.out.below hbd) (Nat.zero_le _) HC.out (by have := HL.out; omega)).mono ?_
    rintro e w11 ⟨a5, c5, rfl, he5, hg5, ho5⟩
    rw [List.take_zero, List.nil_append, HD.out] at he5 ho5
    rw [List.take_zero, List.nil_append, HD.out]
    have kg5 := Bk.grown (KGA.out.below hbd) hg5 (fun q hq => (HVA.out.below hbd).off (KGA.out.below hbd) ty_qe q hq)
    have ko5 := Bk.grown (KOA.out.below hbd) hg5 (fun q hq => (HVA.out.below hbd).off (KOA.out.below hbd) ty_oe q hq)
    have ou5 := OT.grown' (OT.below' HOU.out hbd) hg5 (fun q hq => (HVA.out.offT HOU.out) q hq)
    have hSC := (kg5.cell 3).trans HQ3.out
    have f0 := ko5.frozen 0
    have s0 : w11.cell? ⟨ob, 0, none⟩ = some (.slice va L.length vc) := ko5.cell 0
    have KG5 := Lib.hid kg5
    have KO5 := Lib.hid ko5
    have OU5 := Lib.hid ou5
    have HE5 := Lib.hid he5
    have HG5 := Lib.hid hg5
    have HO5 := Lib.hid ho5
    clear kg5 ko5 he5 hg5 ho5 ou5
    refine hK'.out _ _ ?_ (fun hSn => ?_)
    · exact hSC
    clear hK' K' hS
    have hS := hSn
    clear hSn
    try simp only [Act.put, pu]
    refine tkY 12 ?_ rfl hS ?_ ?_
    rotate_left
    · intro wz hz
      go_simp
      all_goals first | with_reducible rfl | omega
    try simp only [Act.put, pu]
    refine wpAnyH_ready (rs := [13]) (by kernel_rfl) (by simp) (AllReadyH.cons rfl (fun K' hK' => ?_) AllReadyH.nil)
    go_simp
    refine hK'.out _ _ ?_ (fun hSn => ?_)
    · exact (KG5.out.far (p := ⟨ob, 0, none⟩) (KG5.out.ne_ KO5.out ty_qo) _).cell 3 |>.trans HQ3.out
    clear hK' K' hS
    have hS := hSn
    clear hSn
    refine wpAnyH_done (by kernel_rfl) ?_ _
    clear hS
    have hko := KO5.out.set_ 0 (.slice a5 R.length c5)
    have hkg := KG5.out.far (p := ⟨ob, 0, none⟩) (KG5.out.ne_ KO5.out ty_qo) (.slice a5 R.length c5)
    have hEE : EQ B (w11.setCell ⟨ob, 0, none⟩ (.slice a5 R.length c5)) (.slice a5 R.length c5) R := HE5.out.keep fun q hq => Below.heap_setCell _ _ _ _ (fun e => (HE5.out.off KO5.out ty_oe q hq) e.symm)
    have hou : OT w9.heap.size (w11.setCell ⟨ob, 0, none⟩ (.slice a5 R.length c5)) u D := OU5.out.keep fun q hq => Below.heap_setCell _ _ _ _ (fun e => (OT.offB OU5.out KO5.out (by decide)) q hq e.symm)
    have h1 : Chg (fun b => b = g ∨ b = ob ∨ (Value.slice va L.length vc).ownBlock = some b) w w11 := ((Chg.of_below (S := fun b => b = g ∨ b = ob ∨ (Value.slice va L.length vc).ownBlock = some b) HB2.out).trans (Chg.of_below HBA.out)).grown (w1 := w10) ⟨HG5.out.os, HG5.out.tape, HG5.out.output, HG5.out.size, HG5.out.block⟩ (fun k hk _ => .inr (.inr hk))
    have hch := h1.setCell (p := ⟨ob, 0, none⟩) (.inr (.inl rfl)) (.slice a5 R.length c5)
    obtain ⟨w6, hw6⟩ : ∃ w6, w11.setCell ⟨ob, 0, none⟩ (.slice a5 R.length c5) = w6 := ⟨_, rfl⟩
    rw [hw6] at hko hkg hEE hch hou
    rw [hw6]
    have KO6 : Hid (Bk w6 ob 108 #[.slice a5 R.length c5]) := Lib.hid hko
    have KG6 := Lib.hid hkg
    have y3 : w6.cell? ⟨g, 3, none⟩ = some (.slice (some ⟨ob, 0, none⟩) 1 1) := (hkg.cell 3).trans HQ3.out
    have g3 := hkg.frozen 3
    have HEE := Lib.hid hEE
    have HCH := Lib.hid hch
    have OU6 := Lib.hid hou
    clear hko hkg hEE hch h1 hw6 c3 c0 f0 s0 hou
    go_wp2_with fail
    refine (odel_any _ ob).mono ?_
    rintro e w' ⟨rfl, rfl⟩
    go_wp2
    go_ret
    have hset : qc.setIfInBounds 3 (.slice (some ⟨ob, 0, none⟩) 1 1) = qc := by
      apply Array.ext_getElem?
      intro i
      rw [Array.getElem?_setIfInBounds]
      split
      · rename_i h3
        subst h3
        split
        · exact HQ3.out.symm
        · rw [Array.getElem?_eq_none (by omega)]
      · rfl
    have hkg7 := KG6.out.set_ 3 (.slice (some ⟨ob, 0, none⟩) 1 1)
    rw [hset] at hkg7
    refine ⟨u, rfl, ?_, a5, c5, hkg7, KO6.out.far (p := ⟨g, 3, none⟩) (fun e => (KG6.out.ne_ KO6.out ty_qo) e.symm) _, ?_, HCH.out.setCell (p := ⟨g, 3, none⟩) (.inl rfl) _, HO5.out⟩
    · exact OT.mono (OU6.out.keep fun q hq => Below.heap_setCell _ _ _ _ (fun e => (OT.offB OU6.out KG6.out (by decide)) q hq e.symm)) (Nat.le_trans HB2.out.size HWT.out)
    · exact HEE.out.keep fun q hq => Below.heap_setCell _ _ _ _ (fun e => (HEE.out.off KG6.out ty_qe q hq) e.symm)
end Go.Proofs.Ytfilmbeoggmglaa.EX
