/- Package expiry: an entry let out of its order. Conditions: how many.
   Package expiry's order: its keys; a row of entries copied. Conditions: how many.
   Package expiry's order: a row of entries copied; an order copied. Conditions: how many.
   Package expiry: what is due goes out of its order. Conditions: how many.
   Package expiry's map of entries; what a queue is. Conditions: how long keys are.
   Package cache: Size, Parse. Conditions: how long the parts, and the text, are. -/
import Derived.Test.YtjngangojgjceaaGreatG10
import Derived.Test.YtjngangojgjceaaGreatG7
set_option linter.unusedSimpArgs false
set_option linter.unusedVariables false
namespace Go.Proofs.YtjngangojgjceaaGreat.EX
open Go.ChangeShapes Go.WideShapes Go.ChangeAt Go.RowKit
open Go.Proofs.YtjngangojgjceaaGreat.SL Go.Proofs.YtjngangojgjceaaGreat.RW
set_option maxRecDepth 100000
set_option linter.unusedVariables false
set_option linter.unusedSimpArgs false

def behB (x y : Et) : Bool := decide (x.2.1 < y.2.1) || (decide (y.2.1 = x.2.1) && decide (x.2.2 ≤ y.2.2))
theorem beh_iff (x y : Et) : behB x y = true ↔ x.2.1 < y.2.1 ∨ (y.2.1 = x.2.1 ∧ x.2.2 ≤ y.2.2) := by unfold behB; simp
theorem mono_beh {n : Int} {L : List Et} (h : Srt n L) (x : Et) : L.Pairwise fun a b => behB x a = true → behB x b = true := h.ord.imp fun {a b} hab ha => by
  rw [beh_iff] at ha ⊢
  unfold ltE at hab
  omega
/-- what stands ahead of an entry that is there, and behind it -/
theorem beh_cut {n : Int} {A C : List Et} {x : Et} (h : Srt n (A ++ x :: C)) : (A ++ x :: C).filter (fun y => !behB x y) = A ∧ (A ++ x :: C).filter (behB x) = x :: C := by
  obtain ⟨_, h1, h2⟩ := h.out
  have ha : ∀ a ∈ A, behB x a = false := fun a ha => by
    have := h1 a ha
    cases hb : behB x a with
    | false => rfl
    | true =>
      rw [beh_iff] at hb
      unfold ltE at this
      omega
  have hx : behB x x = true := by rw [beh_iff]; exact .inr ⟨rfl, Int.le_refl _⟩
  have hc : ∀ c ∈ C, behB x c = true := fun c hc => by
    have := h2 c hc
    rw [beh_iff]
    unfold ltE at this
    omega
  refine ⟨?_, ?_⟩
  · rw [List.filter_append, List.filter_cons, hx]
    rw [List.filter_eq_self.2 (fun a h => by rw [ha a h]; rfl), List.filter_eq_nil_iff.2 (fun c h => by rw [hc c h]; simp)]
    simp
  · rw [List.filter_append, List.filter_cons, hx, List.filter_eq_nil_iff.2 (fun a h => by rw [ha a h]; simp), List.filter_eq_self.2 hc]
    simp
set_option maxHeartbeats 8000000 in
theorem remove_any (w : World) (B g ob : Nat) (v : Value) (A C : List Et) (n : Int) (x : Et) (qc : Array Value) (hg : Bk w g 129 qc) (hq : qc[3]? = some (.slice (some ⟨ob, 0, none⟩) 1 1)) (ho : Bk w ob 168 #[v]) (hv : EQ B w v (A ++ x :: C)) (hs : Srt n (A ++ x :: C)) (hl : (A ++ x :: C).length ≤ 500) (hB : B ≤ w.heap.size) :
    Calls Tryz.prog 91 #[.pointer (some ⟨g, 3, none⟩), eV x] w (OrdP B ob v (A ++ C) w) := by
  obtain ⟨f1, f2⟩ := beh_cut hs
  obtain ⟨R, hR⟩ : ∃ R, A ++ C = R := ⟨_, rfl⟩
  obtain ⟨L, hL⟩ : ∃ L, A ++ x :: C = L := ⟨_, rfl⟩
  have hdd : ∀ c, L.take c = A → L.drop c = x :: C → L.take c ++ L.drop (c + 1) = R := fun c h1 h2 => by rw [h1, ← hR, show c + 1 = c + 1 from rfl, ← List.drop_drop, h2]; rfl
  rw [hL] at hv hs hl f1 f2
  rw [hR]
  have HF1 := Lib.hid f1
  have HF2 := Lib.hid f2
  have HDD := Lib.hid hdd
  have HS := Lib.hid hs
  have HL := Lib.hid hl
  obtain ⟨xb, hxb⟩ : ∃ b, w.heap.size = b := ⟨_, rfl⟩
  obtain ⟨W1, hW1⟩ : ∃ W, w.alloc (.cells #[.string x.1, .int .i64 x.2.1, .int .i64 x.2.2] 131) = W := ⟨_, rfl⟩
  have hb1 : Below w.heap.size w W1 := by rw [← hW1]; exact (Below.refl _ _).alloc (Nat.le_refl _) _
  have kx : Bk W1 xb 131 #[.string x.1, .int .i64 x.2.1, .int .i64 x.2.2] := by rw [← hW1, ← hxb]; exact Bk.new _ _ _
  have HB1 := Lib.hid hb1
  have KX := Lib.hid kx
  have KG := Lib.hid (hg.below hb1)
  have KO := Lib.hid (ho.below hb1)
  have HV := Lib.hid (hv.below hb1)
  have HB0 : Hid (B ≤ W1.heap.size) := Lib.hid (Nat.le_trans hB hb1.size)
  have q3 : W1.cell? ⟨g, 3, none⟩ = some (.slice (some ⟨ob, 0, none⟩) 1 1) := ((hg.below hb1).cell 3).trans hq
  have henter : ∀ args W, (callFunc 115 args).run Tryz.prog W = .ok (.enter 115 args) W := fun args W => by show Sem.run Tryz.prog (callFunc 115 args) W = _; go_simp
  have HE := Lib.hid henter
  have HNB : Hid (∀ q, v.ownBlock = some q → q < xb) := Lib.hid fun q hq => by have := (hv.lt q hq).2; omega
  have HQ3 := Lib.hid hq
  clear hs hl hb1 kx hg ho hv hB henter hq f1 f2 hdd hR hL
  go_enter Tryz.func91, Tryz.ntmps91
  go_wp2_with fail
  try rw [hxb]
  refine (first_any W1 B ob _ #[ptr xb] v L (behB x) KO.out HV.out ⟨HE.out, fun W hb e _ => remc_any W xb x e (KX.out.below hb) _ rfl⟩ (mono_beh HS.out x) (by have := HL.out; omega)).mono ?_
  rintro e w2 ⟨c, rfl, hc, ht, hd, hb2⟩
  rw [HF1.out] at ht
  rw [HF2.out] at hd
  have hdd := HDD.out c ht hd
  have hcl : c < L.length := by
    have h1 := congrArg List.length hd
    rw [List.length_drop, List.length_cons] at h1
    omega
  obtain ⟨c1, hc1⟩ : ∃ c1, c + 1 = c1 := ⟨_, rfl⟩
  rw [hc1] at hdd
  have wk : IntKind.i64.wrap ((c : Int) + 1) = (c1 : Int) := by rw [show (c : Int) + 1 = (c1 : Int) by omega]; exact IntWalk.i64_in _ (by have := HL.out; omega)
  have HD := Lib.hid hdd
  have HC : Hid (c ≤ c1 ∧ c1 ≤ L.length) := Lib.hid (by omega)
  have HB2 := Lib.hid (HB1.out.trans (hb2.mono HB1.out.size))
  have KG2 := Lib.hid (KG.out.below hb2)
  have KO2 := Lib.hid (KO.out.below hb2)
  have HV2 := Lib.hid (HV.out.below hb2)
  have c3 : w2.cell? ⟨g, 3, none⟩ = some (.slice (some ⟨ob, 0, none⟩) 1 1) := (KG2.out.cell 3).trans HQ3.out
  have c0 : w2.cell? ⟨ob, 0, none⟩ = some v := KO2.out.cell 0
  clear ht hd hc hb2 q3 KX KG KO HV HB0 HB1 hxb hW1 hdd hcl hc1 HF1 HF2 HDD
  go_wp2_with fail
  refine wp_region_held_drew (S := (fun w' => w'.cell? ⟨g, 3, none⟩ = some (.slice (some ⟨ob, 0, none⟩) 1 1))) (by kernel_rfl) ?_ (fun hS => ?_)
  · exact c3
  refine tkY 0 ?_ rfl hS ?_ ?_
  rotate_left
  · intro wz hz
    go_simp
    all_goals first | with_reducible rfl | omega
  try simp only [Act.put, pu]
  refine tkY 1 ?_ rfl hS ?_ ?_
  rotate_left
  · intro wz hz
    go_simp
    all_goals first | with_reducible rfl | omega
  try simp only [Act.put, pu]
  refine tkY 2 ?_ rfl hS ?_ ?_
  rotate_left
  · intro wz hz
    go_simp
    all_goals first | with_reducible rfl | omega
  try simp only [Act.put, pu]
  refine tkY 3 ?_ rfl hS ?_ ?_
  rotate_left
  · intro wz hz
    go_simp
    all_goals first | with_reducible rfl | omega
  try simp only [Act.put, pu]
  refine tkY 4 ?_ rfl hS ?_ ?_
  rotate_left
  · intro wz hz
    go_simp
    all_goals first | with_reducible rfl | omega
  try simp only [Act.put, pu]
  refine tkY 5 ?_ rfl hS ?_ ?_
  rotate_left
  · intro wz hz
    go_simp
    all_goals first | with_reducible rfl | omega
  try simp only [Act.put, pu]
  refine tkY 6 ?_ rfl hS ?_ ?_
  rotate_left
  · intro wz hz
    go_simp
    all_goals first | with_reducible rfl | omega
  try simp only [Act.put, pu]
  refine tkY 7 ?_ rfl hS ?_ ?_
  rotate_left
  · intro wz hz
    go_simp
    all_goals first | with_reducible rfl | omega
  try simp only [Act.put, pu]
  refine tkY 8 ?_ rfl hS ?_ ?_
  rotate_left
  · intro wz hz
    go_simp
    all_goals first | with_reducible rfl | omega
  try simp only [Act.put, pu]
  refine tkY 10 ?_ rfl hS ?_ ?_
  rotate_left
  · intro wz hz
    go_simp
    all_goals first | with_reducible rfl | omega
  try simp only [Act.put, pu]
  refine tkY 11 ?_ rfl hS ?_ ?_
  rotate_left
  · intro wz hz
    go_simp
    all_goals first | with_reducible rfl | omega
  try simp only [Act.put, pu]
  refine tkY 12 ?_ rfl hS ?_ ?_
  rotate_left
  · intro wz hz
    go_simp
    all_goals first | with_reducible rfl | omega
  try simp only [Act.put, pu]
  refine wpAnyH_ready (rs := [9]) (by kernel_rfl) (by simp) (AllReadyH.cons rfl (fun K' hK' => ?_) AllReadyH.nil)
  go_simp
  refine hK'.out _ _ ?_ (fun hSn => ?_)
  · exact c3
  clear hK' K' hS
  have hS := hSn
  clear hSn
  try simp only [Act.put, pu]
  refine wpAnyH_ready (rs := [13]) (by kernel_rfl) (by simp) (AllReadyH.cons rfl (fun K' hK' => ?_) AllReadyH.nil)
  go_simp
  have hbd : Below w2.heap.size w2 w2.drew := (Below.refl _ _).drew
  refine (edelete_any B v L c c1 w2.drew (HV2.out.below hbd) HC.out.1 HC.out.2 (by have := HL.out; omega)).mono ?_
  rintro e w5 ⟨a5, c5, rfl, he5, hg5, ho5⟩
  rw [HD.out] at he5 ho5
  rw [HD.out]
  have kg5 := Bk.grown (KG2.out.below hbd) hg5 (fun q hq => (HV2.out.below hbd).off (KG2.out.below hbd) ty_qe q hq)
  have ko5 := Bk.grown (KO2.out.below hbd) hg5 (fun q hq => (HV2.out.below hbd).off (KO2.out.below hbd) ty_oe q hq)
  have hSC := (kg5.cell 3).trans HQ3.out
  have f0 := ko5.frozen 0
  have s0 : w5.cell? ⟨ob, 0, none⟩ = some v := ko5.cell 0
  have KG5 := Lib.hid kg5
  have KO5 := Lib.hid ko5
  have HE5 := Lib.hid he5
  have HG5 := Lib.hid hg5
  have HO5 := Lib.hid ho5
  clear kg5 ko5 he5 hg5 ho5
  refine hK'.out _ _ ?_ (fun hSn => ?_)
  · exact hSC
  clear hK' K' hS
  have hS := hSn
  clear hSn
  try simp only [Act.put, pu]
  refine tkY 14 ?_ rfl hS ?_ ?_
  rotate_left
  · intro wz hz
    go_simp
    all_goals first | with_reducible rfl | omega
  try simp only [Act.put, pu]
  refine wpAnyH_ready (rs := [15]) (by kernel_rfl) (by simp) (AllReadyH.cons rfl (fun K' hK' => ?_) AllReadyH.nil)
  go_simp
  refine hK'.out _ _ ?_ (fun hSn => ?_)
  · exact (KG5.out.far (p := ⟨ob, 0, none⟩) (KG5.out.ne_ KO5.out ty_qo) _).cell 3 |>.trans HQ3.out
  clear hK' K' hS
  have hS := hSn
  clear hSn
  refine wpAnyH_done (by kernel_rfl) ?_ _
  clear hS
  have hko := KO5.out.set_ 0 (.slice a5 R.length c5)
  have hkg := KG5.out.far (p := ⟨ob, 0, none⟩) (KG5.out.ne_ KO5.out ty_qo) (.slice a5 R.length c5)
  have hEE : EQ B (w5.setCell ⟨ob, 0, none⟩ (.slice a5 R.length c5)) (.slice a5 R.length c5) R := HE5.out.keep fun q hq => Below.heap_setCell _ _ _ _ (fun e => (HE5.out.off KO5.out ty_oe q hq) e.symm)
  have h1 : Chg (fun b => b = ob ∨ v.ownBlock = some b) w w5 := (Chg.of_below (S := fun b => b = ob ∨ v.ownBlock = some b) HB2.out).grown (w1 := w2) ⟨HG5.out.os, HG5.out.tape, HG5.out.output, HG5.out.size, HG5.out.block⟩ (fun k hk _ => .inr hk)
  have hch := h1.setCell (p := ⟨ob, 0, none⟩) (.inl rfl) (.slice a5 R.length c5)
  obtain ⟨w6, hw6⟩ : ∃ w6, w5.setCell ⟨ob, 0, none⟩ (.slice a5 R.length c5) = w6 := ⟨_, rfl⟩
  rw [hw6] at hko hkg hEE hch
  rw [hw6]
  have KO6 : Hid (Bk w6 ob 168 #[.slice a5 R.length c5]) := Lib.hid hko
  have y3 : w6.cell? ⟨g, 3, none⟩ = some (.slice (some ⟨ob, 0, none⟩) 1 1) := (hkg.cell 3).trans HQ3.out
  have y0 : w6.cell? ⟨ob, 0, none⟩ = some (.slice a5 R.length c5) := KO6.out.cell 0
  have HEE := Lib.hid hEE
  have HCH := Lib.hid hch
  clear hko hkg hEE hch h1 hw6 c3 c0 f0 s0
  by_cases hz : R.length = 0
  · have z1 : ((R.length : Int) == 0) = true := by rw [hz]; rfl
    have z2 : (R.length : Int) = 0 := by omega
    clear hz
    go_wp2
    refine bodyPost_ret (v := .tuple #[]) (by simp [results, Tryz.results91, go_sem]) rfl ⟨rfl, a5, c5, KO6.out, HEE.out, HCH.out, fun q hq => .inl (HO5.out q hq)⟩
  · have z1 : ((R.length : Int) == 0) = false := beq_eq_false_iff_ne.2 (by omega)
    have z2 : ¬ ((R.length : Int) = 0) := by omega
    clear hz
    go_wp2
    refine bodyPost_ret (v := .tuple #[]) (by simp [results, Tryz.results91, go_sem]) rfl ⟨rfl, a5, c5, KO6.out, HEE.out, HCH.out, fun q hq => .inl (HO5.out q hq)⟩
end Go.Proofs.YtjngangojgjceaaGreat.EX
namespace Go.Proofs.YtjngangojgjceaaGreat.EX
open Go.ChangeShapes Go.WideShapes Go.ChangeAt Go.RowKit
open Go.Proofs.YtjngangojgjceaaGreat.SL Go.Proofs.YtjngangojgjceaaGreat.RW
set_option maxRecDepth 100000
set_option linter.unusedVariables false
set_option linter.unusedSimpArgs false

/-- v reads as these entries -/
def RE (w : World) (v : Value) (l : List Et) : Prop :=
  (∃ a c, v = .slice a 0 c ∧ l = []) ∨ ∃ g cap, v = .slice (some ⟨g, 0, none⟩) l.length cap ∧ ∀ (i : Nat) (e : Et), l[i]? = some e → w.cell? ⟨g, i * 3, none⟩ = some (.string e.1) ∧ w.cell? ⟨g, i * 3 + 1, none⟩ = some (.int .i64 e.2.1) ∧ w.cell? ⟨g, i * 3 + 2, none⟩ = some (.int .i64 e.2.2)
theorem EQ.re {B : Nat} {w : World} {v : Value} {l : List Et} (h : EQ B w v l) : RE w v l := by
  rcases h.inv with ⟨rfl, rfl⟩ | ⟨g, cap, rfl, _⟩
  · exact .inl ⟨none, 0, rfl, rfl⟩
  · exact .inr ⟨g, cap, rfl, fun i e hi => h.cells i e hi⟩
theorem EQ.re_take {B g n cap : Nat} {w : World} {l : List Et} (h : EQ B w (.slice (some ⟨g, 0, none⟩) n cap) l) (c : Nat) (hc : c ≤ l.length) : RE w (.slice (some ⟨g, 0, none⟩) c cap) (l.take c) :=
  .inr ⟨g, cap, by rw [List.length_take, Nat.min_eq_left hc], fun i e hi => h.cells i e (by rw [List.getElem?_take] at hi; split at hi; exact hi; cases hi)⟩
theorem RE.below {w w' : World} {v : Value} {l : List Et} (h : RE w v l) (hb : Below w.heap.size w w') : RE w' v l := by
  rcases h with h | ⟨g, cap, h1, h2⟩
  · exact .inl h
  · refine .inr ⟨g, cap, h1, fun i e hi => ?_⟩
    obtain ⟨a, b, c⟩ := h2 i e hi
    have hg := World.block_lt_of_cell? _ _ a
    exact ⟨(hb.cell (p := ⟨g, i * 3, none⟩) hg).trans a, (hb.cell (p := ⟨g, i * 3 + 1, none⟩) hg).trans b, (hb.cell (p := ⟨g, i * 3 + 2, none⟩) hg).trans c⟩
theorem RE.form {w : World} {v : Value} {l : List Et} (h : RE w v l) : ∃ a c, v = .slice a l.length c := by
  rcases h with ⟨a, c, rfl, rfl⟩ | ⟨g, cap, rfl, _⟩
  · exact ⟨_, _, rfl⟩
  · exact ⟨_, _, rfl⟩
theorem RE.inv {w : World} {v : Value} {l : List Et} (h : RE w v l) (hp : 0 < l.length) : ∃ g cap, v = .slice (some ⟨g, 0, none⟩) l.length cap ∧ ∀ (i : Nat) (e : Et), l[i]? = some e → w.cell? ⟨g, i * 3, none⟩ = some (.string e.1) ∧ w.cell? ⟨g, i * 3 + 1, none⟩ = some (.int .i64 e.2.1) ∧ w.cell? ⟨g, i * 3 + 2, none⟩ = some (.int .i64 e.2.2) := by
  rcases h with ⟨_, _, _, rfl⟩ | h
  · simp at hp
  · exact h
def keysT (l : List Et) : List ByteArray := l.map (·.1)
def KeyP (d : List ByteArray) (w : World) (e : Ending) (w' : World) : Prop := ∃ u, e = .returned u ∧ OT w.heap.size w' u d ∧ Below w.heap.size w w'
set_option maxHeartbeats 4000000 in
theorem okeys_any (w : World) (ob cap : Nat) (v : Value) (l : List Et) (h : w.cell? ⟨ob, 0, none⟩ = some v) (hv : RE w v l) (hl : l.length ≤ 1000000) :
    Calls Tryz.prog 119 #[.slice (some ⟨ob, 0, none⟩) 1 cap] w (KeyP (keysT l) w) := by
  have HV := Lib.hid hv
  have HL := Lib.hid hl
  obtain ⟨va, vc, rfl⟩ := hv.form
  have HC := Lib.hid h
  have HOB := Lib.hid (World.block_lt_of_cell? _ _ h)
  clear hv hl h
  go_enter Tryz.func119, Tryz.ntmps119
  go_wp2
  go_loopg [3, 10] 1 (fun gk u3 u10 wx => ∃ i : Nat, u10 = .int .i64 (i : Int) ∧ i + gk = 1 ∧ OT w.heap.size wx u3 (if i = 0 then [] else keysT l) ∧ Below w.heap.size w wx)
  case atStart => exact ⟨0, rfl, rfl, OT.nil _ _, Below.refl _ _⟩
  case round =>
    obtain ⟨i, rfl, hi, hot, hbel⟩ := hrel
    have HOT := Lib.hid hot
    have HBE := Lib.hid hbel
    cases gk with
    | zero =>
      have hi1 : i = 1 := by omega
      subst hi1
      have HFIN : Hid (KeyP (keysT l) w (.returned u3) wr) := Lib.hid ⟨u3, rfl, by simpa using hot, hbel⟩
      clear hot hbel hi
      go_wp2
      go_ret
      exact HFIN.out
    | succ gk1 =>
      have hi0 : i = 0 := by omega
      subst hi0
      have hg1 : gk1 = 0 := by omega
      subst hg1
      have c0 := (hbel.cell (p := ⟨ob, 0, none⟩) HOB.out).trans HC.out
      have HOT0 : Hid (OT w.heap.size wr u3 []) := Lib.hid (by simpa using hot)
      clear hot hbel hi HOT
      go_wp2
      go_loopg [3, 16] l.length (fun gk u3 u16 wx => ∃ j : Nat, u16 = .int .i64 (j : Int) ∧ j + gk = l.length ∧ OT w.heap.size wx u3 (keysT (l.take j)) ∧ Below w.heap.size w wx)
      case atStart => exact ⟨0, rfl, by omega, HOT0.out, HBE.out⟩
      case round =>
        obtain ⟨j, rfl, hj, hot, hbel⟩ := hrel
        have HOT := Lib.hid hot
        have HB := Lib.hid hbel
        cases gk with
        | zero =>
          have hjl : j = l.length := by omega
          have HFIN : Hid (OT w.heap.size wr u3 (if 0 + 1 = 0 then [] else keysT l)) := Lib.hid (by rw [hjl, List.take_of_length_le (Nat.le_refl _)] at hot; simpa using hot)
          have l1 : ¬ ((j : Int) < (l.length : Int)) := by omega
          clear hot hbel hj hjl
          go_wp2
          go_roundg 0
          case measure => exact Nat.lt_succ_self _
          case rel => exact ⟨0 + 1, rfl, rfl, HFIN.out, HB.out⟩
        | succ gko =>
          have hlt : j < l.length := by omega
          obtain ⟨g, cp, he, hx⟩ := (HV.out.below hbel).inv (by omega)
          injection he with e1 _ e2
          subst e1 e2
          obtain ⟨e, he⟩ : ∃ e, l[j] = e := ⟨_, rfl⟩
          have hje : l[j]? = some e := by rw [List.getElem?_eq_getElem hlt, he]
          obtain ⟨x0, x1, x2⟩ := hx j e hje
          have l0 : (0 : Int) ≤ (j : Int) := by omega
          have l1 : (j : Int) < (l.length : Int) := by omega
          obtain ⟨j1, hj1⟩ : ∃ j1, j + 1 = j1 := ⟨_, rfl⟩
          have wk : IntKind.i64.wrap ((j : Int) + 1) = (j1 : Int) := by rw [show (j : Int) + 1 = (j1 : Int) by omega]; exact IntWalk.i64_in _ (by have := HL.out; omega)
          have HJ : Hid (j1 + gko = l.length) := Lib.hid (by omega)
          have HK : Hid (keysT (l.take j1) = keysT (l.take j) ++ [e.1]) := Lib.hid (by rw [← hj1, List.take_add_one, hje]; unfold keysT; simp)
          have HJL : Hid (j ≤ l.length) := Lib.hid (by omega)
          have HWS : Hid (w.heap.size ≤ wr.heap.size) := Lib.hid hbel.size
          clear hot hbel hj hlt hx he hje hj1
          obtain ⟨ek, ea, es⟩ := e
          simp only at x0 x1 x2 HK
          go_wp2_with (at_builtin; refine wpList_app_text w.heap.size u3 (keysT (l.take j)) ek (wr.heap.size + 1) rfl _ _ rfl rfl (HOT.out.below (((Below.refl _ _).alloc (Nat.le_refl _) _).alloc (by simp) _)) rfl (Bk.new1 _ _ _ _) (by have := HL.out; have := HJL.out; unfold keysT; rw [List.length_map, List.length_take]; omega) (by have := HWS.out; simp; omega) ?_; intro g9 cap9 w9 o9 gr9)
          have hbl9 : Below w.heap.size w w9 := ((HB.out.alloc HWS.out _).alloc (by have := HWS.out; simp; omega) _).grown gr9 (by have := HWS.out; simp; omega) (fun k hk => (World.ownsRow.lt HOT.out k hk).1)
          have ho9 : OT w.heap.size w9 (.slice (some ⟨g9, 0, none⟩) ((keysT (l.take j)).length + 1) cap9) (keysT (l.take j1)) := by rw [HK.out]; exact o9
          have HO9 := Lib.hid ho9
          have HB9 := Lib.hid hbl9
          clear o9 gr9 hbl9 ho9
          go_wp2
          go_roundg gko
          case measure => exact Nat.lt_succ_self _
          case rel => exact ⟨j1, rfl, HJ.out, HO9.out, HB9.out⟩
end Go.Proofs.YtjngangojgjceaaGreat.EX
namespace Go.Proofs.YtjngangojgjceaaGreat.EX
open Go.ChangeShapes Go.WideShapes Go.ChangeAt Go.RowKit
open Go.Proofs.YtjngangojgjceaaGreat.SL Go.Proofs.YtjngangojgjceaaGreat.RW
set_option maxRecDepth 100000
set_option linter.unusedVariables false
set_option linter.unusedSimpArgs false

theorem wpList_app_non {P : Program} {w : World} {ops : Array Oper} {rest : List Oper} {o : Oper} {a : Act} {Q : Exit → Act → World → Prop} (hgd : o.guard = none) (s x : Operand) (t : TypeId)
    (ho : o.op = .call { callee := .builtin .append, args := #[s, x], argTypes := #[t, t] })
    (base : Nat) (e : TypeId) (i : TypeInfo) (size : Nat) (ht : P.underlying t = some (.slice e)) (hi : P.info? e = some i)
    (v : Value) (n : Nat) (xs : List Value) (hs : a.eval s = v) (hown : w.ownsRow base e size v n xs) (p : Option Addr) (c : Nat) (hx : a.eval x = .slice p 0 c)
    (h : wpList P ops Q rest (a.put o.dst v) w) : wpList P ops Q (o :: rest) a w := by
  refine wpList_plain hgd fun K hK => ?_
  have hrun := run_app_non (P := P) (w := w) base t o.type e i size ht hi v n xs hown p c
  unfold Oper.wp
  simp [execOp, ho, resolve, invoke, builtin, hs, hx, hrun, Result.andThen]
  exact hK _ _ h
theorem iSli : ∃ i, Tryz.prog.info? 168 = some i ∧ i.zero = some (.slice none 0 0) ∧ i.size = 1 ∧ i.bytes = 24 := by
  have h : (Tryz.prog.info? 168).bind (fun i => if i.size = 1 ∧ i.bytes = 24 then i.zero else none) = some (.slice none 0 0) := by kernel_rfl
  cases hi : Tryz.prog.info? 168 with
  | none => rw [hi] at h; cases h
  | some j =>
    rw [hi] at h
    by_cases hc : j.size = 1 ∧ j.bytes = 24
    · simp [hc] at h
      exact ⟨j, rfl, h, hc.1, hc.2⟩
    · simp [hc] at h
def CloP (l : List Et) (w : World) (e : Ending) (w' : World) : Prop := ∃ a c, e = .returned (.slice a l.length c) ∧ EQ w.heap.size w' (.slice a l.length c) l ∧ Below w.heap.size w w'
set_option maxHeartbeats 4000000 in
theorem eclone_any (w : World) (B : Nat) (v : Value) (l : List Et) (h : EQ B w v l) (hl : l.length ≤ 1000000) :
    Calls Tryz.prog 108 #[v] w (CloP l w) := by
  obtain ⟨i30, hi30, hz30, hs30, hb30⟩ := iEnt
  have und30 := undE
  have q22 : ∀ (w : World) (a : Option Addr) (n c n' c' : Nat), (binOp .eql 168 (.slice a n c) (.slice none n' c')).run Tryz.prog w = .ok (.bool a.isNone) w := fun w a n c n' c' => Lib.run_eql_slice_nil w _ _ a n c n' c' undE
  rcases h.inv with ⟨rfl, rfl⟩ | ⟨g, cap, rfl, hcap, hmx, hBg, hgl⟩
  · clear h
    go_enter Tryz.func108, Tryz.ntmps108
    go_wp2
    go_ret
    exact ⟨none, 0, rfl, EQ.nil _ _, Below.refl _ _⟩
  · have hw0 : EQ w.heap.size (w.alloc (.cells #[] 131)) (.slice (some ⟨w.heap.size, 0, none⟩) 0 0) [] :=
      ⟨rfl, .inr ⟨w.heap.size, 0, #[], rfl, Nat.le_refl _, heap_alloc_new w _, Nat.le_refl _, Nat.zero_le _, rfl, rfl⟩⟩
    have hb0 : Below w.heap.size w (w.alloc (.cells #[] 131)) := (Below.refl _ _).alloc (Nat.le_refl _) _
    have HW0 := Lib.hid hw0
    have HB0 := Lib.hid hb0
    by_cases hz : l = []
    · subst hz
      clear h hw0 hb0
      go_enter Tryz.func108, Tryz.ntmps108
      go_wp2_with (at_builtin; refine wpList_app_non rfl _ _ 168 rfl w.heap.size 131 i30 3 und30 hi30 _ _ _ rfl HW0.out _ _ rfl ?_)
      go_wp2
      go_ret
      exact ⟨some ⟨w.heap.size, 0, none⟩, 0, rfl, HW0.out, HB0.out⟩
    · have hp : 0 < l.length := List.length_pos_iff.2 hz
      have hsrc : ∀ q u, (eC l)[q]? = some u → (w.alloc (.cells #[] 131)).cell? ((⟨g, 0, none⟩ : Addr).add q) = some u := by
        intro q u hq
        have h1 := World.ownsRow.cells h (g := g) rfl q u hq
        rw [Addr.add_lit, Nat.zero_add] at h1 ⊢
        exact (hb0.cell (p := ⟨g, q, none⟩) hgl).trans h1
      have HSRC := Lib.hid hsrc
      have HP := Lib.hid hp
      have HL := Lib.hid hl
      clear h hw0 hb0 hsrc hp hl hcap hmx hBg hgl
      go_enter Tryz.func108, Tryz.ntmps108
      go_wp2_with (at_builtin; refine wpList_append_lies _ rfl _ _ 168 rfl w.heap.size 131 i30 (.agg #[.string ByteArray.empty, .int .i64 0, .int .i64 0]) 3 32 und30 hi30 hz30 hs30 hb30 rfl (by decide) _ 0 [] rfl HW0.out ⟨g, 0, none⟩ l.length cap (eC l) rfl (eC_len l) ?_ (eC_one l) HP.out ?_ ?_ ?_ _ rfl ?_)
      any_goals first
        | exact HSRC.out
        | (have := HL.out; unfold maxLen; omega)
        | (have := HL.out; omega)
        | exact HB0.out.size
        | (simp; done)
      all_goals
        intro g9 cap9 w9 hown9 hgr9 hat9 hlt9
        have he9 : EQ w.heap.size w9 (.slice (some ⟨g9, 0, none⟩) l.length cap9) l := EQ.of (by first | exact hown9 | (rw [Nat.zero_add, List.nil_append] at hown9; exact hown9)) rfl rfl
        have hbl9 : Below w.heap.size w w9 := HB0.out.grown hgr9 (by simp) (fun k hk => by have hk2 : w.heap.size = k := (by injection hk); omega)
        have HE9 := Lib.hid he9
        have HB9 := Lib.hid hbl9
        have z0 : 0 + l.length = l.length := Nat.zero_add _
        clear hown9 hgr9 hat9 he9 hbl9
        try rw [z0]
        go_wp2
        go_ret
        exact ⟨some ⟨g9, 0, none⟩, cap9, rfl, HE9.out, HB9.out⟩
set_option maxHeartbeats 4000000 in
theorem oclone_any (w : World) (ob : Nat) :
    Calls Tryz.prog 118 #[.slice (some ⟨ob, 0, none⟩) 0 1] w fun e w' => e = .returned (.slice (some ⟨w.heap.size, 0, none⟩) 0 0) ∧ w' = w.alloc (.cells #[] 168) := by
  have q22 : ∀ (w : World) (a : Option Addr) (n c n' c' : Nat), (binOp .eql 114 (.slice a n c) (.slice none n' c')).run Tryz.prog w = .ok (.bool a.isNone) w := fun w a n c n' c' => Lib.run_eql_slice_nil w _ _ a n c n' c' Tryz.underlying114
  obtain ⟨j, hj, hjz, hjs, hjb⟩ := iSli
  have hx : (w.alloc (.cells #[] 168)).ownsRow w.heap.size 168 1 (.slice (some ⟨w.heap.size, 0, none⟩) 0 0) 0 [] :=
    ⟨rfl, .inr ⟨w.heap.size, 0, #[], rfl, Nat.le_refl _, heap_alloc_new w _, Nat.le_refl _, Nat.zero_le _, rfl, rfl⟩⟩
  have HX := Lib.hid hx
  clear hx
  go_enter Tryz.func118, Tryz.ntmps118
  go_wp2_with (at_builtin; refine wpList_app_non rfl _ _ 114 rfl w.heap.size 168 j 1 Tryz.underlying114 hj _ _ _ rfl HX.out _ _ rfl ?_)
  go_wp2
  go_ret
  exact ⟨rfl, rfl⟩
theorem mk1 (w : World) : (Instr.makeSlice 114 (.int .i64 1) (.int .i64 1)).run Tryz.prog w = .ok (.slice (some ⟨w.heap.size, 0, none⟩) 1 1) (w.alloc (.cells #[.slice none 0 0] 168)) := by kernel_rfl
def CopP (l : List Et) (w : World) (e : Ending) (w' : World) : Prop :=
  ∃ nb a c, e = .returned (.slice (some ⟨nb, 0, none⟩) 1 1) ∧ Bk w' nb 168 #[.slice a l.length c] ∧ EQ w.heap.size w' (.slice a l.length c) l ∧ w.heap.size ≤ nb ∧ Below w.heap.size w w'
set_option maxHeartbeats 4000000 in
theorem copied_any (w : World) (B ob : Nat) (v : Value) (l : List Et) (h : Bk w ob 168 #[v]) (hv : EQ B w v l) (hl : l.length ≤ 1000000) :
    Calls Tryz.prog 98 #[.slice (some ⟨ob, 0, none⟩) 1 1] w (CopP l w) := by
  have HH := Lib.hid h
  have HV := Lib.hid hv
  have HL := Lib.hid hl
  have hmk := mk1
  obtain ⟨nb, hnb⟩ : ∃ b, w.heap.size = b := ⟨_, rfl⟩
  obtain ⟨W1, hW1⟩ : ∃ W, w.alloc (.cells #[.slice none 0 0] 168) = W := ⟨_, rfl⟩
  have hb1 : Below w.heap.size w W1 := by rw [← hW1]; exact (Below.refl _ _).alloc (Nat.le_refl _) _
  have kn : Bk W1 nb 168 #[.slice none 0 0] := by rw [← hW1, ← hnb]; exact Bk.new _ _ _
  have HB1 := Lib.hid hb1
  have KN := Lib.hid kn
  have HNB : Hid (w.heap.size = nb) := Lib.hid hnb
  clear h hv hl hb1 kn
  go_enter Tryz.func98, Tryz.ntmps98
  go_wp2_with fail
  clear hW1 hnb hmk
  go_loopg [11] 1 (fun gk u11 wx => ∃ i : Nat, u11 = .int .i64 (i : Int) ∧ i + gk = 1 ∧ Below w.heap.size w wx ∧ ∃ v', Bk wx nb 168 #[v'] ∧ (i = 1 → ∃ a c, v' = .slice a l.length c ∧ EQ w.heap.size wx (.slice a l.length c) l))
  case atStart => exact ⟨0, rfl, rfl, HB1.out, _, KN.out, fun h => by omega⟩
  case round =>
    obtain ⟨i, rfl, hi, hbel, v', hk, hv'⟩ := hrel
    have HBE := Lib.hid hbel
    cases gk with
    | zero =>
      have hi1 : i = 1 := by omega
      subst hi1
      obtain ⟨a, c, rfl, he⟩ := hv' rfl
      have HFIN : Hid (CopP l w (.returned (.slice (some ⟨nb, 0, none⟩) 1 1)) wr) := Lib.hid ⟨nb, a, c, rfl, hk, he, by have := HNB.out; omega, hbel⟩
      clear hbel hi hk hv' he
      go_wp2
      go_ret
      exact HFIN.out
    | succ gk1 =>
      have hi0 : i = 0 := by omega
      subst hi0
      have hg1 : gk1 = 0 := by omega
      subst hg1
      have HK := Lib.hid hk
      have c0 : wr.cell? ⟨ob, 0, none⟩ = some v := (HH.out.below hbel).cell 0
      clear hbel hi hk hv'
      go_wp2_with fail
      refine (eclone_any wr B v l (HV.out.below HBE.out) HL.out).mono ?_
      rintro e w2 ⟨a, c, rfl, he2, hb2⟩
      have hk2 := HK.out.below hb2
      have s0 : w2.cell? ⟨nb, 0, none⟩ = some v' := hk2.cell 0
      have f0 := hk2.frozen 0
      have HK2 := Lib.hid hk2
      have HE2 := Lib.hid he2
      have HB2 := Lib.hid (HBE.out.trans (hb2.mono HBE.out.size))
      have HWS : Hid (w.heap.size ≤ wr.heap.size) := Lib.hid HBE.out.size
      clear hk2 he2 hb2 c0
      go_wp2
      go_roundg 0
      case measure => exact Nat.lt_succ_self _
      case rel =>
        refine ⟨1, rfl, rfl, HB2.out.setCell (p := ⟨nb, 0, none⟩) (by have := HNB.out; show w.heap.size ≤ nb; omega) _, _, HK2.out.set_ 0 _, fun _ => ⟨a, c, rfl, ?_⟩⟩
        exact (HE2.out.mono HWS.out).keep fun q hq => Below.heap_setCell _ _ _ _ (fun e => (HE2.out.off HK2.out ty_oe q hq) e.symm)
end Go.Proofs.YtjngangojgjceaaGreat.EX
namespace Go.Proofs.YtjngangojgjceaaGreat.EX
open Go.ChangeShapes Go.WideShapes Go.ChangeAt Go.RowKit
open Go.Proofs.YtjngangojgjceaaGreat.SL Go.Proofs.YtjngangojgjceaaGreat.RW
set_option maxRecDepth 100000
set_option linter.unusedVariables false
set_option linter.unusedSimpArgs false

def TakP (B g ob : Nat) (qc : Array Value) (v : Value) (d : List ByteArray) (R : List Et) (w : World) (e : Ending) (w' : World) : Prop :=
  ∃ u, e = .returned u ∧ OT w.heap.size w' u d ∧ ∃ a c, Bk w' g 129 qc ∧ Bk w' ob 168 #[.slice a R.length c] ∧ EQ B w' (.slice a R.length c) R ∧ Chg (fun b => b = g ∨ b = ob ∨ v.ownBlock = some b) w w' ∧ ∀ q, (Value.slice a R.length c).ownBlock = some q → v.ownBlock = some q
theorem odel_any (w : World) (ob : Nat) :
    Calls Tryz.prog 116 #[.slice (some ⟨ob, 0, none⟩) 1 1, .int .i64 0, .int .i64 0] w fun e w' => e = .returned (.slice (some ⟨ob, 0, none⟩) 1 1) ∧ w = w' := by
  go_enter Tryz.func116, Tryz.ntmps116
  go_wp2
  go_ret
  exact ⟨rfl, rfl⟩
theorem OT.grown' {B : Nat} {w w' : World} {u : Value} {d : List ByteArray} {row : Option Nat} (h : OT B w u d) (hg : w.grownBy w' row) (hn : ∀ q, row = some q → u.ownBlock ≠ some q) : OT B w' u d := h.keep fun q hq => hg.block q (World.ownsRow.lt h q hq).2 (fun e => hn q e.symm hq)
theorem OT.below' {B : Nat} {w w' : World} {u : Value} {d : List ByteArray} (h : OT B w u d) (hb : Below w.heap.size w w') : OT B w' u d := h.keep fun q hq => hb.block q (World.ownsRow.lt h q hq).2
theorem OT.offB {B : Nat} {w : World} {u : Value} {d : List ByteArray} (h : OT B w u d) {b : Nat} {t : TypeId} {cs : Array Value} (hb : Bk w b t cs) (ht : t ≠ 9) : ∀ q, u.ownBlock = some q → b ≠ q := by
  rintro q hq rfl
  rcases h.2 with ⟨rfl, _⟩ | ⟨g, cap, cur, rfl, _, hg, _⟩
  · cases hq
  · injection hq with hq
    subst hq
    unfold Bk at hb
    rw [hb] at hg
    injection hg with hg
    injection hg with _ hg
    exact ht hg
theorem EQ.offT {B B' : Nat} {w : World} {v u : Value} {l : List Et} {d : List ByteArray} (h : EQ B w v l) (hu : OT B' w u d) : ∀ q, v.ownBlock = some q → u.ownBlock ≠ some q := by
  intro q hq hq2
  obtain ⟨_, cur, fz, h9⟩ := h.ty q hq
  rcases hu.2 with ⟨rfl, _⟩ | ⟨g, cap, cur2, rfl, _, hg, _⟩
  · cases hq2
  · injection hq2 with hq2
    subst hq2
    rw [h9] at hg
    injection hg with hg
    injection hg with _ hg
    exact absurd hg (by decide)
theorem ownEmpty (W : World) (B : Nat) (t : TypeId) (hB : B ≤ W.heap.size) : (W.alloc (.cells #[] t)).ownsRow B t 1 (.slice (some ⟨W.heap.size, 0, none⟩) 0 0) 0 [] :=
  ⟨rfl, .inr ⟨W.heap.size, 0, #[], rfl, hB, heap_alloc_new W _, Nat.le_refl _, Nat.zero_le _, rfl, rfl⟩⟩
theorem ownBelow {w w' : World} {B z n : Nat} {t : TypeId} {v : Value} {xs : List Value} (h : w.ownsRow B t z v n xs) (hb : Below w.heap.size w w') : w'.ownsRow B t z v n xs := by
  refine ⟨h.1, ?_⟩
  rcases h.2 with h2 | ⟨g, cap, cur, rfl, hbb, hg, hr⟩
  · exact .inl h2
  · exact .inr ⟨g, cap, cur, rfl, hbb, (hb.block g (World.ownsRow.lt h g rfl).2).trans hg, hr⟩
set_option maxHeartbeats 16000000 in
theorem take_any (w : World) (B g ob : Nat) (v : Value) (L : List Et) (n now : Int) (qc : Array Value) (hg : Bk w g 129 qc) (hq : qc[3]? = some (.slice (some ⟨ob, 0, none⟩) 1 1)) (ho : Bk w ob 168 #[v]) (hv : EQ B w v L) (hs : Srt n L) (hl : L.length ≤ 500) (hB : B ≤ w.heap.size) :
    Calls Tryz.prog 92 #[.pointer (some ⟨g, 3, none⟩), .int .i64 now] w (TakP B g ob qc v (keysT (leL now L)) (gtL now L) w) := by
  obtain ⟨D, hD⟩ : ∃ D, keysT (leL now L) = D := ⟨_, rfl⟩
  obtain ⟨R, hR⟩ : ∃ R, gtL now L = R := ⟨_, rfl⟩
  have HDK := Lib.hid hD
  have HR := Lib.hid hR
  rw [hD, hR]
  clear hD hR
  have HS := Lib.hid hs
  have HL := Lib.hid hl
  obtain ⟨va, vc, rfl⟩ := hv.form
  obtain ⟨xb, hxb⟩ : ∃ b, w.heap.size = b := ⟨_, rfl⟩
  obtain ⟨W1, hW1⟩ : ∃ W, w.alloc (.cells #[.int .i64 now] 3) = W := ⟨_, rfl⟩
  have hb1 : Below w.heap.size w W1 := by rw [← hW1]; exact (Below.refl _ _).alloc (Nat.le_refl _) _
  have kx : Bk W1 xb 3 #[.int .i64 now] := by rw [← hW1, ← hxb]; exact Bk.new _ _ _
  have HB1 := Lib.hid hb1
  have KX := Lib.hid kx
  have KG := Lib.hid (hg.below hb1)
  have KO := Lib.hid (ho.below hb1)
  have HV := Lib.hid (hv.below hb1)
  have q3 : W1.cell? ⟨g, 3, none⟩ = some (.slice (some ⟨ob, 0, none⟩) 1 1) := ((hg.below hb1).cell 3).trans hq
  have henter : ∀ args W, (callFunc 117 args).run Tryz.prog W = .ok (.enter 117 args) W := fun args W => by show Sem.run Tryz.prog (callFunc 117 args) W = _; go_simp
  have HE := Lib.hid henter
  have HQ3 := Lib.hid hq
  clear hs hl hb1 kx hg ho hv hB henter hq
  obtain ⟨j, hj, hjz, hjs, hjb⟩ := iSli
  go_enter Tryz.func92, Tryz.ntmps92
  go_wp2_with fail
  try rw [hxb]
  refine (first_any W1 B ob _ #[ptr xb] (.slice va L.length vc) L (fun e => decide (now < e.2.1)) KO.out HV.out ⟨HE.out, fun W hb e _ => takec_any W xb now e (KX.out.below hb) _ rfl⟩ (mono_gt HS.out) (by have := HL.out; omega)).mono ?_
  rintro e w2 ⟨c, rfl, hc, ht, hd, hb2⟩
  have ht2 : L.take c = leL now L := ht
  have hd2 : L.drop c = R := hd.trans HR.out
  have HT := Lib.hid ht2
  have HD := Lib.hid hd2
  have HC := Lib.hid hc
  have HB2 := Lib.hid (HB1.out.trans (hb2.mono HB1.out.size))
  have KG2 := Lib.hid (KG.out.below hb2)
  have KO2 := Lib.hid (KO.out.below hb2)
  have HV2 := Lib.hid (HV.out.below hb2)
  have c3 : w2.cell? ⟨g, 3, none⟩ = some (.slice (some ⟨ob, 0, none⟩) 1 1) := (KG2.out.cell 3).trans HQ3.out
  have c0 : w2.cell? ⟨ob, 0, none⟩ = some (.slice va L.length vc) := KO2.out.cell 0
  have hcl : (c : Int) ≤ (L.length : Int) := by omega
  have hc0 : (0 : Int) ≤ (c : Int) := by omega
  have hcv : c ≤ vc ∧ (va = none → c = 0 ∧ vc = 0) := by
    rcases HV2.out.inv with ⟨he, hl0⟩ | ⟨g', cap, he, hcap, _⟩
    · injection he with e1 e2 e3
      subst e1 e3
      rw [hl0] at hc
      simp at hc
      exact ⟨by omega, fun _ => ⟨hc, rfl⟩⟩
    · injection he with e1 e2 e3
      subst e1 e3
      exact ⟨by omega, fun h => by cases h⟩
  have hcc : (c : Int) ≤ (vc : Int) := by omega
  have HCV := Lib.hid hcv
  have HRE : Hid (∀ W, Below w2.heap.size w2 W → RE W (.slice va c vc) (L.take c)) := Lib.hid fun W hb => by
    rcases HV2.out.inv with ⟨he, hl0⟩ | ⟨g', cap, he, hcap, _⟩
    · injection he with e1 e2 e3
      have := (hcv.2 e1).1
      subst this
      exact .inl ⟨va, vc, rfl, rfl⟩
    · have h2 := HV2.out.below hb
      injection he with e1 e2 e3
      subst e1 e3
      exact h2.re_take c hc
  clear ht hd hc hb2 ht2 hd2 q3 KX KG KO HV HB1 hxb hW1 hcv
  go_wp2_with fail
  refine wp_region_held_drew (S := (fun w' => w'.cell? ⟨g, 3, none⟩ = some (.slice (some ⟨ob, 0, none⟩) 1 1) ∧ w'.cell? ⟨ob, 0, none⟩ = some (.slice va L.length vc))) (by kernel_rfl) ?_ (fun hS => ?_)
  · exact ⟨c3, c0⟩
  refine tkY 0 ?_ rfl hS ?_ ?_
  rotate_left
  · intro wz hz
    obtain ⟨z0, z1⟩ := hz
    go_simp
    all_goals first | with_reducible rfl | omega
  try simp only [Act.put, pu]
  refine tkY 1 ?_ rfl hS ?_ ?_
  rotate_left
  · intro wz hz
    obtain ⟨z0, z1⟩ := hz
    go_simp
    all_goals first | with_reducible rfl | omega
  try simp only [Act.put, pu]
  refine tkY 2 ?_ rfl hS ?_ ?_
  rotate_left
  · intro wz hz
    obtain ⟨z0, z1⟩ := hz
    go_simp
    all_goals first | with_reducible rfl | omega
  try simp only [Act.put, pu]
  refine tkY 3 ?_ rfl hS ?_ ?_
  rotate_left
  · intro wz hz
    obtain ⟨z0, z1⟩ := hz
    go_simp
    all_goals first | with_reducible rfl | omega
  try simp only [Act.put, pu]
  refine tkY 4 ?_ rfl hS ?_ ?_
  rotate_left
  · intro wz hz
    obtain ⟨z0, z1⟩ := hz
    go_simp
    all_goals first | with_reducible rfl | omega
  try simp only [Act.put, pu]
  refine tkY 6 ?_ rfl hS ?_ ?_
  rotate_left
  · intro wz hz
    obtain ⟨z0, z1⟩ := hz
    go_simp
    all_goals first | with_reducible rfl | omega
  try simp only [Act.put, pu]
  refine tkY 7 ?_ rfl hS ?_ ?_
  rotate_left
  · intro wz hz
    obtain ⟨z0, z1⟩ := hz
    go_simp
    all_goals first | with_reducible rfl | omega
  try simp only [Act.put, pu]
  refine tkY 8 ?_ rfl hS ?_ ?_
  rotate_left
  · intro wz hz
    obtain ⟨z0, z1⟩ := hz
    go_simp
    all_goals first | with_reducible rfl | omega
  try simp only [Act.put, pu]
  refine tkY 9 ?_ rfl hS ?_ ?_
  rotate_left
  · intro wz hz
    obtain ⟨z0, z1⟩ := hz
    go_simp
    all_goals first | with_reducible rfl | omega
  try simp only [Act.put, pu]
  refine tkY 10 ?_ rfl hS ?_ ?_
  rotate_left
  · intro wz hz
    obtain ⟨z0, z1⟩ := hz
    go_simp
    all_goals first | with_reducible rfl | omega
  try simp only [Act.put, pu]
  refine tkY 11 ?_ rfl hS ?_ ?_
  rotate_left
  · intro wz hz
    obtain ⟨z0, z1⟩ := hz
    go_simp
    all_goals first | with_reducible rfl | omega
  try simp only [Act.put, pu]
  refine tkY 12 ?_ rfl hS ?_ ?_
  rotate_left
  · intro wz hz
    obtain ⟨z0, z1⟩ := hz
    go_simp
    all_goals first | with_reducible rfl | omega
  try simp only [Act.put, pu]
  refine tkY 13 ?_ rfl hS ?_ ?_
  rotate_left
  · intro wz hz
    obtain ⟨z0, z1⟩ := hz
    go_simp
    all_goals first | with_reducible rfl | omega
  try simp only [Act.put, pu]
  refine wpAnyH_ready (rs := [5, 14]) (by kernel_rfl) (by simp) (AllReadyH.cons rfl (fun K' hK' => ?_) (AllReadyH.cons rfl (fun K' hK' => ?_) AllReadyH.nil))
  · have HBW : Hid (Below w2.heap.size w2 w2.drew) := Lib.hid (Below.refl _ _).drew
    go_simp
    have hbC : Below w2.heap.size w2 w2.drew := HBW.out
    refine (oclone_any w2.drew ob).mono ?_
    rintro e w4 ⟨rfl, hw4⟩
    obtain ⟨ce, hce⟩ : ∃ b, w2.drew.heap.size = b := ⟨_, rfl⟩
    have hx4 : w4.ownsRow w2.heap.size 168 1 (.slice (some ⟨ce, 0, none⟩) 0 0) 0 [] := by rw [hw4, ← hce]; exact ownEmpty w2.drew _ _ hbC.size
    have hb4 : Below w2.drew.heap.size w2.drew w4 := by rw [hw4]; exact (Below.refl _ _).alloc (Nat.le_refl _) _
    rw [hce]
    have HCE : Hid (w2.heap.size ≤ ce) := Lib.hid (by rw [← hce]; exact hbC.size)
    have HX4 := Lib.hid hx4
    have HB4 := Lib.hid (hbC.trans (hb4.mono hbC.size))
    clear hw4 hce hx4 hb4 hbC
    refine hK'.out _ _ ?_ (fun hSn => ?_)
    · exact ⟨((KG2.out.below HB4.out).cell 3).trans HQ3.out, (KO2.out.below HB4.out).cell 0⟩
    clear hK' K' hS
    have hS := hSn
    clear hSn
    try simp only [Act.put, pu]
    refine wpAnyH_ready (rs := [14]) (by kernel_rfl) (by simp) (AllReadyH.cons rfl (fun K' hK' => ?_) AllReadyH.nil)
    go_simp
    obtain ⟨W5, hW5⟩ : ∃ W, w4.alloc (.cells #[.slice va c vc] 168) = W := ⟨_, rfl⟩
    obtain ⟨vb, hvb⟩ : ∃ b, w4.heap.size = b := ⟨_, rfl⟩
    have hb5 : Below w4.heap.size w4 W5 := by rw [← hW5]; exact (Below.refl _ _).alloc (Nat.le_refl _) _
    have HVB : Hid (Bk W5 vb 168 #[.slice va c vc]) := Lib.hid (by rw [← hW5, ← hvb]; exact Bk.new _ _ _)
    have HX5 : Hid (W5.ownsRow w2.heap.size 168 1 (.slice (some ⟨ce, 0, none⟩) 0 0) 0 []) := Lib.hid (ownBelow HX4.out hb5)
    have HB5 := Lib.hid (HB4.out.trans (hb5.mono HB4.out.size))
    try rw [hW5]
    try rw [hvb]
    clear hW5 hvb hb5 HB4 HX4 HBW
    refine hK'.out _ _ ?_ (fun hSn => ?_)
    · exact ⟨((KG2.out.below HB5.out).cell 3).trans HQ3.out, (KO2.out.below HB5.out).cell 0⟩
    clear hK' K' hS
    have hS := hSn
    clear hSn
    try simp only [Act.put, pu]
    refine wpAnyH_ready (rs := [15]) (by kernel_rfl) (by simp) (AllReadyH.cons rfl (fun K' hK' => ?_) AllReadyH.nil)
    refine step_append_lies _ rfl _ _ 114 rfl w2.heap.size 168 j (.slice none 0 0) 1 24 Tryz.underlying114 hj hjz hjs hjb rfl (by decide) (.slice (some ⟨ce, 0, none⟩) 0 0) 0 [] (by simp [Act.eval, Act.put]) HX5.out ⟨vb, 0, none⟩ 1 1 [.slice va c vc] (by simp [Act.eval, Act.put]) rfl ?_ (by intro u hu; simp at hu; subst hu; rfl) (by decide) (by unfold maxLen; omega) (by decide) HB5.out.size _ rfl ?_
    · intro q u hq
      cases q with
      | zero => simp at hq; subst hq; rw [Addr.add_lit]; exact HVB.out.cell 0
      | succ q => simp at hq
    intro g9 cap9 w9 o9 gr9 at9 lt9
    have kg9 : Bk w9 g 129 qc := Bk.grown (KG2.out.below HB5.out) gr9 (fun q hq => by have hq2 : ce = q := (by injection hq); have := KG2.out.lt; have := HCE.out; omega)
    have ko9 : Bk w9 ob 168 #[.slice va L.length vc] := Bk.grown (KO2.out.below HB5.out) gr9 (fun q hq => by have hq2 : ce = q := (by injection hq); have := KO2.out.lt; have := HCE.out; omega)
    have hb9 : Below w2.heap.size w2 w9 := HB5.out.grown gr9 HB5.out.size (fun q hq => by have hq2 : ce = q := (by injection hq); have := HCE.out; omega)
    have cd9 : w9.cell? ⟨g9, 0, none⟩ = some (.slice va c vc) := by
      have := World.ownsRow.cells o9 (g := g9) rfl 0 (.slice va c vc) (by simp)
      rw [Addr.add_lit] at this
      exact this
    have HB9 := Lib.hid hb9
    have KG9 := Lib.hid kg9
    have KO9 := Lib.hid ko9
    have HCD := Lib.hid cd9
    refine hK'.out _ _ ?_ (fun hSn => ?_)
    · exact ⟨(kg9.cell 3).trans HQ3.out, ko9.cell 0⟩
    clear hK' K' hS kg9 ko9 hb9 cd9 o9 gr9 at9 lt9
    have hS := hSn
    clear hSn
    try simp only [Act.put, pu]
    refine tkY 16 ?_ rfl hS ?_ ?_
    rotate_left
    · intro wz hz
      obtain ⟨z0, z1⟩ := hz
      go_simp
      all_goals first | with_reducible rfl | omega
    try simp only [Act.put, pu]
    refine wpAnyH_done (by kernel_rfl) ?_ _
    clear hS c3 c0 HX5 HVB HB5 HCE
    have z1 : 0 + 1 = 1 := rfl
    try rw [z1]
    go_wp2_with fail
    refine (okeys_any w9 g9 cap9 (.slice va c vc) (L.take c) HCD.out (HRE.out w9 HB9.out) (by rw [List.length_take]; have := HL.out; omega)).mono ?_
    rintro e w10 ⟨u, rfl, ou, hb10⟩
    rw [HT.out, HDK.out] at ou
    have HOU := Lib.hid ou
    have HBA := Lib.hid (HB9.out.trans (hb10.mono HB9.out.size))
    have HWT : Hid (w2.heap.size ≤ w9.heap.size) := Lib.hid HB9.out.size
    have KGA := Lib.hid (KG9.out.below hb10)
    have KOA := Lib.hid (KO9.out.below hb10)
    have HVA := Lib.hid (HV2.out.below HBA.out)
    have c3 : w10.cell? ⟨g, 3, none⟩ = some (.slice (some ⟨ob, 0, none⟩) 1 1) := (KGA.out.cell 3).trans HQ3.out
    have c0 : w10.cell? ⟨ob, 0, none⟩ = some (.slice va L.length vc) := KOA.out.cell 0
    clear ou hb10 KG9 KO9 HCD HB9
    go_wp2_with fail
    refine wp_region_held_drew (S := (fun w' => w'.cell? ⟨g, 3, none⟩ = some (.slice (some ⟨ob, 0, none⟩) 1 1))) (by kernel_rfl) ?_ (fun hS => ?_)
    · exact c3
    refine tkY 0 ?_ rfl hS ?_ ?_
    rotate_left
    · intro wz hz
      go_simp
      all_goals first | with_reducible rfl | omega
    try simp only [Act.put, pu]
    refine tkY 1 ?_ rfl hS ?_ ?_
    rotate_left
    · intro wz hz
      go_simp
      all_goals first | with_reducible rfl | omega
    try simp only [Act.put, pu]
    refine tkY 2 ?_ rfl hS ?_ ?_
    rotate_left
    · intro wz hz
      go_simp
      all_goals first | with_reducible rfl | omega
    try simp only [Act.put, pu]
    refine tkY 3 ?_ rfl hS ?_ ?_
    rotate_left
    · intro wz hz
      go_simp
      all_goals first | with_reducible rfl | omega
    try simp only [Act.put, pu]
    refine tkY 4 ?_ rfl hS ?_ ?_
    rotate_left
    · intro wz hz
      go_simp
      all_goals first | with_reducible rfl | omega
    try simp only [Act.put, pu]
    refine tkY 5 ?_ rfl hS ?_ ?_
    rotate_left
    · intro wz hz
      go_simp
      all_goals first | with_reducible rfl | omega
    try simp only [Act.put, pu]
    refine tkY 6 ?_ rfl hS ?_ ?_
    rotate_left
    · intro wz hz
      go_simp
      all_goals first | with_reducible rfl | omega
    try simp only [Act.put, pu]
    refine tkY 7 ?_ rfl hS ?_ ?_
    rotate_left
    · intro wz hz
      go_simp
      all_goals first | with_reducible rfl | omega
    try simp only [Act.put, pu]
    refine tkY 8 ?_ rfl hS ?_ ?_
    rotate_left
    · intro wz hz
      go_simp
      all_goals first | with_reducible rfl | omega
    try simp only [Act.put, pu]
    refine tkY 10 ?_ rfl hS ?_ ?_
    rotate_left
    · intro wz hz
      go_simp
      all_goals first | with_reducible rfl | omega
    try simp only [Act.put, pu]
    refine wpAnyH_ready (rs := [9]) (by kernel_rfl) (by simp) (AllReadyH.cons rfl (fun K' hK' => ?_) AllReadyH.nil)
    go_simp
    refine hK'.out _ _ ?_ (fun hSn => ?_)
    · exact c3
    clear hK' K' hS
    have hS := hSn
    clear hSn
    try simp only [Act.put, pu]
    refine wpAnyH_ready (rs := [11]) (by kernel_rfl) (by simp) (AllReadyH.cons rfl (fun K' hK' => ?_) AllReadyH.nil)
    go_simp
    have hbd : Below w10.heap.size w10 w10.drew := (Below.refl _ _).drew
    refine (edelete_any B (.slice va L.length vc) L 0 c w10.drew (HVA.out.below hbd) (Nat.zero_le _) HC.out (by have := HL.out; omega)).mono ?_
    rintro e w11 ⟨a5, c5, rfl, he5, hg5, ho5⟩
    rw [List.take_zero, List.nil_append, HD.out] at he5 ho5
    rw [List.take_zero, List.nil_append, HD.out]
    have kg5 := Bk.grown (KGA.out.below hbd) hg5 (fun q hq => (HVA.out.below hbd).off (KGA.out.below hbd) ty_qe q hq)
    have ko5 := Bk.grown (KOA.out.below hbd) hg5 (fun q hq => (HVA.out.below hbd).off (KOA.out.below hbd) ty_oe q hq)
    have ou5 := OT.grown' (OT.below' HOU.out hbd) hg5 (fun q hq => (HVA.out.offT HOU.out) q hq)
    have hSC := (kg5.cell 3).trans HQ3.out
    have f0 := ko5.frozen 0
    have s0 : w11.cell? ⟨ob, 0, none⟩ = some (.slice va L.length vc) := ko5.cell 0
    have KG5 := Lib.hid kg5
    have KO5 := Lib.hid ko5
    have OU5 := Lib.hid ou5
    have HE5 := Lib.hid he5
    have HG5 := Lib.hid hg5
    have HO5 := Lib.hid ho5
    clear kg5 ko5 he5 hg5 ho5 ou5
    refine hK'.out _ _ ?_ (fun hSn => ?_)
    · exact hSC
    clear hK' K' hS
    have hS := hSn
    clear hSn
    try simp only [Act.put, pu]
    refine tkY 12 ?_ rfl hS ?_ ?_
    rotate_left
    · intro wz hz
      go_simp
      all_goals first | with_reducible rfl | omega
    try simp only [Act.put, pu]
    refine wpAnyH_ready (rs := [13]) (by kernel_rfl) (by simp) (AllReadyH.cons rfl (fun K' hK' => ?_) AllReadyH.nil)
    go_simp
    refine hK'.out _ _ ?_ (fun hSn => ?_)
    · exact (KG5.out.far (p := ⟨ob, 0, none⟩) (KG5.out.ne_ KO5.out ty_qo) _).cell 3 |>.trans HQ3.out
    clear hK' K' hS
    have hS := hSn
    clear hSn
    refine wpAnyH_done (by kernel_rfl) ?_ _
    clear hS
    have hko := KO5.out.set_ 0 (.slice a5 R.length c5)
    have hkg := KG5.out.far (p := ⟨ob, 0, none⟩) (KG5.out.ne_ KO5.out ty_qo) (.slice a5 R.length c5)
    have hEE : EQ B (w11.setCell ⟨ob, 0, none⟩ (.slice a5 R.length c5)) (.slice a5 R.length c5) R := HE5.out.keep fun q hq => Below.heap_setCell _ _ _ _ (fun e => (HE5.out.off KO5.out ty_oe q hq) e.symm)
    have hou : OT w9.heap.size (w11.setCell ⟨ob, 0, none⟩ (.slice a5 R.length c5)) u D := OU5.out.keep fun q hq => Below.heap_setCell _ _ _ _ (fun e => (OT.offB OU5.out KO5.out (by decide)) q hq e.symm)
    have h1 : Chg (fun b => b = g ∨ b = ob ∨ (Value.slice va L.length vc).ownBlock = some b) w w11 := ((Chg.of_below (S := fun b => b = g ∨ b = ob ∨ (Value.slice va L.length vc).ownBlock = some b) HB2.out).trans (Chg.of_below HBA.out)).grown (w1 := w10) ⟨HG5.out.os, HG5.out.tape, HG5.out.output, HG5.out.size, HG5.out.block⟩ (fun k hk _ => .inr (.inr hk))
    have hch := h1.setCell (p := ⟨ob, 0, none⟩) (.inr (.inl rfl)) (.slice a5 R.length c5)
    obtain ⟨w6, hw6⟩ : ∃ w6, w11.setCell ⟨ob, 0, none⟩ (.slice a5 R.length c5) = w6 := ⟨_, rfl⟩
    rw [hw6] at hko hkg hEE hch hou
    rw [hw6]
    have KO6 : Hid (Bk w6 ob 168 #[.slice a5 R.length c5]) := Lib.hid hko
    have KG6 := Lib.hid hkg
    have y3 : w6.cell? ⟨g, 3, none⟩ = some (.slice (some ⟨ob, 0, none⟩) 1 1) := (hkg.cell 3).trans HQ3.out
    have g3 := hkg.frozen 3
    have HEE := Lib.hid hEE
    have HCH := Lib.hid hch
    have OU6 := Lib.hid hou
    clear hko hkg hEE hch h1 hw6 c3 c0 f0 s0 hou
    go_wp2_with fail
    refine (odel_any _ ob).mono ?_
    rintro e w' ⟨rfl, rfl⟩
    go_wp2
    go_ret
    have hset : qc.setIfInBounds 3 (.slice (some ⟨ob, 0, none⟩) 1 1) = qc := by
      apply Array.ext_getElem?
      intro i
      rw [Array.getElem?_setIfInBounds]
      split
      · rename_i h3
        subst h3
        split
        · exact HQ3.out.symm
        · rw [Array.getElem?_eq_none (by omega)]
      · rfl
    have hkg7 := KG6.out.set_ 3 (.slice (some ⟨ob, 0, none⟩) 1 1)
    rw [hset] at hkg7
    refine ⟨u, rfl, ?_, a5, c5, hkg7, KO6.out.far (p := ⟨g, 3, none⟩) (fun e => (KG6.out.ne_ KO6.out ty_qo) e.symm) _, ?_, HCH.out.setCell (p := ⟨g, 3, none⟩) (.inl rfl) _, HO5.out⟩
    · exact OT.mono (OU6.out.keep fun q hq => Below.heap_setCell _ _ _ _ (fun e => (OT.offB OU6.out KG6.out (by decide)) q hq e.symm)) (Nat.le_trans HB2.out.size HWT.out)
    · exact HEE.out.keep fun q hq => Below.heap_setCell _ _ _ _ (fun e => (HEE.out.off KG6.out ty_qe q hq) e.symm)
  · go_simp
    obtain ⟨W3, hW3⟩ : ∃ W, (w2.alloc (.cells #[.slice va c vc] 168)).drew = W := ⟨_, rfl⟩
    obtain ⟨vb, hvb⟩ : ∃ b, w2.heap.size = b := ⟨_, rfl⟩
    have hb3 : Below w2.heap.size w2 W3 := by rw [← hW3]; exact ((Below.refl _ _).alloc (Nat.le_refl _) _).drew
    have hv3 : Bk W3 vb 168 #[.slice va c vc] := by rw [← hW3, ← hvb]; exact (Bk.new _ _ _).drew
    have HBW := Lib.hid hb3
    have HV3 := Lib.hid hv3
    try rw [hW3]
    try rw [hvb]
    clear hW3 hb3 hv3
    refine hK'.out _ _ ?_ (fun hSn => ?_)
    · exact ⟨((KG2.out.below HBW.out).cell 3).trans HQ3.out, (KO2.out.below HBW.out).cell 0⟩
    clear hK' K' hS
    have hS := hSn
    clear hSn
    try simp only [Act.put, pu]
    refine wpAnyH_ready (rs := [5]) (by kernel_rfl) (by simp) (AllReadyH.cons rfl (fun K' hK' => ?_) AllReadyH.nil)
    go_simp
    have hbC : Below w2.heap.size w2 W3 := HBW.out
    refine (oclone_any W3 ob).mono ?_
    rintro e w4 ⟨rfl, hw4⟩
    obtain ⟨ce, hce⟩ : ∃ b, W3.heap.size = b := ⟨_, rfl⟩
    have hx4 : w4.ownsRow w2.heap.size 168 1 (.slice (some ⟨ce, 0, none⟩) 0 0) 0 [] := by rw [hw4, ← hce]; exact ownEmpty W3 _ _ hbC.size
    have hb4 : Below W3.heap.size W3 w4 := by rw [hw4]; exact (Below.refl _ _).alloc (Nat.le_refl _) _
    rw [hce]
    have HCE : Hid (w2.heap.size ≤ ce) := Lib.hid (by rw [← hce]; exact hbC.size)
    have HX4 := Lib.hid hx4
    have HB4 := Lib.hid (hbC.trans (hb4.mono hbC.size))
    have HVB : Hid (Bk w4 vb 168 #[.slice va c vc]) := Lib.hid (HV3.out.below hb4)
    have HX5 := HX4
    have HB5 := HB4
    clear hw4 hce hx4 hb4 hbC HX4 HB4 HV3 HBW
    refine hK'.out _ _ ?_ (fun hSn => ?_)
    · exact ⟨((KG2.out.below HB5.out).cell 3).trans HQ3.out, (KO2.out.below HB5.out).cell 0⟩
    clear hK' K' hS
    have hS := hSn
    clear hSn
    try simp only [Act.put, pu]
    refine wpAnyH_ready (rs := [15]) (by kernel_rfl) (by simp) (AllReadyH.cons rfl (fun K' hK' => ?_) AllReadyH.nil)
    refine step_append_lies _ rfl _ _ 114 rfl w2.heap.size 168 j (.slice none 0 0) 1 24 Tryz.underlying114 hj hjz hjs hjb rfl (by decide) (.slice (some ⟨ce, 0, none⟩) 0 0) 0 [] (by simp [Act.eval, Act.put]) HX5.out ⟨vb, 0, none⟩ 1 1 [.slice va c vc] (by simp [Act.eval, Act.put]) rfl ?_ (by intro u hu; simp at hu; subst hu; rfl) (by decide) (by unfold maxLen; omega) (by decide) HB5.out.size _ rfl ?_
    · intro q u hq
      cases q with
      | zero => simp at hq; subst hq; rw [Addr.add_lit]; exact HVB.out.cell 0
      | succ q => simp at hq
    intro g9 cap9 w9 o9 gr9 at9 lt9
    have kg9 : Bk w9 g 129 qc := Bk.grown (KG2.out.below HB5.out) gr9 (fun q hq => by have hq2 : ce = q := (by injection hq); have := KG2.out.lt; have := HCE.out; omega)
    have ko9 : Bk w9 ob 168 #[.slice va L.length vc] := Bk.grown (KO2.out.below HB5.out) gr9 (fun q hq => by have hq2 : ce = q := (by injection hq); have := KO2.out.lt; have := HCE.out; omega)
    have hb9 : Below w2.heap.size w2 w9 := HB5.out.grown gr9 HB5.out.size (fun q hq => by have hq2 : ce = q := (by injection hq); have := HCE.out; omega)
    have cd9 : w9.cell? ⟨g9, 0, none⟩ = some (.slice va c vc) := by
      have := World.ownsRow.cells o9 (g := g9) rfl 0 (.slice va c vc) (by simp)
      rw [Addr.add_lit] at this
      exact this
    have HB9 := Lib.hid hb9
    have KG9 := Lib.hid kg9
    have KO9 := Lib.hid ko9
    have HCD := Lib.hid cd9
    refine hK'.out _ _ ?_ (fun hSn => ?_)
    · exact ⟨(kg9.cell 3).trans HQ3.out, ko9.cell 0⟩
    clear hK' K' hS kg9 ko9 hb9 cd9 o9 gr9 at9 lt9
    have hS := hSn
    clear hSn
    try simp only [Act.put, pu]
    refine tkY 16 ?_ rfl hS ?_ ?_
    rotate_left
    · intro wz hz
      obtain ⟨z0, z1⟩ := hz
      go_simp
      all_goals first | with_reducible rfl | omega
    try simp only [Act.put, pu]
    refine wpAnyH_done (by kernel_rfl) ?_ _
    clear hS c3 c0 HX5 HVB HB5 HCE
    have z1 : 0 + 1 = 1 := rfl
    try rw [z1]
    go_wp2_with fail
    refine (okeys_any w9 g9 cap9 (.slice va c vc) (L.take c) HCD.out (HRE.out w9 HB9.out) (by rw [List.length_take]; have := HL.out; omega)).mono ?_
    rintro e w10 ⟨u, rfl, ou, hb10⟩
    rw [HT.out, HDK.out] at ou
    have HOU := Lib.hid ou
    have HBA := Lib.hid (HB9.out.trans (hb10.mono HB9.out.size))
    have HWT : Hid (w2.heap.size ≤ w9.heap.size) := Lib.hid HB9.out.size
    have KGA := Lib.hid (KG9.out.below hb10)
    have KOA := Lib.hid (KO9.out.below hb10)
    have HVA := Lib.hid (HV2.out.below HBA.out)
    have c3 : w10.cell? ⟨g, 3, none⟩ = some (.slice (some ⟨ob, 0, none⟩) 1 1) := (KGA.out.cell 3).trans HQ3.out
    have c0 : w10.cell? ⟨ob, 0, none⟩ = some (.slice va L.length vc) := KOA.out.cell 0
    clear ou hb10 KG9 KO9 HCD HB9
    go_wp2_with fail
    refine wp_region_held_drew (S := (fun w' => w'.cell? ⟨g, 3, none⟩ = some (.slice (some ⟨ob, 0, none⟩) 1 1))) (by kernel_rfl) ?_ (fun hS => ?_)
    · exact c3
    refine tkY 0 ?_ rfl hS ?_ ?_
    rotate_left
    · intro wz hz
      go_simp
      all_goals first | with_reducible rfl | omega
    try simp only [Act.put, pu]
    refine tkY 1 ?_ rfl hS ?_ ?_
    rotate_left
    · intro wz hz
      go_simp
      all_goals first | with_reducible rfl | omega
    try simp only [Act.put, pu]
    refine tkY 2 ?_ rfl hS ?_ ?_
    rotate_left
    · intro wz hz
      go_simp
      all_goals first | with_reducible rfl | omega
    try simp only [Act.put, pu]
    refine tkY 3 ?_ rfl hS ?_ ?_
    rotate_left
    · intro wz hz
      go_simp
      all_goals first | with_reducible rfl | omega
    try simp only [Act.put, pu]
    refine tkY 4 ?_ rfl hS ?_ ?_
    rotate_left
    · intro wz hz
      go_simp
      all_goals first | with_reducible rfl | omega
    try simp only [Act.put, pu]
    refine tkY 5 ?_ rfl hS ?_ ?_
    rotate_left
    · intro wz hz
      go_simp
      all_goals first | with_reducible rfl | omega
    try simp only [Act.put, pu]
    refine tkY 6 ?_ rfl hS ?_ ?_
    rotate_left
    · intro wz hz
      go_simp
      all_goals first | with_reducible rfl | omega
    try simp only [Act.put, pu]
    refine tkY 7 ?_ rfl hS ?_ ?_
    rotate_left
    · intro wz hz
      go_simp
      all_goals first | with_reducible rfl | omega
    try simp only [Act.put, pu]
    refine tkY 8 ?_ rfl hS ?_ ?_
    rotate_left
    · intro wz hz
      go_simp
      all_goals first | with_reducible rfl | omega
    try simp only [Act.put, pu]
    refine tkY 10 ?_ rfl hS ?_ ?_
    rotate_left
    · intro wz hz
      go_simp
      all_goals first | with_reducible rfl | omega
    try simp only [Act.put, pu]
    refine wpAnyH_ready (rs := [9]) (by kernel_rfl) (by simp) (AllReadyH.cons rfl (fun K' hK' => ?_) AllReadyH.nil)
    go_simp
    refine hK'.out _ _ ?_ (fun hSn => ?_)
    · exact c3
    clear hK' K' hS
    have hS := hSn
    clear hSn
    try simp only [Act.put, pu]
    refine wpAnyH_ready (rs := [11]) (by kernel_rfl) (by simp) (AllReadyH.cons rfl (fun K' hK' => ?_) AllReadyH.nil)
    go_simp
    have hbd : Below w10.heap.size w10 w10.drew := (Below.refl _ _).drew
    refine (edelete_any B (.slice va L.length vc) L 0 c w10.drew (HVA.out.below hbd) (Nat.zero_le _) HC.out (by have := HL.out; omega)).mono ?_
    rintro e w11 ⟨a5, c5, rfl, he5, hg5, ho5⟩
    rw [List.take_zero, List.nil_append, HD.out] at he5 ho5
    rw [List.take_zero, List.nil_append, HD.out]
    have kg5 := Bk.grown (KGA.out.below hbd) hg5 (fun q hq => (HVA.out.below hbd).off (KGA.out.below hbd) ty_qe q hq)
    have ko5 := Bk.grown (KOA.out.below hbd) hg5 (fun q hq => (HVA.out.below hbd).off (KOA.out.below hbd) ty_oe q hq)
    have ou5 := OT.grown' (OT.below' HOU.out hbd) hg5 (fun q hq => (HVA.out.offT HOU.out) q hq)
    have hSC := (kg5.cell 3).trans HQ3.out
    have f0 := ko5.frozen 0
    have s0 : w11.cell? ⟨ob, 0, none⟩ = some (.slice va L.length vc) := ko5.cell 0
    have KG5 := Lib.hid kg5
    have KO5 := Lib.hid ko5
    have OU5 := Lib.hid ou5
    have HE5 := Lib.hid he5
    have HG5 := Lib.hid hg5
    have HO5 := Lib.hid ho5
    clear kg5 ko5 he5 hg5 ho5 ou5
    refine hK'.out _ _ ?_ (fun hSn => ?_)
    · exact hSC
    clear hK' K' hS
    have hS := hSn
    clear hSn
    try simp only [Act.put, pu]
    refine tkY 12 ?_ rfl hS ?_ ?_
    rotate_left
    · intro wz hz
      go_simp
      all_goals first | with_reducible rfl | omega
    try simp only [Act.put, pu]
    refine wpAnyH_ready (rs := [13]) (by kernel_rfl) (by simp) (AllReadyH.cons rfl (fun K' hK' => ?_) AllReadyH.nil)
    go_simp
    refine hK'.out _ _ ?_ (fun hSn => ?_)
    · exact (KG5.out.far (p := ⟨ob, 0, none⟩) (KG5.out.ne_ KO5.out ty_qo) _).cell 3 |>.trans HQ3.out
    clear hK' K' hS
    have hS := hSn
    clear hSn
    refine wpAnyH_done (by kernel_rfl) ?_ _
    clear hS
    have hko := KO5.out.set_ 0 (.slice a5 R.length c5)
    have hkg := KG5.out.far (p := ⟨ob, 0, none⟩) (KG5.out.ne_ KO5.out ty_qo) (.slice a5 R.length c5)
    have hEE : EQ B (w11.setCell ⟨ob, 0, none⟩ (.slice a5 R.length c5)) (.slice a5 R.length c5) R := HE5.out.keep fun q hq => Below.heap_setCell _ _ _ _ (fun e => (HE5.out.off KO5.out ty_oe q hq) e.symm)
    have hou : OT w9.heap.size (w11.setCell ⟨ob, 0, none⟩ (.slice a5 R.length c5)) u D := OU5.out.keep fun q hq => Below.heap_setCell _ _ _ _ (fun e => (OT.offB OU5.out KO5.out (by decide)) q hq e.symm)
    have h1 : Chg (fun b => b = g ∨ b = ob ∨ (Value.slice va L.length vc).ownBlock = some b) w w11 := ((Chg.of_below (S := fun b => b = g ∨ b = ob ∨ (Value.slice va L.length vc).ownBlock = some b) HB2.out).trans (Chg.of_below HBA.out)).grown (w1 := w10) ⟨HG5.out.os, HG5.out.tape, HG5.out.output, HG5.out.size, HG5.out.block⟩ (fun k hk _ => .inr (.inr hk))
    have hch := h1.setCell (p := ⟨ob, 0, none⟩) (.inr (.inl rfl)) (.slice a5 R.length c5)
    obtain ⟨w6, hw6⟩ : ∃ w6, w11.setCell ⟨ob, 0, none⟩ (.slice a5 R.length c5) = w6 := ⟨_, rfl⟩
    rw [hw6] at hko hkg hEE hch hou
    rw [hw6]
    have KO6 : Hid (Bk w6 ob 168 #[.slice a5 R.length c5]) := Lib.hid hko
    have KG6 := Lib.hid hkg
    have y3 : w6.cell? ⟨g, 3, none⟩ = some (.slice (some ⟨ob, 0, none⟩) 1 1) := (hkg.cell 3).trans HQ3.out
    have g3 := hkg.frozen 3
    have HEE := Lib.hid hEE
    have HCH := Lib.hid hch
    have OU6 := Lib.hid hou
    clear hko hkg hEE hch h1 hw6 c3 c0 f0 s0 hou
    go_wp2_with fail
    refine (odel_any _ ob).mono ?_
    rintro e w' ⟨rfl, rfl⟩
    go_wp2
    go_ret
    have hset : qc.setIfInBounds 3 (.slice (some ⟨ob, 0, none⟩) 1 1) = qc := by
      apply Array.ext_getElem?
      intro i
      rw [Array.getElem?_setIfInBounds]
      split
      · rename_i h3
        subst h3
        split
        · exact HQ3.out.symm
        · rw [Array.getElem?_eq_none (by omega)]
      · rfl
    have hkg7 := KG6.out.set_ 3 (.slice (some ⟨ob, 0, none⟩) 1 1)
    rw [hset] at hkg7
    refine ⟨u, rfl, ?_, a5, c5, hkg7, KO6.out.far (p := ⟨g, 3, none⟩) (fun e => (KG6.out.ne_ KO6.out ty_qo) e.symm) _, ?_, HCH.out.setCell (p := ⟨g, 3, none⟩) (.inl rfl) _, HO5.out⟩
    · exact OT.mono (OU6.out.keep fun q hq => Below.heap_setCell _ _ _ _ (fun e => (OT.offB OU6.out KG6.out (by decide)) q hq e.symm)) (Nat.le_trans HB2.out.size HWT.out)
    · exact HEE.out.keep fun q hq => Below.heap_setCell _ _ _ _ (fun e => (HEE.out.off KG6.out ty_qe q hq) e.symm)
end Go.Proofs.YtjngangojgjceaaGreat.EX
namespace Go.Proofs.YtjngangojgjceaaGreat.EX
open Go.ChangeShapes Go.WideShapes Go.ChangeAt Go.RowKit Go.Maps Go.ChangeMaps
open Go.Proofs.YtjngangojgjceaaGreat.SL Go.Proofs.YtjngangojgjceaaGreat.RW
set_option maxRecDepth 100000
set_option linter.unusedVariables false
set_option linter.unusedSimpArgs false

def entE : Value → Option (DataW Unit × List MemPlace)
  | .agg cs => match cs.toList with
    | [.string k, .int .i64 a, .int .i64 s] => some (.agg [.lit (.string k.data.toList), .lit (.int .i64 a), .lit (.int .i64 s)], [])
    | _ => none
  | _ => none
def zE : Et := (ByteArray.empty, 0, 0)
def eD1 (e : Et) : DataW Unit := .agg [.lit (.string e.1.data.toList), .lit (.int .i64 e.2.1), .lit (.int .i64 e.2.2)]
def eD (o : Option Et) : DataW Unit := eD1 (o.getD zE)
theorem entE_mk (e : Et) : entE (eV e) = some (eD1 e, []) := rfl
theorem entE_inv {v : Value} {e : Et} {ps : List MemPlace} (h : entE v = some (eD1 e, ps)) : v = eV e := by
  unfold entE at h
  split at h
  · rename_i cs
    split at h
    · rename_i k a s hcs
      simp only [eD1, Option.some.injEq, Prod.mk.injEq, DataW.agg.injEq, List.cons.injEq, DataW.lit.injEq, Lit.string.injEq, Lit.int.injEq, true_and, and_true] at h
      obtain ⟨⟨h1, h2, h3⟩, _⟩ := h
      obtain ⟨ek, ea, es⟩ := e
      simp only at h1 h2 h3
      subst h2 h3
      have hk : k = ek := by
        obtain ⟨⟨kd⟩⟩ := k
        obtain ⟨⟨ed⟩⟩ := ek
        simp only at h1
        rw [h1]
      subst hk
      obtain ⟨cl⟩ := cs
      simp only at hcs
      rw [hcs]
    · cases h
  · cases h
/-- the block is a map from texts to entries, of at most n entries, of just s -/
def MapF (w : World) (b n : Nat) (f : ByteArray → Option Et) (s : Nat) : Prop :=
  ∃ D, w.ownsMap Tryz.prog 9 entE b n D ∧ (∀ k : ByteArray, D.atKey (.string k.data.toList) (eD none) = eD (f k)) ∧ (∀ k : ByteArray, Maps.has D (.string k.data.toList) = (f k).isSome) ∧ Maps.size D = s
theorem MapF.lt {w : World} {b n s : Nat} {f : ByteArray → Option Et} (h : MapF w b n f s) : b < w.heap.size := by
  obtain ⟨D, h, _⟩ := h; exact h.lt
theorem MapF.made (w : World) : MapF (w.alloc (.map #[] 0)) w.heap.size 0 (fun _ => none) 0 := ⟨.map [], World.ownsMap_made _ _ _ _, fun k => rfl, fun k => rfl, rfl⟩
theorem MapF.keep {w w' : World} {b n s : Nat} {f : ByteArray → Option Et} (h : MapF w b n f s) (e : w'.heap[b]? = w.heap[b]?) : MapF w' b n f s := by
  obtain ⟨D, ⟨es, clock, hb, r⟩, hf⟩ := h
  exact ⟨D, ⟨es, clock, e.trans hb, r⟩, hf⟩
theorem MapF.below {w w' : World} {b n s : Nat} {f : ByteArray → Option Et} (h : MapF w b n f s) (hb : Below w.heap.size w w') : MapF w' b n f s := h.keep (hb.block b h.lt)
theorem key_ne {x k : ByteArray} (h : x ≠ k) : Lit.string x.data.toList ≠ Lit.string k.data.toList := lit_ne h
theorem MapF.putD {w w' : World} {b n m s : Nat} {f : ByteArray → Option Et} {D : DataW Unit} (h : w.ownsMap Tryz.prog 9 entE b n D) (h1 : ∀ k : ByteArray, D.atKey (.string k.data.toList) (eD none) = eD (f k)) (h2 : ∀ k : ByteArray, Maps.has D (.string k.data.toList) = (f k).isSome) (h3 : Maps.size D = s) {k : ByteArray} (hk : f k = none) {e : Et}
    (h' : w'.ownsMap Tryz.prog 9 entE b m (D.put (.string k.data.toList) (eD1 e))) : MapF w' b m (fun x => if x = k then some e else f x) (s + 1) := by
  refine ⟨_, h', fun x => ?_, fun x => ?_, ?_⟩
  · show _ = eD (if x = k then some e else f x)
    by_cases hx : x = k
    · subst hx; rw [if_pos rfl]; exact atKey_put_same (h.isMap) (show WideAt.IsKeyLit (Lit.string _) from trivial) _ _
    · rw [if_neg hx, atKey_put_other (key_ne hx)]; exact h1 x
  · show _ = (if x = k then some e else f x).isSome
    by_cases hx : x = k
    · subst hx; rw [if_pos rfl]; exact has_put_same h.isMap (show WideAt.IsKeyLit (Lit.string _) from trivial) _
    · rw [if_neg hx, has_put_other (key_ne hx)]; exact h2 x
  · rw [size_put (h.tidy strK), h2 k, hk, if_neg (by simp), h3]
theorem MapF.delD {w w' : World} {b n s : Nat} {f : ByteArray → Option Et} {D : DataW Unit} (h : w.ownsMap Tryz.prog 9 entE b n D) (h1 : ∀ k : ByteArray, D.atKey (.string k.data.toList) (eD none) = eD (f k)) (h2 : ∀ k : ByteArray, Maps.has D (.string k.data.toList) = (f k).isSome) (h3 : Maps.size D = s + 1) {k : ByteArray} (hk : (f k).isSome = true)
    (h' : w'.ownsMap Tryz.prog 9 entE b n (D.del (.string k.data.toList))) : MapF w' b n (fun x => if x = k then none else f x) s := by
  refine ⟨_, h', fun x => ?_, fun x => ?_, ?_⟩
  · show _ = eD (if x = k then none else f x)
    by_cases hx : x = k
    · subst hx; rw [if_pos rfl]; exact atKey_del_same _
    · rw [if_neg hx, atKey_del_other (key_ne hx)]; exact h1 x
  · show _ = (if x = k then none else f x).isSome
    by_cases hx : x = k
    · subst hx; rw [if_pos rfl]; exact has_del_same
    · rw [if_neg hx, has_del_other (key_ne hx)]; exact h2 x
  · have := size_del (k := .string k.data.toList) (h.tidy strK)
    rw [h2 k, hk, if_pos rfl, h3] at this
    omega
/-- 'e, ok := m[k]' -/
theorem MapF.look {w : World} {b n s : Nat} {f : ByteArray → Option Et} (h : MapF w b n f s) (k : ByteArray) (hk : k.size ≤ 281474976710656) :
    (Instr.lookup 112 (.map (some b)) (.string k) true).run Tryz.prog w = .ok (.tuple #[eV ((f k).getD zE), .bool (f k).isSome]) w := by
  obtain ⟨D, hm, h1, h2, _⟩ := h
  have hz : (zeroValue 131).run Tryz.prog w = .ok (eV zE) w := by
    obtain ⟨i, hi, hz, _, _⟩ := iEnt
    simp [zeroValue, typeInfo, hi, hz]; exact ⟨rfl, rfl, rfl⟩
  obtain ⟨v, ps, hr, hv⟩ := hm.look_ok strK Tryz.underlying112 hz (zd := eD none) (zp := []) (entE_mk zE) (keyB k hk)
  rw [h1 k] at hv
  rw [hr, h2 k, entE_inv (e := (f k).getD zE) hv]
theorem MapF.len {w : World} {b n s : Nat} {f : ByteArray → Option Et} (h : MapF w b n f s) (ty : TypeId) : (Builtin.len_ #[112] ty #[.map (some b)]).run Tryz.prog w = .ok (.int .i64 (s : Int)) w := by
  obtain ⟨D, hm, _, _, h3⟩ := h
  have := hm.len Tryz.underlying112 ty
  rw [h3] at this
  exact this
theorem bk_nomapF {w : World} {g b n s : Nat} {t : TypeId} {cs : Array Value} {f : ByteArray → Option Et} (h : Bk w g t cs) (hm : MapF w b n f s) : g ≠ b := by
  rintro rfl
  obtain ⟨D, ⟨es, clock, hb, _⟩, _⟩ := hm
  unfold Bk at h
  rw [h] at hb
  cases hb
def fnd (k : ByteArray) (L : List Et) : Option Et := L.find? fun e => decide (e.1 = k)
theorem fnd_app (k : ByteArray) (A C : List Et) : fnd k (A ++ C) = (fnd k A).or (fnd k C) := List.find?_append
theorem fnd_none {k : ByteArray} {L : List Et} : fnd k L = none ↔ ∀ e ∈ L, e.1 ≠ k := by unfold fnd; rw [List.find?_eq_none]; simp
theorem fnd_mem {k : ByteArray} {L : List Et} {e : Et} (h : fnd k L = some e) : e ∈ L ∧ e.1 = k := ⟨List.mem_of_find?_eq_some h, by simpa using List.find?_some h⟩
theorem fnd_drop (k y : ByteArray) (L : List Et) : fnd y (dropL k L) = if y = k then none else fnd y L := by
  by_cases h : y = k
  · subst h
    rw [if_pos rfl, fnd_none]
    intro e he
    exact of_decide_eq_true (List.mem_filter.1 he).2
  · rw [if_neg h]
    unfold fnd dropL
    rw [List.find?_filter]
    congr 1
    funext e
    by_cases he : e.1 = y
    · have : e.1 ≠ k := fun e2 => h (he.symm.trans e2)
      simp [he, h]
    · simp [he]
theorem fnd_set {n : Int} {L : List Et} (h : Srt n L) (k y : ByteArray) (t m : Int) : fnd y (setL k t m L) = if y = k then some (k, t, m) else fnd y L := by
  have hd := h.drop k
  unfold setL
  rw [fnd_app]
  by_cases hy : y = k
  · subst hy
    rw [if_pos rfl]
    have : fnd y (leL t (dropL y L)) = none := fnd_none.2 fun e he => of_decide_eq_true (List.mem_filter.1 (List.mem_filter.1 he).1).2
    rw [this]
    unfold fnd
    rw [List.find?_cons_of_pos (by simp)]
    rfl
  · rw [if_neg hy]
    have e1 : fnd y ((k, t, m) :: gtL t (dropL k L)) = fnd y (gtL t (dropL k L)) := by
      unfold fnd
      rw [List.find?_cons_of_neg (by simp; exact fun e => hy e.symm)]
    rw [e1, ← fnd_app, ← hd.split t, fnd_drop, if_neg hy]
/-- a queue's blocks and entries -/
structure Qx where
  m : Nat
  ob : Nat
  a : Option Addr
  c : Nat
  L : List Et
def Qx.v (x : Qx) : Value := .slice x.a x.L.length x.c
abbrev qC (g n : Nat) (x : Qx) : Array Value := #[ptr g, .int .i64 (n : Int), .map (some x.m), .slice (some ⟨x.ob, 0, none⟩) 1 1]
def Qx.own (x : Qx) (g b : Nat) : Prop := b = g ∨ b = x.m ∨ b = x.ob ∨ x.v.ownBlock = some b
structure QT (B : Nat) (w : World) (g n : Nat) (x : Qx) : Prop where
  bk : Bk w g 129 (qC g n x)
  ko : Bk w x.ob 168 #[x.v]
  eq : EQ B w x.v x.L
  mp : MapF w x.m n (fun k => fnd k x.L) x.L.length
  sr : Srt (n : Int) x.L
  le : x.L.length ≤ n
  bs : B ≤ g ∧ B ≤ x.m ∧ B ≤ x.ob
section
variable {B : Nat} {w w' : World} {g n : Nat} {x : Qx}
theorem QT.keep (h : QT B w g n x) (hk : ∀ b, x.own g b → w'.heap[b]? = w.heap[b]?) : QT B w' g n x :=
  ⟨h.bk.heap (hk g (.inl rfl)), h.ko.heap (hk _ (.inr (.inr (.inl rfl)))), h.eq.keep fun q hq => hk q (.inr (.inr (.inr hq))), h.mp.keep (hk _ (.inr (.inl rfl))), h.sr, h.le, h.bs⟩
theorem QT.lt (h : QT B w g n x) {b : Nat} (hb : x.own g b) : b < w.heap.size := by
  rcases hb with rfl | rfl | rfl | hb
  · exact h.bk.lt
  · exact h.mp.lt
  · exact h.ko.lt
  · exact (h.eq.lt b hb).2
theorem QT.ge (h : QT B w g n x) {b : Nat} (hb : x.own g b) : B ≤ b := by
  rcases hb with rfl | rfl | rfl | hb
  · exact h.bs.1
  · exact h.bs.2.1
  · exact h.bs.2.2
  · exact (h.eq.lt b hb).1
theorem QT.below (h : QT B w g n x) (hb : Below w.heap.size w w') : QT B w' g n x := h.keep fun b ho => hb.block b (h.lt ho)
theorem QT.chg {S : Nat → Prop} (h : QT B w g n x) (hc : Chg S w w') (hs : ∀ b, x.own g b → ¬ S b) : QT B w' g n x := h.keep fun b ho => hc.block b (h.lt ho) (hs b ho)
theorem QT.cells (h : QT B w g n x) : w.cell? ⟨g, 0, none⟩ = some (ptr g) ∧ w.cell? ⟨g, 1, none⟩ = some (.int .i64 (n : Int)) ∧ w.cell? ⟨g, 2, none⟩ = some (.map (some x.m)) ∧ w.cell? ⟨g, 3, none⟩ = some (.slice (some ⟨x.ob, 0, none⟩) 1 1) ∧ w.cell? ⟨x.ob, 0, none⟩ = some x.v :=
  ⟨h.bk.cell 0, h.bk.cell 1, h.bk.cell 2, h.bk.cell 3, h.ko.cell 0⟩
end
end Go.Proofs.YtjngangojgjceaaGreat.EX
namespace Go.Proofs.YtjngangojgjceaaGreat.CA
open Go.ChangeShapes Go.WideShapes Go.ChangeAt Go.RowKit Go.Maps Go.ChangeMaps
open Go.Proofs.YtjngangojgjceaaGreat.SL
set_option maxRecDepth 100000
set_option linter.unusedVariables false
set_option linter.unusedSimpArgs false

theorem toL_ne {s : ByteArray} (h : s ≠ ⟨#[]⟩) : s.toList.isEmpty = false := by
  cases hs : s.toList.isEmpty with
  | false => rfl
  | true =>
    exfalso; apply h
    have h2 : s.toList = [] := List.isEmpty_iff.1 hs
    rw [Lib.toList_data] at h2
    obtain ⟨⟨d⟩⟩ := s
    simp only at h2
    subst h2; rfl
set_option maxHeartbeats 2000000 in
theorem size_any (k : Ky) (v : ByteArray) (hk : FitK k) (hv : v.size ≤ 1099511627776) (w : World) :
    Calls Tryz.prog 33 #[kyV k, .string v] w fun e w' => e = .returned (.int .i64 (szK k v)) ∧ Below w.heap.size w w' := by
  obtain ⟨g0, hg0⟩ : ∃ g, w.heap.size = g := ⟨_, rfl⟩
  obtain ⟨W, hW⟩ : ∃ W, w.alloc (.cells (kC k) 32) = W := ⟨_, rfl⟩
  have hbW : Below w.heap.size w W := by rw [← hW]; exact (Below.refl _ _).alloc (Nat.le_refl _) _
  have ka : Bk W g0 32 (kC k) := by rw [← hW, ← hg0]; exact Bk.new _ _ _
  have HC := Lib.hid (text_any k hk W)
  obtain ⟨R, hR⟩ : ∃ R, szK k v = R := ⟨_, rfl⟩
  rw [hR]
  cases hr : rightK k with
  | false =>
    have HR : Hid (R = 0) := Lib.hid (by rw [← hR]; unfold szK; rw [if_neg (by rw [hr]; decide)])
    rw [txt_not hr] at HC
    have HBW := Lib.hid hbW
    clear hbW hR hr hk hv
    obtain ⟨db, ro, fm, no⟩ := k
    have a0 : W.cell? ⟨g0, 0, none⟩ = some (.string db) := ka.cell 0
    have a1 : W.cell? ⟨g0, 1, none⟩ = some (.string ro) := ka.cell 1
    have a2 : W.cell? ⟨g0, 2, none⟩ = some (.int .i64 fm) := ka.cell 2
    have a3 : W.cell? ⟨g0, 3, none⟩ = some (.string no) := ka.cell 3
    clear ka
    go_enter Tryz.func33, Tryz.ntmps33
    go_wp2_with fail
    try rw [hW, hg0]
    refine HC.out.mono ?_
    rintro e w1 ⟨rfl, hb1⟩
    have HB := Lib.hid (HBW.out.trans (hb1.mono HBW.out.size))
    clear hb1 HC
    go_wp2
    go_ret
    exact ⟨by rw [HR.out]; rfl, HB.out⟩
  | true =>
    have hts := text_size hr
    obtain ⟨h1, h2, h3, _⟩ := hk
    have hne := toL_ne (text_ne hr)
    have HR0 : R = 16 + ((textK k).size : Int) + (v.size : Int) := by rw [← hR]; unfold szK; rw [if_pos hr]
    rw [txt_right hr] at HC
    obtain ⟨P, hP⟩ : ∃ P, textK k = P := ⟨_, rfl⟩
    rw [hP] at HC HR0 hne hts
    have HR := Lib.hid HR0
    clear HR0
    have w1 : IntKind.i64.wrap (16 + (P.size : Int)) = 16 + (P.size : Int) := IntWalk.i64_in _ (by omega)
    have w2 : IntKind.i64.wrap (16 + (P.size : Int) + (v.size : Int)) = 16 + (P.size : Int) + (v.size : Int) := IntWalk.i64_in _ (by omega)
    have HBW := Lib.hid hbW
    clear hbW hR hr hv h1 h2 h3 hts hP
    obtain ⟨db, ro, fm, no⟩ := k
    have a0 : W.cell? ⟨g0, 0, none⟩ = some (.string db) := ka.cell 0
    have a1 : W.cell? ⟨g0, 1, none⟩ = some (.string ro) := ka.cell 1
    have a2 : W.cell? ⟨g0, 2, none⟩ = some (.int .i64 fm) := ka.cell 2
    have a3 : W.cell? ⟨g0, 3, none⟩ = some (.string no) := ka.cell 3
    clear ka
    go_enter Tryz.func33, Tryz.ntmps33
    go_wp2_with fail
    try rw [hW, hg0]
    refine HC.out.mono ?_
    rintro e w3 ⟨rfl, hb1⟩
    have HB := Lib.hid (HBW.out.trans (hb1.mono HBW.out.size))
    clear hb1 HC
    go_wp2
    go_ret
    exact ⟨by rw [HR.out]; rfl, HB.out⟩
abbrev zkC : Array Value := #[.string ⟨#[]⟩, .string ⟨#[]⟩, .int .i64 0, .string ⟨#[]⟩]
theorem gt_to (s : ByteArray) (a : Int) (hs : s.size ≤ 281474976710656) (x : ByteArray) (p e : Int) (h : gText s a = (x, p, e)) (w : World) :
    Calls Tryz.prog 73 #[.string s, .int .i64 a] w fun r w' => r = .returned (.tuple #[.string x, .int .i64 p, .int .i64 e]) ∧ Below w.heap.size w w' := by
  have := getText_any s a w hs
  rw [h] at this
  exact this
theorem gn_to (s : ByteArray) (a : Int) (hs : s.size ≤ 281474976710656) (x : Int) (p e : Int) (h : g16 s a = (x, p, e)) (w : World) :
    Calls Tryz.prog 74 #[.string s, .int .i64 a] w fun r w' => r = .returned (.tuple #[.int .i64 x, .int .i64 p, .int .i64 e]) ∧ Below w.heap.size w w' := by
  have := get16_any s a w hs
  rw [h] at this
  exact this
theorem g16_in (s : ByteArray) (a : Int) : -32768 ≤ (g16 s a).1 ∧ (g16 s a).1 ≤ 32767 := by
  unfold g16
  split
  · exact ⟨by decide, by decide⟩
  · split
    · exact ⟨by decide, by decide⟩
    · refine sgn16_in _ ?_
      rename_i h1 h2
      have hi : 0 ≤ a ∧ a ≤ s.size := by simpa [insB] using h1
      have := beN_lt (s.extract a.toNat (a + 2).toNat).data.toList
      have hlen : (s.extract a.toNat (a + 2).toNat).data.toList.length = 2 := by rw [← Lib.size_eq]; simp; omega
      rw [hlen] at this
      omega
def ParP (s : ByteArray) (w : World) (e : Ending) (w' : World) : Prop := e = .returned (.tuple #[kyV (parK s), .bool (okP s)]) ∧ Below w.heap.size w w'
set_option maxHeartbeats 4000000 in
theorem parse_any (s : ByteArray) (hs : s.size ≤ 1099511627776) (w : World) :
    Calls Tryz.prog 36 #[.string s] w (ParP s w) := by
  obtain ⟨⟨x1, p1, e1⟩, h1⟩ : ∃ r, gText s 0 = r := ⟨_, rfl⟩
  obtain ⟨⟨x2, p2, e2⟩, h2⟩ : ∃ r, gText s p1 = r := ⟨_, rfl⟩
  obtain ⟨⟨n, p3, e3⟩, h3⟩ : ∃ r, g16 s p2 = r := ⟨_, rfl⟩
  obtain ⟨⟨x4, p4, e4⟩, h4⟩ : ∃ r, gText s p3 = r := ⟨_, rfl⟩
  have hrd : readK s = (x1, x2, n, x4) := by unfold readK; rw [h1]; simp only; rw [h2]; simp only; rw [h3]; simp only; rw [h4]
  have hle := read_le s
  have hin := g16_in s p2
  rw [hrd] at hle
  rw [h3] at hin
  simp only at hle hin
  have hfit : FitK (x1, x2, n, x4) := ⟨by show x1.size ≤ _; omega, by show x2.size ≤ _; omega, by show x4.size ≤ _; omega, by show _ ≤ n; omega, by show n ≤ _; omega⟩
  obtain ⟨T, hT⟩ : ∃ T, txt (x1, x2, n, x4) = T := ⟨_, rfl⟩
  have htr := txt_read s
  rw [hrd, hT] at htr
  have hpar : parK s = if okP s = true then (x1, x2, n, x4) else zK := by unfold parK; rw [hrd]
  have c1 := fun w => gt_to s 0 (by omega) _ _ _ h1 w
  have c2 := fun w => gt_to s p1 (by omega) _ _ _ h2 w
  have c3 := fun w => gn_to s p2 (by omega) _ _ _ h3 w
  have c4 := fun w => gt_to s p3 (by omega) _ _ _ h4 w
  have c5 := fun w => text_any (x1, x2, n, x4) hfit w
  rw [hT] at c5
  obtain ⟨K, hK⟩ : ∃ K, parK s = K := ⟨_, rfl⟩
  obtain ⟨B, hB⟩ : ∃ B, okP s = B := ⟨_, rfl⟩
  unfold ParP
  rw [hB] at htr
  rw [hB, hK] at hpar
  rw [hB, hK]
  have HTR := Lib.hid htr
  have HPAR := Lib.hid hpar
  have C1 := Lib.hid c1
  have C2 := Lib.hid c2
  have C3 := Lib.hid c3
  have C4 := Lib.hid c4
  have C5 := Lib.hid c5
  clear h1 h2 h3 h4 hrd hle hin hfit hT htr hpar c1 c2 c3 c4 c5 hK hB hs
  obtain ⟨rb, hrb⟩ : ∃ g, w.heap.size = g := ⟨_, rfl⟩
  obtain ⟨W, hW⟩ : ∃ W, w.alloc (.cells zkC 32) = W := ⟨_, rfl⟩
  have hbW : Below w.heap.size w W := by rw [← hW]; exact (Below.refl _ _).alloc (Nat.le_refl _) _
  have ka : Bk W rb 32 zkC := by rw [← hW, ← hrb]; exact Bk.new _ _ _
  have HB := Lib.hid hbW
  have HK := Lib.hid ka
  have HRB : Hid (w.heap.size ≤ rb) := Lib.hid (by omega)
  clear hbW ka
  go_enter Tryz.func36, Tryz.ntmps36
  go_wp2_with fail
  try rw [hW]
  try rw [hrb]
  refine (C1.out _).mono ?_
  rintro e w1 ⟨rfl, hb⟩
  have HK := Lib.hid (HK.out.below hb)
  have HB := Lib.hid (HB.out.trans (hb.mono HB.out.size))
  clear hb hW
  go_wp2_with fail
  refine (C2.out _).mono ?_
  rintro e w2 ⟨rfl, hb⟩
  have HK := Lib.hid (HK.out.below hb)
  have HB := Lib.hid (HB.out.trans (hb.mono HB.out.size))
  clear hb
  go_wp2_with fail
  refine (C3.out _).mono ?_
  rintro e w3 ⟨rfl, hb⟩
  have HK := Lib.hid (HK.out.below hb)
  have HB := Lib.hid (HB.out.trans (hb.mono HB.out.size))
  clear hb
  go_wp2_with fail
  refine (C4.out _).mono ?_
  rintro e w4 ⟨rfl, hb⟩
  have HK := Lib.hid (HK.out.below hb)
  have HB := Lib.hid (HB.out.trans (hb.mono HB.out.size))
  clear hb
  obtain ⟨kb, hkb⟩ : ∃ g, w4.heap.size = g := ⟨_, rfl⟩
  obtain ⟨W, hW⟩ : ∃ W, w4.alloc (.cells #[.string x1, .string x2, .int .i64 n, .string x4] 32) = W := ⟨_, rfl⟩
  have hbW : Below w4.heap.size w4 W := by rw [← hW]; exact (Below.refl _ _).alloc (Nat.le_refl _) _
  have kk : Bk W kb 32 #[.string x1, .string x2, .int .i64 n, .string x4] := by rw [← hW, ← hkb]; exact Bk.new _ _ _
  have HKK := Lib.hid kk
  have HKB : Hid (rb < kb) := Lib.hid (by rw [← hkb]; exact HK.out.lt)
  have HK := Lib.hid (HK.out.below hbW)
  have HB := Lib.hid (HB.out.trans (hbW.mono HB.out.size))
  have q0 : W.cell? ⟨kb, 0, none⟩ = some (.string x1) := kk.cell 0
  have q1 : W.cell? ⟨kb, 1, none⟩ = some (.string x2) := kk.cell 1
  have q2 : W.cell? ⟨kb, 2, none⟩ = some (.int .i64 n) := kk.cell 2
  have q3 : W.cell? ⟨kb, 3, none⟩ = some (.string x4) := kk.cell 3
  clear hbW kk
  go_wp2_with fail
  try rw [hW]
  try rw [hkb]
  refine (C5.out _).mono ?_
  rintro e w6 ⟨rfl, hb⟩
  have kk := HKK.out.below hb
  have kr := HK.out.below hb
  have HKR := Lib.hid kr
  have HB := Lib.hid (HB.out.trans (hb.mono HB.out.size))
  have q0 : w6.cell? ⟨kb, 0, none⟩ = some (.string x1) := kk.cell 0
  have q1 : w6.cell? ⟨kb, 1, none⟩ = some (.string x2) := kk.cell 1
  have q2 : w6.cell? ⟨kb, 2, none⟩ = some (.int .i64 n) := kk.cell 2
  have q3 : w6.cell? ⟨kb, 3, none⟩ = some (.string x4) := kk.cell 3
  have r0 : w6.cell? ⟨rb, 0, none⟩ = some (.string ⟨#[]⟩) := kr.cell 0
  have r1 : w6.cell? ⟨rb, 1, none⟩ = some (.string ⟨#[]⟩) := kr.cell 1
  have r2 : w6.cell? ⟨rb, 2, none⟩ = some (.int .i64 0) := kr.cell 2
  have r3 : w6.cell? ⟨rb, 3, none⟩ = some (.string ⟨#[]⟩) := kr.cell 3
  have f0 := kr.frozen 0
  have f1 := kr.frozen 1
  have f2 := kr.frozen 2
  have f3 := kr.frozen 3
  have es : (T.toList == s.toList) = B := by
    rw [tl_dec, Bool.eq_iff_iff, decide_eq_true_iff]; exact HTR.out
  clear hb kk kr hW HK HKK HTR C1 C2 C3 C4 C5
  cases B with
  | true =>
    have HE : Hid (K = (x1, x2, n, x4)) := Lib.hid (by rw [HPAR.out, if_pos rfl])
    clear HPAR
    go_wp2
    have k0 := (((HKR.out.set_ 0 (.string x1)).set_ 1 (.string x2)).set_ 2 (.int .i64 n)).set_ 3 (.string x4)
    have hb3 := (((HB.out.setCell (p := ⟨rb, 0, none⟩) (HRB.out) (.string x1)).setCell (p := ⟨rb, 1, none⟩) (HRB.out) (.string x2)).setCell (p := ⟨rb, 2, none⟩) (HRB.out) (.int .i64 n)).setCell (p := ⟨rb, 3, none⟩) (HRB.out) (.string x4)
    obtain ⟨W3, hW3⟩ : ∃ W, (((w6.setCell ⟨rb, 0, none⟩ (.string x1)).setCell ⟨rb, 1, none⟩ (.string x2)).setCell ⟨rb, 2, none⟩ (.int .i64 n)).setCell ⟨rb, 3, none⟩ (.string x4) = W := ⟨_, rfl⟩
    rw [hW3] at k0 hb3 ⊢
    have e0 : W3.cell? ⟨rb, 0, none⟩ = some (.string x1) := k0.cell 0
    have e1 : W3.cell? ⟨rb, 1, none⟩ = some (.string x2) := k0.cell 1
    have e2 : W3.cell? ⟨rb, 2, none⟩ = some (.int .i64 n) := k0.cell 2
    have e3 : W3.cell? ⟨rb, 3, none⟩ = some (.string x4) := k0.cell 3
    exact bodyPost_ret (v := .tuple #[kyV (x1, x2, n, x4), .bool true]) (by simp [results, Tryz.results36, go_sem, e0, e1, e2, e3]) rfl ⟨by rw [HE.out], hb3⟩
  | false =>
    have HE : Hid (K = zK) := Lib.hid (by rw [HPAR.out, if_neg (by decide)])
    clear HPAR
    go_wp2
    have k0 := (((HKR.out.set_ 0 (.string ⟨#[]⟩)).set_ 1 (.string ⟨#[]⟩)).set_ 2 (.int .i64 0)).set_ 3 (.string ⟨#[]⟩)
    have hb3 := (((HB.out.setCell (p := ⟨rb, 0, none⟩) (HRB.out) (.string ⟨#[]⟩)).setCell (p := ⟨rb, 1, none⟩) (HRB.out) (.string ⟨#[]⟩)).setCell (p := ⟨rb, 2, none⟩) (HRB.out) (.int .i64 0)).setCell (p := ⟨rb, 3, none⟩) (HRB.out) (.string ⟨#[]⟩)
    obtain ⟨W3, hW3⟩ : ∃ W, (((w6.setCell ⟨rb, 0, none⟩ (.string ⟨#[]⟩)).setCell ⟨rb, 1, none⟩ (.string ⟨#[]⟩)).setCell ⟨rb, 2, none⟩ (.int .i64 0)).setCell ⟨rb, 3, none⟩ (.string ⟨#[]⟩) = W := ⟨_, rfl⟩
    rw [hW3] at k0 hb3 ⊢
    have e0 : W3.cell? ⟨rb, 0, none⟩ = some (.string ⟨#[]⟩) := k0.cell 0
    have e1 : W3.cell? ⟨rb, 1, none⟩ = some (.string ⟨#[]⟩) := k0.cell 1
    have e2 : W3.cell? ⟨rb, 2, none⟩ = some (.int .i64 0) := k0.cell 2
    have e3 : W3.cell? ⟨rb, 3, none⟩ = some (.string ⟨#[]⟩) := k0.cell 3
    exact bodyPost_ret (v := .tuple #[kyV zK, .bool false]) (by simp [results, Tryz.results36, go_sem, e0, e1, e2, e3, zK]) rfl ⟨by rw [HE.out], hb3⟩
end Go.Proofs.YtjngangojgjceaaGreat.CA
