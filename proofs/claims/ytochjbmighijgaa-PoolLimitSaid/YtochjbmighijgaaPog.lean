/- Package pool, a group alone: place, wake, lay; what its line does. Conditions: idle ones rise; how many. -/
import Derived.Test.YtochjbmighijgaaPof
namespace Go.Proofs.Ytochjbmighijgaa.PO
open Go.ChangeShapes Go.WideShapes Go.ChangeAt Go.RowKit Go.Maps Go.ChangeMaps
open Go.Proofs.Ytochjbmighijgaa.SL Go.Proofs.Ytochjbmighijgaa.RW
open Go.Proofs.Ytochjbmighijgaa.LN (tkY tkN pu OI IS RdP)
set_option maxRecDepth 100000
set_option linter.unusedVariables false
set_option linter.unusedSimpArgs false

open Go.Proofs.Ytochjbmighijgaa.LN (Own Jk LC joinS firstS leaveS lateS isLate goneS stayS)
section
variable {B : Nat} {w w' w1 : World} {mo g : Nat} {q : Row} {m : Mem}
/-- the group's idle ones turned -/
theorem turned_idle (h : RowP B w mo g q m) {v' : Value} {l' : List Rs} (hd : EQ B w1 v' l') (hg : w.grownBy w1 m.iv.ownBlock) (ho : ∀ b, v'.ownBlock = some b → m.iv.ownBlock = some b ∨ w.heap.size ≤ b) :
    Turned B w mo g m { q with idle := l' } (w1.setCell ⟨g, 2, none⟩ v') := by
  have same : ∀ b, b < w.heap.size → m.iv.ownBlock ≠ some b → w1.heap[b]? = w.heap[b]? := fun b hb hn => hg.block b hb (fun e => hn e.symm)
  have far : ∀ k, k ≠ g → (w1.setCell ⟨g, 2, none⟩ v').heap[k]? = w1.heap[k]? := fun k hk => Below.heap_setCell w1 ⟨g, 2, none⟩ v' k hk
  have k1 : Bk w1 g 65 #[.string q.name, nV (q.conns : Int), m.iv, ptr m.lb] := h.bk.heap (same g h.bk.lt fun e => h.ne_iv e rfl)
  have hv : ∀ b, v'.ownBlock = some b → b ≠ g := by
    rintro b hb rfl
    obtain ⟨_, cur, fr, hc⟩ := hd.ty b hb
    unfold Bk at k1
    rw [hc] at k1
    injection k1 with k1
    injection k1 with _ k1
    exact absurd k1 (by decide)
  refine ⟨⟨v', m.lb, m.lv⟩, ⟨k1.set_ 2 v', hd.keep fun b hb => far b (hv b hb), ?_, h.ge, h.nm⟩, ?_, fun b hb => ?_⟩
  · exact h.ln.keep ((far _ h.ne_lb).trans (same _ h.ln.bk.lt fun e => h.iv_lb e rfl)) fun b hb => (far b (h.ne_lv hb)).trans (same b (h.ln.ws.lt b hb).2 fun e => h.iv_lv e hb)
  · exact ((Chg.refl (m.own g) w).grown hg fun k hk _ => .inr (.inl hk)).setCell (p := ⟨g, 2, none⟩) (.inl rfl) _
  · rcases hb with rfl | hb | rfl | hb
    · exact .inl (.inl rfl)
    · exact (ho b hb).imp (fun h => .inr (.inl h)) id
    · exact .inl (.inr (.inr (.inl rfl)))
    · exact .inl (.inr (.inr (.inr hb)))
/-- how many it has -/
theorem turned_conns (h : RowP B w mo g q m) (n : Nat) : Turned B w mo g m { q with conns := n } (w.setCell ⟨g, 1, none⟩ (nV (n : Int))) := by
  have far : ∀ k, k ≠ g → (w.setCell ⟨g, 1, none⟩ (nV (n : Int))).heap[k]? = w.heap[k]? := fun k hk => Below.heap_setCell w ⟨g, 1, none⟩ _ k hk
  exact ⟨m, ⟨h.bk.set_ 1 _, h.iq.keep fun b hb => far b (h.ne_iv hb), h.ln.keep (far _ h.ne_lb) fun b hb => far b (h.ne_lv hb), h.ge, h.nm⟩, (Chg.refl (m.own g) w).setCell (p := ⟨g, 1, none⟩) (.inl rfl) _, fun b hb => .inl hb⟩
/-- its line turned -/
theorem turned_line (h : RowP B w mo g q m) {v' : Value} {l' : List Wt} (hl : LC B w1 m.lb mo v' l') (ho : Own w m.lv v') (hc : Chg (fun b => b = m.lb ∨ m.lv.ownBlock = some b) w w1) : Turned B w mo g m { q with line := l' } w1 := by
  have same : ∀ b, b < w.heap.size → b ≠ m.lb → m.lv.ownBlock ≠ some b → w1.heap[b]? = w.heap[b]? := fun b hb h1 h2 => hc.block b hb (fun e => e.elim h1 h2)
  refine ⟨⟨m.iv, m.lb, v'⟩, ⟨h.bk.heap (same g h.bk.lt h.ne_lb.symm fun e => h.ne_lv e rfl), h.iq.keep fun b hb => same b (h.iq.lt b hb).2 (h.iv_lb hb) (h.iv_lv hb), hl, h.ge, h.nm⟩, hc.mono fun b _ e => e.elim (fun e => .inr (.inr (.inl e))) fun e => .inr (.inr (.inr e)), fun b hb => ?_⟩
  rcases hb with rfl | hb | rfl | hb
  · exact .inl (.inl rfl)
  · exact .inl (.inr (.inl hb))
  · exact .inl (.inr (.inr (.inl rfl)))
  · exact (ho b hb).imp (fun h => .inr (.inr (.inr h))) id
theorem join_row (h : RowP B w mo g q m) (id till : Int) :
    Calls Try.prog 25 #[ptr m.lb, nV id, nV till] w fun e w' => e = .returned (nV (joinS mo q.line id till).2) ∧ Turned B w mo g m { q with line := (joinS mo q.line id till).1 } w' := by
  refine (LN.join_any h.ln id till (Nat.le_of_lt (Nat.lt_of_le_of_lt h.ge h.bk.lt))).mono ?_
  rintro e w' ⟨rfl, ⟨v', h1, h2⟩, hj⟩
  exact ⟨rfl, turned_line h h1 h2 ⟨hj.os, hj.tape, hj.output, hj.size, fun b hb hn => hj.block b hb (fun e => hn (.inl e)) (fun e => hn (.inr e))⟩⟩
theorem first_row (h : RowP B w mo g q m) :
    Calls Try.prog 27 #[ptr m.lb] w fun e w' => e = .returned (.tuple #[nV (firstS q.line).2.1, .bool (firstS q.line).2.2]) ∧ Turned B w mo g m { q with line := (firstS q.line).1 } w' := by
  refine (LN.first_any h.ln (Nat.le_of_lt (Nat.lt_of_le_of_lt h.ge h.bk.lt))).mono ?_
  rintro e w' ⟨rfl, ⟨v', h1, h2⟩, hc⟩
  exact ⟨rfl, turned_line h h1 h2 (hc.mono fun b _ e => .inl e)⟩
theorem leave_row (h : RowP B w mo g q m) (id : Int) :
    Calls Try.prog 31 #[ptr m.lb, nV id] w fun e w' => e = .returned (.bool (leaveS q.line id).2) ∧ Turned B w mo g m { q with line := (leaveS q.line id).1 } w' := by
  refine (LN.leave_any h.ln (Nat.le_of_lt (Nat.lt_of_le_of_lt h.ge h.bk.lt)) id).mono ?_
  rintro e w' ⟨rfl, ⟨v', h1, h2⟩, hc⟩
  exact ⟨rfl, turned_line h h1 h2 (hc.mono fun b _ e => .inl e)⟩
theorem late_row (h : RowP B w mo g q m) (now : Int) :
    Calls Try.prog 34 #[ptr m.lb, nV now] w fun e w' => ∃ r, e = .returned r ∧ OI w.heap.size w' r (goneS (isLate now) q.line) ∧ Turned B w mo g m { q with line := stayS (isLate now) q.line } w' := by
  refine (LN.late_any h.ln (Nat.le_of_lt (Nat.lt_of_le_of_lt h.ge h.bk.lt)) now).mono ?_
  rintro e w' ⟨r, rfl, h0, ⟨v', h1, h2⟩, hc⟩
  exact ⟨r, rfl, h0, turned_line h h1 h2 (hc.mono fun b _ e => .inl e)⟩
set_option maxHeartbeats 4000000 in
theorem place_any (h : RowP B w mo g q m) (hu : upE q.idle) (hl : q.idle.length ≤ 1000000) (r : Rs) :
    Calls Try.prog 29 #[ptr g, rV r] w (RdP (nV (lowP (ltE r) q.idle : Nat)) w) := by
  obtain ⟨W, hW⟩ : ∃ W, w.alloc (.cells #[nV r.1, nV r.2] 76) = W := ⟨_, rfl⟩
  obtain ⟨p, hp⟩ : ∃ p, w.heap.size = p := ⟨_, rfl⟩
  have hb0 : Below w.heap.size w W := by rw [← hW]; exact (Below.refl _ _).alloc (Nat.le_refl _) _
  have HR := Lib.hid (h.below hb0)
  have hk : Bk W p 76 #[nV r.1, nV r.2] := by rw [← hW, ← hp]; exact Bk.new _ _ _
  have x2 := HR.out.cells.2.2.1
  have y0 := hk.cell 0
  have y1 := hk.cell 1
  have HB0 := Lib.hid hb0
  have HP : Hid (g < W.heap.size ∧ p < W.heap.size) := Lib.hid ⟨HR.out.bk.lt, hk.lt⟩
  have HS := Lib.hid (fun W' (hb : Below W.heap.size W W') => search_any m.iv q.idle r W' (HR.out.below hb).iq hu hl)
  obtain ⟨R, hR⟩ : ∃ R, lowP (ltE r) q.idle = R := ⟨_, rfl⟩
  rw [hR] at HS ⊢
  obtain ⟨r1, r2⟩ := r
  simp at y0 y1
  obtain ⟨ia, ic, hi⟩ := h.iq.form
  rw [hi] at x2 HS
  clear h hu hl hb0 hk HR hR hi
  go_enter Try.func29, Try.ntmps29
  go_wp2_with fail
  try rw [hp]
  try rw [hW]
  clear hW hp
  refine wp_region_held_drew (S := fun W2 => Below W.heap.size W W2) (by kernel_rfl) ?_ (fun hS => ?_)
  · exact (Below.refl _ _).drew
  refine tkY 0 ?_ rfl hS ?_ ?_
  rotate_left
  · intro wz hz
    have z0 := (hz.cell (p := ⟨g, 2, none⟩) HP.out.1).trans x2
    have z1 := (hz.cell (p := ⟨p, 0, none⟩) HP.out.2).trans y0
    have z2 := (hz.cell (p := ⟨p, 1, none⟩) HP.out.2).trans y1
    go_simp
    all_goals first | with_reducible rfl | omega
  try simp only [Act.put, pu]
  refine tkY 1 ?_ rfl hS ?_ ?_
  rotate_left
  · intro wz hz
    have z0 := (hz.cell (p := ⟨g, 2, none⟩) HP.out.1).trans x2
    have z1 := (hz.cell (p := ⟨p, 0, none⟩) HP.out.2).trans y0
    have z2 := (hz.cell (p := ⟨p, 1, none⟩) HP.out.2).trans y1
    go_simp
    all_goals first | with_reducible rfl | omega
  try simp only [Act.put, pu]
  refine tkY 2 ?_ rfl hS ?_ ?_
  rotate_left
  · intro wz hz
    have z0 := (hz.cell (p := ⟨g, 2, none⟩) HP.out.1).trans x2
    have z1 := (hz.cell (p := ⟨p, 0, none⟩) HP.out.2).trans y0
    have z2 := (hz.cell (p := ⟨p, 1, none⟩) HP.out.2).trans y1
    go_simp
    all_goals first | with_reducible rfl | omega
  try simp only [Act.put, pu]
  refine tkY 3 ?_ rfl hS ?_ ?_
  rotate_left
  · intro wz hz
    have z0 := (hz.cell (p := ⟨g, 2, none⟩) HP.out.1).trans x2
    have z1 := (hz.cell (p := ⟨p, 0, none⟩) HP.out.2).trans y0
    have z2 := (hz.cell (p := ⟨p, 1, none⟩) HP.out.2).trans y1
    go_simp
    all_goals first | with_reducible rfl | omega
  try simp only [Act.put, pu]
  refine tkY 4 ?_ rfl hS ?_ ?_
  rotate_left
  · intro wz hz
    have z0 := (hz.cell (p := ⟨g, 2, none⟩) HP.out.1).trans x2
    have z1 := (hz.cell (p := ⟨p, 0, none⟩) HP.out.2).trans y0
    have z2 := (hz.cell (p := ⟨p, 1, none⟩) HP.out.2).trans y1
    go_simp
    all_goals first | with_reducible rfl | omega
  try simp only [Act.put, pu]
  refine wpAnyH_ready (rs := [5]) (by kernel_rfl) (by simp) (AllReadyH.cons rfl (fun K' hK' => ?_) AllReadyH.nil)
  go_simp
  refine (HS.out _ hS).mono ?_
  rintro e w2 ⟨F, rfl, hb2⟩
  have HB2 := Lib.hid (HB0.out.trans ((hS.trans (hb2.mono hS.size)).mono HB0.out.size))
  have hS2 := hS.trans (hb2.mono hS.size)
  clear hb2
  refine hK'.out _ _ ?_ (fun hSn => ?_)
  · exact hS2
  clear hK' K' hS
  have hS := hSn
  clear hSn
  try simp only [Act.put, pu]
  refine tkY 6 ?_ rfl hS ?_ ?_
  rotate_left
  · intro wz hz
    go_simp
    all_goals first | with_reducible rfl | omega
  try simp only [Act.put, pu]
  refine tkY 7 ?_ rfl hS ?_ ?_
  rotate_left
  · intro wz hz
    go_simp
    all_goals first | with_reducible rfl | omega
  try simp only [Act.put, pu]
  refine tkY 8 ?_ rfl hS ?_ ?_
  rotate_left
  · intro wz hz
    go_simp
    all_goals first | with_reducible rfl | omega
  try simp only [Act.put, pu]
  refine tkY 9 ?_ rfl hS ?_ ?_
  rotate_left
  · intro wz hz
    go_simp
    all_goals first | with_reducible rfl | omega
  try simp only [Act.put, pu]
  refine tkY 10 ?_ rfl hS ?_ ?_
  rotate_left
  · intro wz hz
    go_simp
    all_goals first | with_reducible rfl | omega
  try simp only [Act.put, pu]
  refine wpAnyH_done (by kernel_rfl) ?_ _
  clear hS
  go_wp2
  go_ret
  exact ⟨rfl, HB2.out⟩
set_option maxHeartbeats 4000000 in
theorem wake_any (h : RowP B w mo g q m) (hl : q.idle.length ≤ 1000000) (i : Nat) (r : Rs) (hi : q.idle[i]? = some r) :
    Calls Try.prog 23 #[ptr g, nV (i : Int)] w fun e w' => e = .returned (nV r.2) ∧ Turned B w mo g m { q with idle := q.idle.take i ++ q.idle.drop (i + 1) } w' := by
  have hil := (List.getElem?_eq_some_iff.1 hi).1
  obtain ⟨x0, x1, x2, x3⟩ := h.cells
  have HD := Lib.hid (edelete_any B m.iv q.idle i (i + 1) w h.iq (by omega) (by omega) hl)
  have HR := Lib.hid h
  rcases h.iq.inv with ⟨_, e0⟩ | ⟨b, cap, he, hcp, _, _, _⟩
  · rw [e0] at hil; simp at hil
  have hiq := h.iq
  rw [he] at hiq x2
  obtain ⟨y0, y1⟩ := hiq.cells i r hi
  rw [he] at HD
  obtain ⟨n, hn⟩ : ∃ n, q.idle.length = n := ⟨_, rfl⟩
  rw [hn] at x2 HD hil hl hcp
  have l0 : (0 : Int) ≤ (i : Int) := by omega
  have l1 : (i : Int) < (n : Int) := by omega
  obtain ⟨i1, hi1⟩ : ∃ i1, i + 1 = i1 := ⟨_, rfl⟩
  have wk : IntKind.i64.wrap ((i : Int) + 1) = (i1 : Int) := by rw [show (i : Int) + 1 = (i1 : Int) by omega]; exact IntWalk.i64_in _ (by omega)
  rw [hi1] at HD ⊢
  obtain ⟨r0, r1⟩ := r
  simp only at y0 y1
  have HE := Lib.hid he
  clear h hi hil hl hiq he hcp hn hi1
  go_enter Try.func23, Try.ntmps23
  go_wp2_with (go_at_call 45; refine HD.out.mono ?_; rintro e w2 ⟨va, vc, rfl, o2, gr2, ow2⟩; have HT := Lib.hid (turned_idle HR.out o2 (by rw [HE.out]; exact gr2) (fun b hb => .inl (by rw [HE.out]; exact ow2 b hb))); have hk2 := (show Bk w2 g 65 _ from HR.out.bk.heap (gr2.block g HR.out.bk.lt (fun e => HR.out.ne_iv (by rw [HE.out]; exact e.symm) rfl))); have z2 := hk2.cell 2; have f2 := hk2.frozen 2; clear o2 gr2 ow2 hk2)
  go_ret
  have h9 := HT.out
  simp only [List.length_append, List.length_take, List.length_drop] at h9
  exact ⟨rfl, h9⟩
end
end Go.Proofs.Ytochjbmighijgaa.PO
