/- LineFair's walk. No condition. -/
import Derived.Test.YtckodebcigmkgaaLnp
namespace Go.Proofs.Ytckodebcigmkgaa.LN
open Go.ChangeShapes Go.WideShapes Go.ChangeAt Go.RowKit
open Go.Proofs.Ytckodebcigmkgaa.SL Go.Proofs.Ytckodebcigmkgaa.RW
set_option maxRecDepth 100000
set_option linter.unusedVariables false
set_option linter.unusedSimpArgs false

theorem OI.ki {B : Nat} {w w' : World} {v : Value} {d : List Int} (h : OI B w v d) (hk : Ki w w') : OI B w' v d := by
  refine ⟨h.1, ?_⟩
  rcases h.2 with h2 | ⟨g, cap, cur, rfl, hb, hg, hr⟩
  · exact .inl h2
  · exact .inr ⟨g, cap, cur, rfl, hb, (hk g cur _ hg).trans hg, hr⟩
/-- one number more, and where it lies -/
theorem wpList_app_int2 {w : World} {ops : Array Oper} {rest : List Oper} {o : Oper} {a : Act} {Q : Exit → Act → World → Prop} (B : Nat) (v : Value) (d : List Int) (k : Int) (b : Nat) (hgd : o.guard = none) (s x : Operand)
    (ho : o.op = .call { callee := .builtin .append, args := #[s, x], argTypes := #[37, 37] }) (hs : a.eval s = v) (hown : OI B w v d) (hx : a.eval x = .slice (some ⟨b, 0, none⟩) 1 1) (hb : Bk w b 3 #[nV k])
    (hd : d.length ≤ 1099511627776) (hB : B ≤ w.heap.size)
    (hk : ∀ g cap w', OI B w' (.slice (some ⟨g, 0, none⟩) (d.length + 1) cap) (d ++ [k]) → w.grownBy w' v.ownBlock → (v.ownBlock = some g ∨ g = w.heap.size) → wpList Try.prog ops Q rest (a.put o.dst (.slice (some ⟨g, 0, none⟩) (d.length + 1) cap)) w') : wpList Try.prog ops Q (o :: rest) a w := by
  obtain ⟨i, hi, hz, hsz, hby⟩ := iInt
  refine wpList_append_lies _ hgd s x 37 ho B 3 i (nV 0) 1 8 Try.underlying37 hi hz hsz hby rfl (by decide) v d.length (d.map nV) hs hown ⟨b, 0, none⟩ 1 1 [nV k] hx rfl (sl_oneI hb) (by intro u hu; simp at hu; subst hu; rfl) (by decide) (by unfold maxLen; omega) (by omega) hB _ rfl ?_
  intro g cap w' h1 h2 h3 h4
  refine hk g cap w' ?_ h2 h3
  unfold OI
  rw [List.length_append, List.map_append]
  exact h1
/-- two lists of their own rows -/
def Two (v u : Value) : Prop := ∀ g, v.ownBlock = some g → u.ownBlock ≠ some g
theorem Two.symm {v u : Value} (h : Two v u) : Two u v := fun g hg e => h g e hg
theorem OI.aside {B : Nat} {w w' : World} {v u : Value} {d : List Int} (h : OI B w u d) (ht : Two v u) (hg : w.grownBy w' v.ownBlock) : OI B w' u d := h.keep fun g hgg => hg.block g (World.ownsRow.lt h g hgg).2 (fun e => ht g e.symm hgg)
theorem Two.step {B : Nat} {w : World} {v u : Value} {d : List Int} {g n c : Nat} (ht : Two v u) (h : OI B w u d) (hl : v.ownBlock = some g ∨ g = w.heap.size) : Two (.slice (some ⟨g, 0, none⟩) n c) u := fun q hq e => by
  injection hq with hq
  subst hq
  rcases hl with hl | hl
  · exact ht _ hl e
  · have := (World.ownsRow.lt h _ e).2
    simp only at this
    omega
theorem li_int {w : World} {N a : Nat} {v : Value} {d : List Int} {cs : Array Value} (ho : OI N w v d) (hb : Bk w a 51 cs) : v.ownBlock ≠ some a := by
  intro hv
  rcases ho.2 with ⟨rfl, _⟩ | ⟨q, cap, cu, rfl, hbb, hh, _⟩
  · cases hv
  · injection hv with hv
    subst hv
    unfold Bk at hb
    rw [hh] at hb
    injection hb with hb
    injection hb with _ hb
    exact absurd hb (by decide)
abbrev dl (L : List Int) : Nat → Int := fun j => (L[j]?).getD 0
theorem first_drop {S : List Wt} {i : Nat} {p : Wt} (h : S[i]? = some p) : firstS (S.drop i) = (S.drop (i + 1), p.1, true) := by
  obtain ⟨hi, hp⟩ := List.getElem?_eq_some_iff.1 h
  rw [List.drop_eq_getElem_cons hi, hp]; rfl
set_option maxHeartbeats 4000000 in
theorem fair_long (v : Value) (now : Int) (L : List Int) (hL : 200 < L.length) (w : World) (hv : NR .u16 65535 w v L) :
    Calls Try.prog 4 #[v, .int .u16 now] w (RdP (.bool true) w) := by
  obtain ⟨va, vc, rfl⟩ := hv.form
  obtain ⟨n, hn⟩ : ∃ n, L.length = n := ⟨_, rfl⟩
  rw [hn] at hv hL ⊢
  have l1 : (200 : Int) < (n : Int) := by omega
  clear hv hn hL
  go_enter Try.func4, Try.ntmps4
  go_wp2_with fail
  refine (ln_new w 10000 (by omega) (by omega)).mono ?_
  rintro e w1 ⟨a, rfl, hl, hb⟩
  have HB := Lib.hid hb
  clear hl hb
  go_wp2_with fail
  refine (known_any _).mono ?_
  rintro e wz ⟨rfl, hb⟩
  have HB := Lib.hid (HB.out.trans (hb.mono HB.out.size))
  clear hb
  go_wp2
  go_ret
  exact ⟨rfl, HB.out⟩
set_option maxHeartbeats 32000000 in
theorem fair_any (v : Value) (now : Int) (hnow : 0 ≤ now ∧ now ≤ 65535) (L : List Int) (hL : L.length ≤ 200) (w : World) (hv : NR .u16 65535 w v L) :
    Calls Try.prog 4 #[v, .int .u16 now] w (RdP (.bool true) w) := by
  obtain ⟨va, vc, rfl⟩ := hv.form
  obtain ⟨n, hn⟩ : ∃ n, L.length = n := ⟨_, rfl⟩
  rw [hn] at hv hL ⊢
  have HN := Lib.hid hn
  have HV := Lib.hid hv
  have HNB := Lib.hid hL
  have l1 : ¬ (200 : Int) < (n : Int) := by omega
  obtain ⟨U, hU⟩ : ∃ U, dl L = U := ⟨_, rfl⟩
  have HU := Lib.hid hU
  obtain ⟨q, hqq⟩ : ∃ q, isLate now = q := ⟨_, rfl⟩
  have HQ := Lib.hid hqq
  clear hv hn hL hU hqq
  go_enter Try.func4, Try.ntmps4
  go_wp2_with fail
  refine (ln_new w 10000 (by omega) (by omega)).mono ?_
  rintro e w1 ⟨a, rfl, hl, hb⟩
  have HL := Lib.hid hl
  have HB := Lib.hid hb
  clear hl hb
  go_wp2
  go_loopg [7, 8, 9] n (fun gk u7 u8 u9 wx => ∃ i : Nat, u9 = .int .i64 (i : Int) ∧ i + gk = n ∧ LN w.heap.size wx a 10000 (sq U 0 i) ∧ OI w.heap.size wx u7 ((stayS q (sq U 0 i)).map (·.1)) ∧ OI w.heap.size wx u8 (goneS q (sq U 0 i)) ∧ Two u7 u8 ∧ Below w.heap.size w wx)
  case atStart => exact ⟨0, rfl, by omega, HL.out, OI.nil _ _, OI.nil _ _, fun g hg => (by cases hg), HB.out⟩
  case round =>
    obtain ⟨i, rfl, hi, hl, ho7, ho8, h2, hb⟩ := hrel
    clear HL HB
    have HL := Lib.hid hl
    have HB := Lib.hid hb
    have H7 := Lib.hid ho7
    have H8 := Lib.hid ho8
    have H2 := Lib.hid h2
    clear hl hb ho7 ho8 h2
    cases gk with
    | succ g1 =>
      have l2 : (i : Int) < (n : Int) := by omega
      have l0 : (0 : Int) ≤ (i : Int) := by omega
      have hil : i < L.length := by have := HN.out; omega
      obtain ⟨gb, off, cap, he, hc, hx⟩ := HV.out.inv (by omega)
      rw [HN.out] at he
      injection he with e1 _ e3
      subst e1 e3
      obtain ⟨x, hxx⟩ : ∃ x, L[i] = x := ⟨_, rfl⟩
      have hxi : L[i]? = some x := by rw [List.getElem?_eq_getElem hil, hxx]
      obtain ⟨hx1, hx2⟩ := hx i x hxi
      have hUi : U i = x := by rw [← HU.out]; show (L[i]?).getD 0 = x; rw [hxi]; rfl
      have HUI := Lib.hid hUi
      have HX : Hid (∀ W, Below w.heap.size w W → W.cell? ⟨gb, off + i, none⟩ = some (.int .u16 x)) := Lib.hid (fun W hW => (hW.cell (p := ⟨gb, off + i, none⟩) (World.block_lt_of_cell? _ _ hx2)).trans hx2)
      obtain ⟨i1, hi1⟩ : ∃ j, i + 1 = j := ⟨_, rfl⟩
      have HI1 := Lib.hid hi1
      have wk : IntKind.i64.wrap ((i : Int) + 1) = (i1 : Int) := by rw [show (i : Int) + 1 = (i1 : Int) by omega]; exact IntWalk.i64_in _ (by have := HNB.out; omega)
      have HI : Hid (i1 + g1 = n) := Lib.hid (by omega)
      have HJ := Lib.hid (ln_join HL.out (i : Int) x)
      rw [join_sq (U := U) (t := x) ⟨by omega, by omega⟩ (by have := HNB.out; omega) hUi, hi1] at HJ
      have x0 := HX.out _ HB.out
      have hst : (stayS q (sq U 0 i1)).map (·.1) = (stayS q (sq U 0 i)).map (·.1) ++ (if q ((i : Int), x) then [] else [(i : Int)]) := by
        rw [← hi1, sq_succ, Nat.zero_add, hUi, stayS_app, List.map_append, stayS_one]
        cases q ((i : Int), x) <;> rfl
      have hgo : goneS q (sq U 0 i1) = goneS q (sq U 0 i) ++ (if q ((i : Int), x) then [(i : Int)] else []) := by
        rw [← hi1, sq_succ, Nat.zero_add, hUi, goneS_app, goneS_one]
      obtain ⟨D, hD⟩ : ∃ D, (stayS q (sq U 0 i)).map (·.1) = D := ⟨_, rfl⟩
      obtain ⟨E, hE⟩ : ∃ E, goneS q (sq U 0 i) = E := ⟨_, rfl⟩
      have HDN : Hid (D.length ≤ 200) := Lib.hid (by rw [← hD, List.length_map]; have := stayS_len q (sq U 0 i); rw [sq_len] at this; have := HNB.out; omega)
      have HEN : Hid (E.length ≤ 200) := Lib.hid (by rw [← hE]; have := goneS_len q (sq U 0 i); rw [sq_len] at this; have := HNB.out; omega)
      rw [hD] at hst H7
      rw [hE] at hgo H8
      have HST := Lib.hid hst
      have HGO := Lib.hid hgo
      clear hi hi1 hil hc hx hxx hx2 hUi hst hgo hD hE hxi
      go_wp2_with fail
      refine HJ.out.mono ?_
      rintro e w3 ⟨rfl, hs⟩
      have HL := Lib.hid hs.lb
      have HB := Lib.hid (HB.out.trans hs.bel)
      have H7 := Lib.hid (H7.out.ki hs.kf.ki)
      have H8 := Lib.hid (H8.out.ki hs.kf.ki)
      clear hs x0 HJ
      have HP := Lib.hid (ln_place HL.out (i : Int))
      rw [place_sq (by have := HI1.out; omega)] at HP
      go_wp2_with fail
      refine HP.out.mono ?_
      rintro e w4 ⟨rfl, hb⟩
      have HL := Lib.hid (HL.out.below hb)
      have H7 := Lib.hid (H7.out.below hb)
      have H8 := Lib.hid (H8.out.below hb)
      have HB := Lib.hid (HB.out.trans (hb.mono HB.out.size))
      have x0 := HX.out _ HB.out
      clear hb HP
      have ba : Below w4.heap.size w4 (w4.alloc (.cells #[nV (i : Int)] 3)) := (Below.refl _ _).alloc (Nat.le_refl _) _
      have HBA := Lib.hid ba
      clear ba
      by_cases hxn : now < x
      · have hq : q ((i : Int), x) = false := by rw [← HQ.out]; unfold isLate; exact decide_eq_false (by simp only; omega)
        rw [hq, if_neg (by decide)] at HST HGO
        rw [List.append_nil] at HGO
        clear hq
        go_wp2_with (at_builtin; refine wpList_app_int2 w.heap.size u7 D (i : Int) w4.heap.size rfl _ _ rfl rfl (H7.out.below HBA.out) rfl (Bk.new _ _ _) (by have := HDN.out; omega) (by have := HB.out.size; simp; omega) ?_; intro g9 cap9 w9 o9 gr9 li9)
        have hb9 : Below w.heap.size w w9 := (HB.out.alloc HB.out.size _).grown gr9 (by have := HB.out.size; simp; omega) (fun k hk => (World.ownsRow.lt H7.out k hk).1)
        have h7 : OI w.heap.size w9 (.slice (some ⟨g9, 0, none⟩) (D.length + 1) cap9) ((stayS q (sq U 0 i1)).map (·.1)) := by rw [HST.out]; exact o9
        have h8 : OI w.heap.size w9 u8 (goneS q (sq U 0 i1)) := by rw [HGO.out]; exact (H8.out.below HBA.out).aside H2.out gr9
        have h2 : Two (.slice (some ⟨g9, 0, none⟩) (D.length + 1) cap9) u8 := H2.out.step (H8.out.below HBA.out) li9
        have hl9 : LN w.heap.size w9 a 10000 (sq U 0 i1) := by
          obtain ⟨vv, hl⟩ := HL.out.below HBA.out
          refine ⟨vv, hl.keep (gr9.block a hl.bk.lt fun e => ?_) fun g hg => gr9.block g (hl.ws.lt g hg).2 fun e => ws_int hl.ws (H7.out.below HBA.out) g hg e.symm⟩
          exact li_int (H7.out.below HBA.out) hl.bk e.symm
        have K7 := Lib.hid h7
        have K8 := Lib.hid h8
        have K2 := Lib.hid h2
        have KL := Lib.hid hl9
        have KB := Lib.hid hb9
        clear hb9 h7 h8 h2 hl9 o9 gr9 li9
        go_wp2
        go_roundg g1
        case measure => exact Nat.lt_succ_self _
        case rel => exact ⟨i1, rfl, HI.out, KL.out, K7.out, K8.out, K2.out, KB.out⟩
      · have hq : q ((i : Int), x) = true := by rw [← HQ.out]; unfold isLate; exact decide_eq_true (by simp only; omega)
        rw [hq, if_pos rfl] at HST HGO
        rw [List.append_nil] at HST
        clear hq
        go_wp2_with (at_builtin; refine wpList_app_int2 w.heap.size u8 E (i : Int) w4.heap.size rfl _ _ rfl rfl (H8.out.below HBA.out) rfl (Bk.new _ _ _) (by have := HEN.out; omega) (by have := HB.out.size; simp; omega) ?_; intro g9 cap9 w9 o9 gr9 li9)
        have hb9 : Below w.heap.size w w9 := (HB.out.alloc HB.out.size _).grown gr9 (by have := HB.out.size; simp; omega) (fun k hk => (World.ownsRow.lt H8.out k hk).1)
        have h8 : OI w.heap.size w9 (.slice (some ⟨g9, 0, none⟩) (E.length + 1) cap9) (goneS q (sq U 0 i1)) := by rw [HGO.out]; exact o9
        have h7 : OI w.heap.size w9 u7 ((stayS q (sq U 0 i1)).map (·.1)) := by rw [HST.out]; exact (H7.out.below HBA.out).aside H2.out.symm gr9
        have h2 : Two u7 (.slice (some ⟨g9, 0, none⟩) (E.length + 1) cap9) := (H2.out.symm.step (H7.out.below HBA.out) li9).symm
        have hl9 : LN w.heap.size w9 a 10000 (sq U 0 i1) := by
          obtain ⟨vv, hl⟩ := HL.out.below HBA.out
          refine ⟨vv, hl.keep (gr9.block a hl.bk.lt fun e => ?_) fun g hg => gr9.block g (hl.ws.lt g hg).2 fun e => ws_int hl.ws (H8.out.below HBA.out) g hg e.symm⟩
          exact li_int (H8.out.below HBA.out) hl.bk e.symm
        have K7 := Lib.hid h7
        have K8 := Lib.hid h8
        have K2 := Lib.hid h2
        have KL := Lib.hid hl9
        have KB := Lib.hid hb9
        clear hb9 h7 h8 h2 hl9 o9 gr9 li9
        go_wp2
        go_roundg g1
        case measure => exact Nat.lt_succ_self _
        case rel => exact ⟨i1, rfl, HI.out, KL.out, K7.out, K8.out, K2.out, KB.out⟩
    | zero =>
      have hie : i = n := by omega
      subst hie
      have l2 : ¬ (i : Int) < (i : Int) := by omega
      have HLT := Lib.hid (ln_late HL.out now)
      rw [show lateS (sq U 0 i) now = (stayS q (sq U 0 i), goneS q (sq U 0 i)) by rw [← HQ.out]; rfl] at HLT
      have HGN : Hid ((goneS q (sq U 0 i)).length ≤ 1000000) := Lib.hid (by have := goneS_len q (sq U 0 i); rw [sq_len] at this; have := HNB.out; omega)
      have HSN : Hid ((stayS q (sq U 0 i)).length ≤ 200) := Lib.hid (by have := stayS_len q (sq U 0 i); rw [sq_len] at this; have := HNB.out; omega)
      obtain ⟨S, hS⟩ : ∃ S, stayS q (sq U 0 i) = S := ⟨_, rfl⟩
      obtain ⟨G, hG⟩ : ∃ G, goneS q (sq U 0 i) = G := ⟨_, rfl⟩
      rw [hS] at HLT H7 HSN
      rw [hG] at HLT H8 HGN
      clear hi hS hG
      go_wp2_with fail
      refine HLT.out.mono ?_
      rintro e w3 ⟨r3, rfl, h3, hs⟩
      have HL := Lib.hid hs.lb
      have HB := Lib.hid (HB.out.trans hs.bel)
      have H7 := Lib.hid (H7.out.ki hs.kf.ki)
      have H8 := Lib.hid (H8.out.ki hs.kf.ki)
      have HI := Lib.hid (ints_any w3 r3 u8 G G h3 H8.out.is HGN.out)
      rw [decide_eq_true (rfl : G = G)] at HI
      clear hs h3 HLT
      go_wp2_with fail
      refine HI.out.mono ?_
      rintro e w4 ⟨rfl, hb⟩
      have HL := Lib.hid (HL.out.below hb)
      have H7 := Lib.hid (H7.out.below hb).is
      have HB := Lib.hid (HB.out.trans (hb.mono HB.out.size))
      clear hb HI
      obtain ⟨sa, sc, hsv⟩ := H7.out.form
      rw [List.length_map] at hsv
      obtain ⟨k, hk⟩ : ∃ k, S.length = k := ⟨_, rfl⟩
      rw [hk] at hsv
      subst hsv
      have HK := Lib.hid hk
      clear hk H8 H2
      go_wp2
      go_loopg [10] k (fun gk u10 wx => ∃ j : Nat, u10 = .int .i64 (j : Int) ∧ j + gk = k ∧ LN w.heap.size wx a 10000 (S.drop j) ∧ IS wx (.slice sa k sc) (S.map (·.1)) ∧ Below w.heap.size w wx)
      case atStart => exact ⟨0, rfl, by omega, HL.out, H7.out, HB.out⟩
      case round =>
        obtain ⟨j, rfl, hj, hl, hs7, hb⟩ := hrel
        clear HL HB H7
        have HL := Lib.hid hl
        have HB := Lib.hid hb
        have H7 := Lib.hid hs7
        clear hl hb hs7
        cases gk with
        | succ g1 =>
          have l3 : (j : Int) < (k : Int) := by omega
          have l0 : (0 : Int) ≤ (j : Int) := by omega
          have hjl : j < S.length := by have := HK.out; omega
          obtain ⟨p, hp⟩ : ∃ p, S[j] = p := ⟨_, rfl⟩
          have hpj : S[j]? = some p := by rw [List.getElem?_eq_getElem hjl, hp]
          have HPJ : Hid ((S.map (·.1))[j]? = some p.1) := Lib.hid (by rw [List.getElem?_map, hpj]; rfl)
          have HF := Lib.hid (ln_first HL.out)
          rw [first_drop hpj] at HF
          obtain ⟨j1, hj1⟩ : ∃ k, j + 1 = k := ⟨_, rfl⟩
          rw [hj1] at HF
          have wk3 : IntKind.i64.wrap ((j : Int) + 1) = (j1 : Int) := by rw [show (j : Int) + 1 = (j1 : Int) by omega]; exact IntWalk.i64_in _ (by have := HK.out; have := HSN.out; omega)
          have HJ : Hid (j1 + g1 = k) := Lib.hid (by omega)
          have HK0 : Hid (0 < k) := Lib.hid (by omega)
          obtain ⟨pi, pt⟩ := p
          simp only at HPJ HF
          clear hj hj1 hjl hp hpj
          go_wp2_with fail
          refine HF.out.mono ?_
          rintro e w5 ⟨rfl, hs⟩
          have HL := Lib.hid hs.lb
          have HB := Lib.hid (HB.out.trans hs.bel)
          have H7 := Lib.hid (H7.out.ki hs.kf.ki)
          obtain ⟨gb', off', cap', he, hc, hx⟩ := H7.out.at_ (by rw [List.length_map]; have := HK.out; have := HK0.out; omega)
          rw [List.length_map, HK.out] at he
          injection he with e1 _ e3
          subst e1 e3
          have x0 := hx j pi HPJ.out
          clear hs hc hx HF
          go_wp2
          go_roundg g1
          case measure => exact Nat.lt_succ_self _
          case rel => exact ⟨j1, rfl, HJ.out, HL.out, H7.out, HB.out⟩
        | zero =>
          have l3 : ¬ (j : Int) < (k : Int) := by omega
          have HF := Lib.hid (ln_first HL.out)
          rw [show S.drop j = [] from List.drop_of_length_le (by have := HK.out; omega), show firstS [] = ([], 0, false) from rfl] at HF
          clear hj
          go_wp2_with fail
          refine HF.out.mono ?_
          rintro e w5 ⟨rfl, hs⟩
          have HB := Lib.hid (HB.out.trans hs.bel)
          clear hs HF
          go_wp2_with fail
          refine (known_any _).mono ?_
          rintro e wz ⟨rfl, hb⟩
          have HB := Lib.hid (HB.out.trans (hb.mono HB.out.size))
          clear hb
          go_wp2
          go_ret
          exact ⟨rfl, HB.out⟩
theorem fair_law (v : Value) (now : Int) (w : World) (hv : FitsU16 w v) (hn : (Lit.int .u16 now).wf = true) :
    Calls Try.prog 4 #[v, .int .u16 now] w (RdP (.bool true) w) := by
  obtain ⟨L, hv⟩ := hv
  by_cases hL : L.length ≤ 200
  · exact fair_any v now (wf16 now hn) L hL w hv
  · exact fair_long v now L (by omega) w hv
end Go.Proofs.Ytckodebcigmkgaa.LN
