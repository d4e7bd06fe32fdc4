/- The document's place, of, find. Conditions: how many. -/
import Derived.Test.YtldpamlmnganmaaFpb
namespace Go.Proofs.Ytldpamlmnganmaa.FL
open Go.ChangeShapes Go.WideShapes Go.ChangeAt Go.RowKit Go.Maps Go.ChangeMaps
open Go.Proofs.Ytldpamlmnganmaa.SL
set_option maxRecDepth 100000
set_option linter.unusedVariables false
set_option linter.unusedSimpArgs false

theorem eql_rk (a b : Ky) (w : World) : (binOp .eql 38 (kyV a) (kyV b)).run Try.prog w = .ok (.bool (eqK a b)) w := by
  obtain ⟨a1, a2, a3, a4⟩ := a
  obtain ⟨b1, b2, b3, b4⟩ := b
  unfold eqK
  cases h1 : (a1.toList == b1.toList) <;> cases h2 : (a2.toList == b2.toList) <;> cases h3 : (a3 == b3) <;> cases h4 : (a4.toList == b4.toList) <;> go_simp
def isI (c : Int) (x : Int) : Bool := decide (x = c)
set_option maxHeartbeats 4000000 in
theorem place_any (w : World) (v : Value) (l : List Int) (c : Int) (hv : IS w v l) (hl : l.length ≤ 1000000) :
    Calls Try.prog 34 #[v, .int .i64 c] w fun e w' => e = .returned (.int .i64 (posI (pos (isI c) l))) ∧ w = w' := by
  have HV := Lib.hid hv
  have HL := Lib.hid hl
  obtain ⟨va, vc, rfl⟩ := hv.form
  obtain ⟨n, hn⟩ : ∃ n, l.length = n := ⟨_, rfl⟩
  rw [hn] at HV hl ⊢
  have HN := Lib.hid hn
  have HC : Hid (n ≤ 1000000) := Lib.hid hl
  obtain ⟨R, hR⟩ : ∃ R, posI (pos (isI c) l) = R := ⟨_, rfl⟩
  have HR := Lib.hid hR
  rw [hR]
  clear hv hl hn hR HL
  go_enter Try.func34, Try.ntmps34
  go_wp2
  go_loopg [5] n (fun gk u5 wx => ∃ j : Nat, u5 = .int .i64 (j : Int) ∧ j + gk = n ∧ (∀ e ∈ l.take j, isI c e = false) ∧ w = wx)
  case atStart => exact ⟨0, rfl, by omega, (fun e he => by simp at he), rfl⟩
  case round =>
    obtain ⟨j, rfl, hj, hno, rfl⟩ := hrel
    cases gk with
    | zero =>
      have l1 : ¬ ((j : Int) < (n : Int)) := by omega
      have hr : R = -1 := by
        rw [← HR.out, pos_no fun e he => hno e (by rw [List.take_of_length_le (by rw [HN.out]; omega)]; exact he)]
        rfl
      subst hr
      clear hno hj
      go_wp2
      go_ret
      exact ⟨rfl, rfl⟩
    | succ gk1 =>
      have hlt : j < l.length := by rw [HN.out]; omega
      obtain ⟨b, off, cp, he, _, hx⟩ := HV.out.at_ (by omega)
      rw [HN.out] at he
      injection he with e1 _ e2
      subst e1 e2
      obtain ⟨x, hx9⟩ : ∃ c, l[j] = c := ⟨_, rfl⟩
      have hjx : l[j]? = some x := by rw [List.getElem?_eq_getElem hlt, hx9]
      have x0 := hx j x hjx
      have l0 : (0 : Int) ≤ (j : Int) := by omega
      have l1 : (j : Int) < (n : Int) := by omega
      obtain ⟨j1, hj1⟩ : ∃ j1, j + 1 = j1 := ⟨_, rfl⟩
      have wk : IntKind.i64.wrap ((j : Int) + 1) = (j1 : Int) := by rw [show (j : Int) + 1 = (j1 : Int) by omega]; exact IntWalk.i64_in _ (by have := HC.out; omega)
      have HJ : Hid (j1 + gk1 = n) := Lib.hid (by omega)
      by_cases hxc : x = c
      · have hr : R = (j : Int) := by
          rw [← HR.out, pos_at hjx (decide_eq_true hxc) hno]
          rfl
        subst hr
        subst hxc
        clear hno hj hlt hx hx9 hjx hj1
        go_wp2
        go_ret
        exact ⟨rfl, rfl⟩
      · have HNO : Hid (∀ e ∈ l.take j1, isI c e = false) := Lib.hid (fun e he => by
          rw [← hj1, List.take_add_one, hjx] at he
          rcases List.mem_append.1 he with he | he
          · exact hno e he
          · obtain rfl : e = x := by simpa using he
            exact decide_eq_false hxc)
        clear hno hj hlt hx hx9 hjx hj1
        go_wp2
        go_roundg gk1
        case measure => exact Nat.lt_succ_self _
        case rel => exact ⟨j1, rfl, HJ.out, HNO.out, rfl⟩
theorem posI_ge (l : List Int) (c : Int) : (0 ≤ posI (pos (isI c) l)) ↔ c ∈ l := by
  cases h : pos (isI c) l with
  | none =>
    have := pos_none h
    constructor
    · intro h; exact absurd h (by decide)
    · intro hc
      have := this c hc
      simp [isI] at this
  | some i =>
    obtain ⟨a, h1, h2, _⟩ := pos_inv h
    have : a = c := of_decide_eq_true h2
    subst this
    exact ⟨fun _ => List.mem_of_getElem? h1, fun _ => by show (0 : Int) ≤ (i : Int); omega⟩
set_option maxHeartbeats 4000000 in
theorem rof_any {B : Nat} {w : World} {r : Nat} {X : List Xr} {v : Value} (h : RT B w r X v) (hX : X.length ≤ 100000) (c : Int) (hl : ∀ x ∈ X, x.2.2.length ≤ 1000000) :
    Calls Try.prog 28 #[ptr r, .int .i64 c] w (fun e w' => e = .returned (.int .i64 (posI (pos (hasC c) (pl X)))) ∧ w = w') := by
  have H := Lib.hid h
  obtain ⟨va, vc, rfl⟩ := h.form
  obtain ⟨n, hn⟩ : ∃ n, X.length = n := ⟨_, rfl⟩
  rw [hn] at H
  have HN := Lib.hid hn
  have HC : Hid (n ≤ 100000) := Lib.hid (by omega)
  obtain ⟨R, hR⟩ : ∃ R, posI (pos (hasC c) (pl X)) = R := ⟨_, rfl⟩
  have HR := Lib.hid hR
  rw [hR]
  have HL := Lib.hid hl
  clear h hX hn hR hl
  have c0 : w.cell? ⟨r, 0, none⟩ = some (.slice va n vc) := H.out.bk.cell 0
  go_enter Try.func28, Try.ntmps28
  go_wp2
  go_loopg [5] n (fun gk u5 wx => ∃ j : Nat, u5 = .int .i64 (j : Int) ∧ j + gk = n ∧ (∀ y ∈ X.take j, hasC c (y.1, y.2.2) = false) ∧ w = wx)
  case atStart => exact ⟨0, rfl, by omega, (fun e he => by simp at he), rfl⟩
  case round =>
    obtain ⟨j, rfl, hj, hno, rfl⟩ := hrel
    cases gk with
    | zero =>
      have l1 : ¬ ((j : Int) < (n : Int)) := by omega
      have hr : R = -1 := by
        rw [← HR.out, pos_no fun e he => by
          obtain ⟨x, hx, rfl⟩ := List.mem_map.1 he
          exact hno x (by rw [List.take_of_length_le (by rw [HN.out]; omega)]; exact hx)]
        rfl
      subst hr
      clear hno hj
      go_wp2
      go_ret
      exact ⟨rfl, rfl⟩
    | succ gk1 =>
      have hlt : j < X.length := by rw [HN.out]; omega
      obtain ⟨x, hx9⟩ : ∃ c, X[j] = c := ⟨_, rfl⟩
      have hjx : X[j]? = some x := by rw [List.getElem?_eq_getElem hlt, hx9]
      have l0 : (0 : Int) ≤ (j : Int) := by omega
      have l1 : (j : Int) < (n : Int) := by omega
      obtain ⟨j1, hj1⟩ : ∃ j1, j + 1 = j1 := ⟨_, rfl⟩
      have wk : IntKind.i64.wrap ((j : Int) + 1) = (j1 : Int) := by rw [show (j : Int) + 1 = (j1 : Int) by omega]; exact IntWalk.i64_in _ (by have := HC.out; omega)
      have HJ : Hid (j1 + gk1 = n) := Lib.hid (by omega)
      obtain ⟨g, cap, hv, hx⟩ := H.out.at_ hjx
      rw [HN.out] at hv
      injection hv with e1 _ e2
      subst e1 e2
      have x4 : w.cell? ⟨g, j * 5 + 4, none⟩ = some x.2.1 := hx 4 _ rfl
      obtain ⟨hoi, hne⟩ := H.out.list hjx
      have hpl := place_any w x.2.1 x.2.2 c hoi.is (HL.out x (List.mem_of_getElem? hjx))
      obtain ⟨pa, pc, hpv⟩ := hoi.form
      rw [hpv] at x4 hpl
      obtain ⟨ln, hln⟩ : ∃ l, x.2.2.length = l := ⟨_, rfl⟩
      rw [hln] at x4 hpl
      obtain ⟨q, hq⟩ : ∃ q, posI (pos (isI c) x.2.2) = q := ⟨_, rfl⟩
      rw [hq] at hpl
      have HP := Lib.hid hpl
      by_cases hp : c ∈ x.2.2
      · have hq0 : 0 ≤ q := by rw [← hq]; exact (posI_ge _ _).2 hp
        have hr : R = (j : Int) := by
          rw [← HR.out, pos_at (l := pl X) (i := j) (a := (x.1, x.2.2)) (by unfold pl; rw [List.getElem?_map, hjx]; rfl) (decide_eq_true hp) (fun e he => by
            unfold pl at he
            rw [← List.map_take] at he
            obtain ⟨y, hy, rfl⟩ := List.mem_map.1 he
            exact hno y hy)]
          rfl
        subst hr
        clear hno hj hlt hx hx9 hjx hj1 hoi hne hpl hpv hln hq hp
        go_wp2_with fail
        refine HP.out.mono ?_
        rintro e w' ⟨rfl, rfl⟩
        go_wp2
        go_ret
        exact ⟨rfl, rfl⟩
      · have hq0 : ¬ 0 ≤ q := by rw [← hq]; exact fun h => hp ((posI_ge _ _).1 h)
        have HNO : Hid (∀ y ∈ X.take j1, hasC c (y.1, y.2.2) = false) := Lib.hid (fun y hy => by
          rw [← hj1, List.take_add_one, hjx] at hy
          rcases List.mem_append.1 hy with hy | hy
          · exact hno y hy
          · obtain rfl : y = x := by simpa using hy
            exact decide_eq_false hp)
        clear hno hj hlt hx hx9 hjx hj1 hoi hne hpl hpv hln hq hp
        go_wp2_with fail
        refine HP.out.mono ?_
        rintro e w' ⟨rfl, rfl⟩
        go_wp2
        go_roundg gk1
        case measure => exact Nat.lt_succ_self _
        case rel => exact ⟨j1, rfl, HJ.out, HNO.out, rfl⟩
set_option maxHeartbeats 4000000 in
theorem rfind_any {B : Nat} {w : World} {r : Nat} {X : List Xr} {v : Value} (h : RT B w r X v) (hX : X.length ≤ 100000) (k : Ky) :
    Calls Try.prog 29 #[ptr r, kyV k] w (RdP (.int .i64 (posI (pos (isK k) (pl X)))) w) := by
  obtain ⟨W0, hW0⟩ : ∃ W, w.alloc (.cells (kC k) 38) = W := ⟨_, rfl⟩
  obtain ⟨kb, hkb⟩ : ∃ b, w.heap.size = b := ⟨_, rfl⟩
  have b0 : Below w.heap.size w W0 := by rw [← hW0]; exact (Below.refl _ _).alloc (Nat.le_refl _) _
  have kk : Bk W0 kb 38 (kC k) := by rw [← hW0, ← hkb]; exact Bk.new _ _ _
  replace h := h.below b0
  have H := Lib.hid h
  obtain ⟨va, vc, rfl⟩ := h.form
  obtain ⟨n, hn⟩ : ∃ n, X.length = n := ⟨_, rfl⟩
  rw [hn] at H
  have HN := Lib.hid hn
  have HC : Hid (n ≤ 100000) := Lib.hid (by omega)
  obtain ⟨R, hR⟩ : ∃ R, posI (pos (isK k) (pl X)) = R := ⟨_, rfl⟩
  have HR := Lib.hid hR
  rw [hR]
  have HB0 := Lib.hid b0
  have HKK := Lib.hid kk
  have HEQ := Lib.hid (fun x : Xr => fun W => eql_rk x.1 k W)
  clear h hX hn hR b0 kk
  have c0 : W0.cell? ⟨r, 0, none⟩ = some (.slice va n vc) := H.out.bk.cell 0
  go_enter Try.func29, Try.ntmps29
  go_wp2_with fail
  try rw [hW0]
  try rw [hkb]
  clear hW0 hkb
  go_wp2
  go_loopg [5] n (fun gk u5 wx => ∃ j : Nat, u5 = .int .i64 (j : Int) ∧ j + gk = n ∧ (∀ y ∈ X.take j, isK k (y.1, y.2.2) = false) ∧ Below W0.heap.size W0 wx)
  case atStart => exact ⟨0, rfl, by omega, (fun e he => by simp at he), Below.refl _ _⟩
  case round =>
    obtain ⟨j, rfl, hj, hno, hb⟩ := hrel
    have h1 := H.out.below hb
    have c1 : wr.cell? ⟨r, 0, none⟩ = some (.slice va n vc) := h1.bk.cell 0
    have HB := Lib.hid (HB0.out.trans (hb.mono HB0.out.size))
    have HBW := Lib.hid hb
    cases gk with
    | zero =>
      have l1 : ¬ ((j : Int) < (n : Int)) := by omega
      have hr : R = -1 := by
        rw [← HR.out, pos_no fun e he => by
          obtain ⟨x, hx, rfl⟩ := List.mem_map.1 he
          exact hno x (by rw [List.take_of_length_le (by rw [HN.out]; omega)]; exact hx)]
        rfl
      subst hr
      clear hno hj h1 hb
      go_wp2
      go_ret
      exact ⟨rfl, HB.out⟩
    | succ gk1 =>
      have hlt : j < X.length := by rw [HN.out]; omega
      obtain ⟨x, hx9⟩ : ∃ c, X[j] = c := ⟨_, rfl⟩
      have hjx : X[j]? = some x := by rw [List.getElem?_eq_getElem hlt, hx9]
      have l0 : (0 : Int) ≤ (j : Int) := by omega
      have l1 : (j : Int) < (n : Int) := by omega
      obtain ⟨j1, hj1⟩ : ∃ j1, j + 1 = j1 := ⟨_, rfl⟩
      have wk : IntKind.i64.wrap ((j : Int) + 1) = (j1 : Int) := by rw [show (j : Int) + 1 = (j1 : Int) by omega]; exact IntWalk.i64_in _ (by have := HC.out; omega)
      have HJ : Hid (j1 + gk1 = n) := Lib.hid (by omega)
      obtain ⟨g, cap, hv, hx⟩ := h1.at_ hjx
      rw [HN.out] at hv
      injection hv with e1 _ e2
      subst e1 e2
      have hkk := HKK.out.heap (hb.block _ HKK.out.lt)
      have heq := HEQ.out x
      obtain ⟨⟨x0, x1, x2, x3⟩, xv, xl⟩ := x
      obtain ⟨db, ro, fm, no⟩ := k
      have a0 : wr.cell? ⟨kb, 0, none⟩ = some (.string db) := hkk.cell 0
      have a1 : wr.cell? ⟨kb, 1, none⟩ = some (.string ro) := hkk.cell 1
      have a2 : wr.cell? ⟨kb, 2, none⟩ = some (.int .i64 fm) := hkk.cell 2
      have a3 : wr.cell? ⟨kb, 3, none⟩ = some (.string no) := hkk.cell 3
      have y0 : wr.cell? ⟨g, j * 5, none⟩ = some (.string x0) := hx 0 _ rfl
      have y1 : wr.cell? ⟨g, j * 5 + 1, none⟩ = some (.string x1) := hx 1 _ rfl
      have y2 : wr.cell? ⟨g, j * 5 + 2, none⟩ = some (.int .i64 x2) := hx 2 _ rfl
      have y3 : wr.cell? ⟨g, j * 5 + 3, none⟩ = some (.string x3) := hx 3 _ rfl
      have HDR := Lib.hid ((Below.refl wr.heap.size wr).drew)
      by_cases hp : ((x0, x1, x2, x3) : Ky) = (db, ro, fm, no)
      · rw [eqK_iff.2 hp] at heq
        have hr : R = (j : Int) := by
          rw [← HR.out, pos_at (l := pl X) (i := j) (a := ((x0, x1, x2, x3), xl)) (by unfold pl; rw [List.getElem?_map, hjx]; rfl) (decide_eq_true hp) (fun e he => by
            unfold pl at he
            rw [← List.map_take] at he
            obtain ⟨y, hy, rfl⟩ := List.mem_map.1 he
            exact hno y hy)]
          rfl
        subst hr
        have HE := Lib.hid heq
        clear hno hj hlt hx hx9 hjx hj1 h1 hb hkk hp heq
        go_wp2_with fail
        refine wp_region_held_drew (S := (fun w' => w'.cell? ⟨r, 0, none⟩ = some (.slice (some ⟨g, 0, none⟩) n vc) ∧ w'.cell? ⟨g, j * 5, none⟩ = some (.string x0) ∧ w'.cell? ⟨g, j * 5 + 1, none⟩ = some (.string x1) ∧ w'.cell? ⟨g, j * 5 + 2, none⟩ = some (.int .i64 x2) ∧ w'.cell? ⟨g, j * 5 + 3, none⟩ = some (.string x3) ∧ w'.cell? ⟨kb, 0, none⟩ = some (.string db) ∧ w'.cell? ⟨kb, 1, none⟩ = some (.string ro) ∧ w'.cell? ⟨kb, 2, none⟩ = some (.int .i64 fm) ∧ w'.cell? ⟨kb, 3, none⟩ = some (.string no))) (by kernel_rfl) ?_ (fun hS => ?_)
        · exact ⟨c1, y0, y1, y2, y3, a0, a1, a2, a3⟩
        refine tkY 0 ?_ rfl hS ?_ ?_
        rotate_left
        · intro wz hz
          go_simp
          all_goals first | with_reducible rfl | omega
        try simp only [Act.put, pu]
        refine tkY 1 ?_ rfl hS ?_ ?_
        rotate_left
        · intro wz hz
          go_simp
          all_goals first | with_reducible rfl | omega
        try simp only [Act.put, pu]
        refine tkY 2 ?_ rfl hS ?_ ?_
        rotate_left
        · intro wz hz
          go_simp
          all_goals first | with_reducible rfl | omega
        try simp only [Act.put, pu]
        refine tkY 3 ?_ rfl hS ?_ ?_
        rotate_left
        · intro wz hz
          obtain ⟨z0, z1, z2, z3, z4, z5, z6, z7, z8⟩ := hz
          go_simp
          all_goals first | with_reducible rfl | omega
        try simp only [Act.put, pu]
        refine tkY 4 ?_ rfl hS ?_ ?_
        rotate_left
        · intro wz hz
          go_simp
          all_goals first | with_reducible rfl | omega
        try simp only [Act.put, pu]
        refine tkY 5 ?_ rfl hS ?_ ?_
        rotate_left
        · intro wz hz
          obtain ⟨z0, z1, z2, z3, z4, z5, z6, z7, z8⟩ := hz
          go_simp
          all_goals first | with_reducible rfl | omega
        try simp only [Act.put, pu]
        refine tkY 6 ?_ rfl hS ?_ ?_
        rotate_left
        · intro wz hz
          go_simp
          all_goals first | with_reducible rfl | omega
        try simp only [Act.put, pu]
        refine tkY 7 ?_ rfl hS ?_ ?_
        rotate_left
        · intro wz hz
          obtain ⟨z0, z1, z2, z3, z4, z5, z6, z7, z8⟩ := hz
          go_simp
          all_goals first | with_reducible rfl | omega
        try simp only [Act.put, pu]
        refine tkY 8 ?_ rfl hS ?_ ?_
        rotate_left
        · intro wz hz
          obtain ⟨z0, z1, z2, z3, z4, z5, z6, z7, z8⟩ := hz
          go_simp
          all_goals first | with_reducible rfl | omega
        try simp only [Act.put, pu]
        refine tkY 9 (.bool true) rfl hS ?_ ?_
        · intro wz hz
          have hee := HE.out
          go_simp
          all_goals first | with_reducible rfl | omega
        try simp only [Act.put, pu]
        refine wpAnyH_done (by kernel_rfl) ?_ _
        clear hS
        go_wp2
        go_ret
        exact ⟨rfl, HB.out.trans (HDR.out.mono HB.out.size)⟩
      · rw [show eqK (x0, x1, x2, x3) (db, ro, fm, no) = false from by
          cases h : eqK (x0, x1, x2, x3) (db, ro, fm, no) with
          | false => rfl
          | true => exact absurd (eqK_iff.1 h) hp] at heq
        have HNO : Hid (∀ y ∈ X.take j1, isK (db, ro, fm, no) (y.1, y.2.2) = false) := Lib.hid (fun y hy => by
          rw [← hj1, List.take_add_one, hjx] at hy
          rcases List.mem_append.1 hy with hy | hy
          · exact hno y hy
          · obtain rfl : y = ((x0, x1, x2, x3), xv, xl) := by simpa using hy
            exact decide_eq_false hp)
        have HE := Lib.hid heq
        clear hno hj hlt hx hx9 hjx hj1 h1 hb hkk hp heq
        go_wp2_with fail
        refine wp_region_held_drew (S := (fun w' => w'.cell? ⟨r, 0, none⟩ = some (.slice (some ⟨g, 0, none⟩) n vc) ∧ w'.cell? ⟨g, j * 5, none⟩ = some (.string x0) ∧ w'.cell? ⟨g, j * 5 + 1, none⟩ = some (.string x1) ∧ w'.cell? ⟨g, j * 5 + 2, none⟩ = some (.int .i64 x2) ∧ w'.cell? ⟨g, j * 5 + 3, none⟩ = some (.string x3) ∧ w'.cell? ⟨kb, 0, none⟩ = some (.string db) ∧ w'.cell? ⟨kb, 1, none⟩ = some (.string ro) ∧ w'.cell? ⟨kb, 2, none⟩ = some (.int .i64 fm) ∧ w'.cell? ⟨kb, 3, none⟩ = some (.string no))) (by kernel_rfl) ?_ (fun hS => ?_)
        · exact ⟨c1, y0, y1, y2, y3, a0, a1, a2, a3⟩
        refine tkY 0 ?_ rfl hS ?_ ?_
        rotate_left
        · intro wz hz
          go_simp
          all_goals first | with_reducible rfl | omega
        try simp only [Act.put, pu]
        refine tkY 1 ?_ rfl hS ?_ ?_
        rotate_left
        · intro wz hz
          go_simp
          all_goals first | with_reducible rfl | omega
        try simp only [Act.put, pu]
        refine tkY 2 ?_ rfl hS ?_ ?_
        rotate_left
        · intro wz hz
          go_simp
          all_goals first | with_reducible rfl | omega
        try simp only [Act.put, pu]
        refine tkY 3 ?_ rfl hS ?_ ?_
        rotate_left
        · intro wz hz
          obtain ⟨z0, z1, z2, z3, z4, z5, z6, z7, z8⟩ := hz
          go_simp
          all_goals first | with_reducible rfl | omega
        try simp only [Act.put, pu]
        refine tkY 4 ?_ rfl hS ?_ ?_
        rotate_left
        · intro wz hz
          go_simp
          all_goals first | with_reducible rfl | omega
        try simp only [Act.put, pu]
        refine tkY 5 ?_ rfl hS ?_ ?_
        rotate_left
        · intro wz hz
          obtain ⟨z0, z1, z2, z3, z4, z5, z6, z7, z8⟩ := hz
          go_simp
          all_goals first | with_reducible rfl | omega
        try simp only [Act.put, pu]
        refine tkY 6 ?_ rfl hS ?_ ?_
        rotate_left
        · intro wz hz
          go_simp
          all_goals first | with_reducible rfl | omega
        try simp only [Act.put, pu]
        refine tkY 7 ?_ rfl hS ?_ ?_
        rotate_left
        · intro wz hz
          obtain ⟨z0, z1, z2, z3, z4, z5, z6, z7, z8⟩ := hz
          go_simp
          all_goals first | with_reducible rfl | omega
        try simp only [Act.put, pu]
        refine tkY 8 ?_ rfl hS ?_ ?_
        rotate_left
        · intro wz hz
          obtain ⟨z0, z1, z2, z3, z4, z5, z6, z7, z8⟩ := hz
          go_simp
          all_goals first | with_reducible rfl | omega
        try simp only [Act.put, pu]
        refine tkY 9 (.bool false) rfl hS ?_ ?_
        · intro wz hz
          have hee := HE.out
          go_simp
          all_goals first | with_reducible rfl | omega
        try simp only [Act.put, pu]
        refine wpAnyH_done (by kernel_rfl) ?_ _
        clear hS
        go_wp2
        go_roundg gk1
        case measure => exact Nat.lt_succ_self _
        case rel => exact ⟨j1, rfl, HJ.out, HNO.out, HBW.out.trans (HDR.out.mono HBW.out.size)⟩
end Go.Proofs.Ytldpamlmnganmaa.FL
