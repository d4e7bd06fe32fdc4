/- BackReads' walk: for every tell and every message it returns true. Condition: the texts are within the form's reach. -/
import Derived.Test.YtnjifbgjglniaaaBky
namespace Go.Proofs.Ytnjifbgjglniaaa.BK
open Go.Proofs.Ytnjifbgjglniaaa
open Go.ChangeShapes Go.WideShapes Go.ChangeAt Go.RowKit
set_option linter.unusedVariables false
set_option linter.unusedSimpArgs false
set_option maxRecDepth 100000
attribute [local go_sem ↓] Go.wp_at_zero Go.wp_at_succ

/-- what Decode answers, opened -/
def DecO (r : Tell × Int) (w : World) (e : Ending) (w' : World) : Prop := ∃ A1 n1 p1 A2 n2 p2 A3 n3 p3,
    e = .returned (.tuple #[.agg #[.int .u8 (r.1.kind.toNat : Int), .int .u8 (r.1.status.toNat : Int), .string (ba r.1.text), .slice A1 n1 p1, .slice A2 n2 p2, .slice A3 n3 p3, .int .i64 r.1.n, .int .i64 r.1.m], .int .i64 r.2]) ∧
    AR (fun b => b < w'.heap.size) w' (.agg #[.int .u8 (r.1.kind.toNat : Int), .int .u8 (r.1.status.toNat : Int), .string (ba r.1.text), .slice A1 n1 p1, .slice A2 n2 p2, .slice A3 n3 p3, .int .i64 r.1.n, .int .i64 r.1.m]) r.1 ∧ Below w.heap.size w w'
theorem dec_o (k : UInt8) (s : ByteArray) (w : World) (hs : s.size ≤ 1099511627776) (r : Tell × Int) (hr : decP k s.data.toList = r) :
    Calls Try.prog 9 #[.agg #[.int .u8 (k.toNat : Int), .string s]] w (DecO r w) := by
  subst hr
  refine (dec_any k s w hs).mono ?_
  rintro e2 w2 ⟨v, g1, g2, g3⟩
  obtain ⟨kv, vv, nv, rfl, o1, o2, o3⟩ := g2.ex
  obtain ⟨A1, c1, rfl, _, _⟩ := o1.form
  obtain ⟨A2, c2, rfl, _, _⟩ := o2.form
  obtain ⟨A3, c3, rfl, _, _⟩ := o3.form
  exact ⟨_, _, _, _, _, _, _, _, _, g1, ar_own g2, g3⟩
theorem few_right {a : Tell} (h : RightP a) : Few a := by
  have hs := right_short h
  unfold shortB at hs
  obtain ⟨h1, h2, h3⟩ := of_decide_eq_true hs
  have hl := lens_right h
  refine ⟨by omega, by omega, by omega, ?_, fun t ht => by have := sumT_has _ t ht; omega, fun t ht => by have := sumT_has _ t ht; omega⟩
  obtain ⟨d, hd⟩ := h.1.kind
  have hk : keptD d a := by have := h.1.kept; unfold Kept at this; rw [hd] at this; exact this
  cases d
  case row => have := h.1.null hd; omega
  all_goals
    simp only [keptD] at hk
    have : a.null = [] := by rw [hk]
    rw [this]; simp
theorem enc_yes (a : Tell) (v : Value) (w : World) (f : Few a) (har : AR (fun i => i < w.heap.size) w v a) (h : RightP a) :
    Calls Try.prog 13 #[v] w fun e w' => e = .returned (.tuple #[.agg #[.int .u8 (a.kind.toNat : Int), .string (ba (body a))], .int .i64 0]) ∧ Below w.heap.size w w' := by
  have := enc_any a v w f har
  rw [encP_yes h] at this
  exact this
theorem enc_is (a : Tell) (v : Value) (w : World) (f : Few a) (har : AR (fun i => i < w.heap.size) w v a) (h : RightP a) (k : UInt8) (s : ByteArray) (hk : a.kind = k) (hs : body a = s.data.toList) :
    Calls Try.prog 13 #[v] w fun e w' => e = .returned (.tuple #[.agg #[.int .u8 (k.toNat : Int), .string s], .int .i64 0]) ∧ Below w.heap.size w w' := by
  subst hk
  have := enc_yes a v w f har h
  rw [hs, ba_of] at this
  exact this
theorem encP_no {a : Tell} (h : ¬ RightP a) : encP a = ((0, []), 4) := by unfold encP; rw [if_neg h]
theorem enc_no (a : Tell) (v : Value) (w : World) (f : Few a) (har : AR (fun i => i < w.heap.size) w v a) (h : ¬ RightP a) :
    Calls Try.prog 13 #[v] w fun e w' => e = .returned (.tuple #[.agg #[.int .u8 0, .string ⟨#[]⟩], .int .i64 4]) ∧ Below w.heap.size w w' := by
  have := enc_any a v w f har
  rw [encP_no h] at this
  exact this
theorem right_yes (a : Tell) (v : Value) (w : World) (f : Few a) (har : AR (fun i => i < w.heap.size) w v a) (h : RightP a) : Calls Try.prog 15 #[v] w fun e w' => e = .returned (.bool true) ∧ Below w.heap.size w w' := by
  have := bright_any a v w f har
  rw [encP_yes h] at this
  exact this
theorem right_no (a : Tell) (v : Value) (w : World) (f : Few a) (har : AR (fun i => i < w.heap.size) w v a) (h : ¬ RightP a) : Calls Try.prog 15 #[v] w fun e w' => e = .returned (.bool false) ∧ Below w.heap.size w w' := by
  have := bright_any a v w f har
  rw [encP_no h] at this
  exact this
set_option maxHeartbeats 4000000 in
theorem reads_walk (v m : Value) (W : World) (hT : FitsT W v) (hM : FitsM W m) :
    Calls Try.prog 5 #[v, m] W fun e w' => e = .returned (.bool true) ∧ Below W.heap.size W w' := by
  obtain ⟨a, har, hS⟩ := hT
  obtain ⟨k, s, rfl, hs⟩ := hM
  obtain ⟨kv, vv, nv, rfl, o1, o2, o3⟩ := har.ex
  obtain ⟨A1, p1, rfl, _, _⟩ := o1.form
  obtain ⟨A2, p2, rfl, _, _⟩ := o2.form
  obtain ⟨A3, p3, rfl, _, _⟩ := o3.form
  obtain ⟨n1, hn1⟩ : ∃ n, n = (strs a.keys).length := ⟨_, rfl⟩
  obtain ⟨n2, hn2⟩ : ∃ n, n = (strs a.vals).length := ⟨_, rfl⟩
  obtain ⟨n3, hn3⟩ : ∃ n, n = (bools a.null).length := ⟨_, rfl⟩
  rw [← hn1, ← hn2, ← hn3] at har ⊢
  clear o1 o2 o3 hn1 hn2 hn3
  rw [box_cut] at har ⊢
  unfold u8
  have hB := grow_ (bel_alloc W (.cells #[.int .u8 (a.kind.toNat : Int), .int .u8 (a.status.toNat : Int), .string (ba a.text), .slice A1 n1 p1, .slice A2 n2 p2, .slice A3 n3 p3, .int .i64 a.n, .int .i64 a.m] 28)) (bel_alloc (W.alloc (.cells #[.int .u8 (a.kind.toNat : Int), .int .u8 (a.status.toNat : Int), .string (ba a.text), .slice A1 n1 p1, .slice A2 n2 p2, .slice A3 n3 p3, .int .i64 a.n, .int .i64 a.m] 28)) (.cells #[.int .u8 (k.toNat : Int), .string s] 23))
  have ht := (Blk.new W 28 #[.int .u8 (a.kind.toNat : Int), .int .u8 (a.status.toNat : Int), .string (ba a.text), .slice A1 n1 p1, .slice A2 n2 p2, .slice A3 n3 p3, .int .i64 a.n, .int .i64 a.m]).alloc (.cells #[.int .u8 (k.toNat : Int), .string s] 23)
  have hm := Blk.new (W.alloc (.cells #[.int .u8 (a.kind.toNat : Int), .int .u8 (a.status.toNat : Int), .string (ba a.text), .slice A1 n1 p1, .slice A2 n2 p2, .slice A3 n3 p3, .int .i64 a.n, .int .i64 a.m] 28)) 23 #[.int .u8 (k.toNat : Int), .string s]
  rw [show (W.alloc (.cells #[.int .u8 (a.kind.toNat : Int), .int .u8 (a.status.toNat : Int), .string (ba a.text), .slice A1 n1 p1, .slice A2 n2 p2, .slice A3 n3 p3, .int .i64 a.n, .int .i64 a.m] 28)).heap.size = W.heap.size + 1 by simp] at hm
  have har := AR.grow har hB
  have dl := light_any _ a _ har hS
  go_enter Try.func5, Try.ntmps5
  go_wp2_with fail
  refine dl.mono ?_; rintro e w1 ⟨b, rfl, hb, hb1⟩
  have ht := ht.below (hb1) ht.lt
  have hm := hm.below (hb1) hm.lt
  have har := AR.grow har (hb1)
  have hB := grow_ hB (hb1)
  have lt := ht.lt
  have lm := hm.lt
  clear dl hb1
  cases b
  · go_wp2_with fail
    refine (known_any _).mono ?_; rintro e wk ⟨rfl, hbk⟩
    have hfin := grow_ hB hbk
    go_wp2
    go_ret
    exact ⟨rfl, hfin⟩
  · have hf := hb rfl
    clear hb
    have y1 : w1.cell? ⟨W.heap.size + 1, 1, none⟩ = some (.string s) := hm.cell 1
    by_cases h6 : s.size ≤ 6000
    · have d6 : decide ((6000 : Int) < (s.size : Int)) = false := by simp; omega
      obtain ⟨x0, x1, x2, x3, x4, x5, x6, x7⟩ := Blk.all8 ht
      rcases Classical.em (RightP a) with hr | hr
      · have de := enc_yes a _ w1 hf har hr
        go_wp2_with fail
        refine de.mono ?_; rintro e w2 ⟨rfl, hb2⟩
        clear x0 x1 x2 x3 x4 x5 x6 x7
        have ht := ht.below (hb2) ht.lt
        have hm := hm.below (hb2) hm.lt
        have har := AR.grow har (hb2)
        have hB := grow_ hB (hb2)
        have he := Blk.new w2 23 #[.int .u8 (a.kind.toNat : Int), .string (ba (body a))]
        have ht := ht.below (bel_alloc w2 (.cells #[.int .u8 (a.kind.toNat : Int), .string (ba (body a))] 23)) ht.lt
        have hm := hm.below (bel_alloc w2 (.cells #[.int .u8 (a.kind.toNat : Int), .string (ba (body a))] 23)) hm.lt
        have har := AR.grow har (bel_alloc w2 (.cells #[.int .u8 (a.kind.toNat : Int), .string (ba (body a))] 23))
        have hB := grow_ hB (bel_alloc w2 (.cells #[.int .u8 (a.kind.toNat : Int), .string (ba (body a))] 23))
        obtain ⟨x0, x1, x2, x3, x4, x5, x6, x7⟩ := Blk.all8 ht
        have lt := ht.lt
        have lm := hm.lt
        clear de hb2 y1
        go_wp2_with fail
        refine (right_yes a _ _ hf har hr).mono ?_; rintro e w3 ⟨rfl, hb3⟩
        clear x0 x1 x2 x3 x4 x5 x6 x7
        have ht := ht.below (hb3) ht.lt
        have hm := hm.below (hb3) hm.lt
        have he := he.below (hb3) he.lt
        have har := AR.grow har (hb3)
        have hB := grow_ hB (hb3)
        obtain ⟨x0, x1, x2, x3, x4, x5, x6, x7⟩ := Blk.all8 ht
        have lt := ht.lt
        have lm := hm.lt
        have le := he.lt
        have e0 : w3.cell? ⟨w2.heap.size, 0, none⟩ = some (.int .u8 (a.kind.toNat : Int)) := he.cell 0
        have e1 : w3.cell? ⟨w2.heap.size, 1, none⟩ = some (.string (ba (body a))) := he.cell 1
        have hbl : (ba (body a)).size ≤ 1099511627776 := by rw [ba_size]; have := hr.len; omega
        have dd := dec_o a.kind (ba (body a)) w3 hbl (a, 0) (by rw [ba_list]; exact dec_ok hr)
        clear hb3
        go_wp2_with fail
        refine dd.mono ?_; rintro e w4 ⟨B1, Bm1, Bq1, B2, Bm2, Bq2, B3, Bm3, Bq3, rfl, hu, hb4⟩
        clear x0 x1 x2 x3 x4 x5 x6 x7
        clear e0 e1
        have ht := ht.below (hb4) ht.lt
        have hm := hm.below (hb4) hm.lt
        have har := AR.grow har (hb4)
        have hB := grow_ hB (hb4)
        have ht := ht.below (bel_alloc w4 (.cells #[.int .u8 (a.kind.toNat : Int), .int .u8 (a.status.toNat : Int), .string (ba a.text), .slice B1 Bm1 Bq1, .slice B2 Bm2 Bq2, .slice B3 Bm3 Bq3, .int .i64 a.n, .int .i64 a.m] 28)) ht.lt
        have hm := hm.below (bel_alloc w4 (.cells #[.int .u8 (a.kind.toNat : Int), .int .u8 (a.status.toNat : Int), .string (ba a.text), .slice B1 Bm1 Bq1, .slice B2 Bm2 Bq2, .slice B3 Bm3 Bq3, .int .i64 a.n, .int .i64 a.m] 28)) hm.lt
        have har := AR.grow har (bel_alloc w4 (.cells #[.int .u8 (a.kind.toNat : Int), .int .u8 (a.status.toNat : Int), .string (ba a.text), .slice B1 Bm1 Bq1, .slice B2 Bm2 Bq2, .slice B3 Bm3 Bq3, .int .i64 a.n, .int .i64 a.m] 28))
        have hB := grow_ hB (bel_alloc w4 (.cells #[.int .u8 (a.kind.toNat : Int), .int .u8 (a.status.toNat : Int), .string (ba a.text), .slice B1 Bm1 Bq1, .slice B2 Bm2 Bq2, .slice B3 Bm3 Bq3, .int .i64 a.n, .int .i64 a.m] 28))
        have hu := AR.grow hu (bel_alloc w4 (.cells #[.int .u8 (a.kind.toNat : Int), .int .u8 (a.status.toNat : Int), .string (ba a.text), .slice B1 Bm1 Bq1, .slice B2 Bm2 Bq2, .slice B3 Bm3 Bq3, .int .i64 a.n, .int .i64 a.m] 28))
        obtain ⟨x0, x1, x2, x3, x4, x5, x6, x7⟩ := Blk.all8 ht
        have lt := ht.lt
        have lm := hm.lt
        clear dd hb4
        go_wp2_with fail
        refine (same_yes _ a _ _ har hu hf.lens).mono ?_; rintro e wq ⟨rfl, hb5⟩
        clear x0 x1 x2 x3 x4 x5 x6 x7
        clear hu
        have ht := ht.below (hb5) ht.lt
        have hm := hm.below (hb5) hm.lt
        have har := AR.grow har (hb5)
        have hB := grow_ hB (hb5)
        clear hb5 le he hbl
        have lt := ht.lt
        have lm := hm.lt
        have m0 : wq.cell? ⟨W.heap.size + 1, 0, none⟩ = some (.int .u8 (k.toNat : Int)) := hm.cell 0
        have m1 : wq.cell? ⟨W.heap.size + 1, 1, none⟩ = some (.string s) := hm.cell 1
        obtain ⟨⟨v, er⟩, hde⟩ : ∃ r, decP k s.data.toList = r := ⟨_, rfl⟩
        have hin := @dec_inv k s.data.toList
        rw [hde] at hin
        simp only at hin
        have dd := dec_o k s wq (by omega) _ hde
        go_wp2_with fail
        refine dd.mono ?_; rintro e wd ⟨B1, Bm1, Bq1, B2, Bm2, Bq2, B3, Bm3, Bq3, rfl, hv, hb6⟩
        clear m0 m1 dd hde
        have hm := hm.below (hb6) hm.lt
        have hB := grow_ hB (hb6)
        dsimp only at hv ⊢
        have hvx := Blk.new wd 28 #[.int .u8 (v.kind.toNat : Int), .int .u8 (v.status.toNat : Int), .string (ba v.text), .slice B1 Bm1 Bq1, .slice B2 Bm2 Bq2, .slice B3 Bm3 Bq3, .int .i64 v.n, .int .i64 v.m]
        have hm := hm.below (bel_alloc wd (.cells #[.int .u8 (v.kind.toNat : Int), .int .u8 (v.status.toNat : Int), .string (ba v.text), .slice B1 Bm1 Bq1, .slice B2 Bm2 Bq2, .slice B3 Bm3 Bq3, .int .i64 v.n, .int .i64 v.m] 28)) hm.lt
        have hB := grow_ hB (bel_alloc wd (.cells #[.int .u8 (v.kind.toNat : Int), .int .u8 (v.status.toNat : Int), .string (ba v.text), .slice B1 Bm1 Bq1, .slice B2 Bm2 Bq2, .slice B3 Bm3 Bq3, .int .i64 v.n, .int .i64 v.m] 28))
        have hv := AR.grow hv (bel_alloc wd (.cells #[.int .u8 (v.kind.toNat : Int), .int .u8 (v.status.toNat : Int), .string (ba v.text), .slice B1 Bm1 Bq1, .slice B2 Bm2 Bq2, .slice B3 Bm3 Bq3, .int .i64 v.n, .int .i64 v.m] 28))
        clear ht har hb6
        have lm := hm.lt
        by_cases he0 : er = 0
        · subst he0
          obtain ⟨hrv, hkv, hbv⟩ := hin rfl
          clear hin
          have hfv := few_right hrv
          have dv := enc_is v _ _ hfv hv hrv k s hkv hbv
          clear hkv hbv
          go_wp2_with fail
          refine dv.mono ?_; rintro e wo ⟨rfl, hb7⟩
          have hvx := hvx.below hb7 hvx.lt
          have hm := hm.below hb7 hm.lt
          have hv := AR.grow hv hb7
          have hB := grow_ hB hb7
          have hvx := hvx.below (bel_alloc wo (.cells #[.int .u8 (k.toNat : Int), .string s] 23)) hvx.lt
          have hm := hm.below (bel_alloc wo (.cells #[.int .u8 (k.toNat : Int), .string s] 23)) hm.lt
          have hv := AR.grow hv (bel_alloc wo (.cells #[.int .u8 (k.toNat : Int), .string s] 23))
          have hB := grow_ hB (bel_alloc wo (.cells #[.int .u8 (k.toNat : Int), .string s] 23))
          obtain ⟨z0, z1, z2, z3, z4, z5, z6, z7⟩ := Blk.all8 hvx
          have m0 : (wo.alloc (.cells #[.int .u8 (k.toNat : Int), .string s] 23)).cell? ⟨W.heap.size + 1, 0, none⟩ = some (.int .u8 (k.toNat : Int)) := hm.cell 0
          have m1 : (wo.alloc (.cells #[.int .u8 (k.toNat : Int), .string s] 23)).cell? ⟨W.heap.size + 1, 1, none⟩ = some (.string s) := hm.cell 1
          have lv := hvx.lt
          have lm := hm.lt
          clear dv hb7
          go_wp2_with fail
          refine (right_yes v _ _ hfv hv hrv).mono ?_; rintro e wr ⟨rfl, hb8⟩
          have hB := grow_ hB hb8
          clear z0 z1 z2 z3 z4 z5 z6 z7 m0 m1
          go_wp2_with fail
          refine (known_any _).mono ?_; rintro e wk ⟨rfl, hbk⟩
          have hfin := grow_ hB hbk
          go_wp2
          go_ret
          exact ⟨rfl, hfin⟩
        · have hne : (er == 0) = false := by simpa using he0
          clear he0 hin
          go_wp2_with fail
          refine (known_any _).mono ?_; rintro e wk ⟨rfl, hbk⟩
          have hfin := grow_ hB hbk
          go_wp2
          go_ret
          exact ⟨rfl, hfin⟩
      · have de := enc_no a _ w1 hf har hr
        go_wp2_with fail
        refine de.mono ?_; rintro e w2 ⟨rfl, hb2⟩
        clear x0 x1 x2 x3 x4 x5 x6 x7
        have ht := ht.below (hb2) ht.lt
        have hm := hm.below (hb2) hm.lt
        have har := AR.grow har (hb2)
        have hB := grow_ hB (hb2)
        have ht := ht.below (bel_alloc w2 (.cells #[.int .u8 0, .string ⟨#[]⟩] 23)) ht.lt
        have hm := hm.below (bel_alloc w2 (.cells #[.int .u8 0, .string ⟨#[]⟩] 23)) hm.lt
        have har := AR.grow har (bel_alloc w2 (.cells #[.int .u8 0, .string ⟨#[]⟩] 23))
        have hB := grow_ hB (bel_alloc w2 (.cells #[.int .u8 0, .string ⟨#[]⟩] 23))
        obtain ⟨x0, x1, x2, x3, x4, x5, x6, x7⟩ := Blk.all8 ht
        have lt := ht.lt
        have lm := hm.lt
        clear de hb2 y1
        go_wp2_with fail
        refine (right_no a _ _ hf har hr).mono ?_; rintro e wq ⟨rfl, hb3⟩
        clear x0 x1 x2 x3 x4 x5 x6 x7
        have ht := ht.below (hb3) ht.lt
        have hm := hm.below (hb3) hm.lt
        have har := AR.grow har (hb3)
        have hB := grow_ hB (hb3)
        clear hb3
        have lt := ht.lt
        have lm := hm.lt
        have m0 : wq.cell? ⟨W.heap.size + 1, 0, none⟩ = some (.int .u8 (k.toNat : Int)) := hm.cell 0
        have m1 : wq.cell? ⟨W.heap.size + 1, 1, none⟩ = some (.string s) := hm.cell 1
        obtain ⟨⟨v, er⟩, hde⟩ : ∃ r, decP k s.data.toList = r := ⟨_, rfl⟩
        have hin := @dec_inv k s.data.toList
        rw [hde] at hin
        simp only at hin
        have dd := dec_o k s wq (by omega) _ hde
        go_wp2_with fail
        refine dd.mono ?_; rintro e wd ⟨B1, Bm1, Bq1, B2, Bm2, Bq2, B3, Bm3, Bq3, rfl, hv, hb6⟩
        clear m0 m1 dd hde
        have hm := hm.below (hb6) hm.lt
        have hB := grow_ hB (hb6)
        dsimp only at hv ⊢
        have hvx := Blk.new wd 28 #[.int .u8 (v.kind.toNat : Int), .int .u8 (v.status.toNat : Int), .string (ba v.text), .slice B1 Bm1 Bq1, .slice B2 Bm2 Bq2, .slice B3 Bm3 Bq3, .int .i64 v.n, .int .i64 v.m]
        have hm := hm.below (bel_alloc wd (.cells #[.int .u8 (v.kind.toNat : Int), .int .u8 (v.status.toNat : Int), .string (ba v.text), .slice B1 Bm1 Bq1, .slice B2 Bm2 Bq2, .slice B3 Bm3 Bq3, .int .i64 v.n, .int .i64 v.m] 28)) hm.lt
        have hB := grow_ hB (bel_alloc wd (.cells #[.int .u8 (v.kind.toNat : Int), .int .u8 (v.status.toNat : Int), .string (ba v.text), .slice B1 Bm1 Bq1, .slice B2 Bm2 Bq2, .slice B3 Bm3 Bq3, .int .i64 v.n, .int .i64 v.m] 28))
        have hv := AR.grow hv (bel_alloc wd (.cells #[.int .u8 (v.kind.toNat : Int), .int .u8 (v.status.toNat : Int), .string (ba v.text), .slice B1 Bm1 Bq1, .slice B2 Bm2 Bq2, .slice B3 Bm3 Bq3, .int .i64 v.n, .int .i64 v.m] 28))
        clear ht har hb6
        have lm := hm.lt
        by_cases he0 : er = 0
        · subst he0
          obtain ⟨hrv, hkv, hbv⟩ := hin rfl
          clear hin
          have hfv := few_right hrv
          have dv := enc_is v _ _ hfv hv hrv k s hkv hbv
          clear hkv hbv
          go_wp2_with fail
          refine dv.mono ?_; rintro e wo ⟨rfl, hb7⟩
          have hvx := hvx.below hb7 hvx.lt
          have hm := hm.below hb7 hm.lt
          have hv := AR.grow hv hb7
          have hB := grow_ hB hb7
          have hvx := hvx.below (bel_alloc wo (.cells #[.int .u8 (k.toNat : Int), .string s] 23)) hvx.lt
          have hm := hm.below (bel_alloc wo (.cells #[.int .u8 (k.toNat : Int), .string s] 23)) hm.lt
          have hv := AR.grow hv (bel_alloc wo (.cells #[.int .u8 (k.toNat : Int), .string s] 23))
          have hB := grow_ hB (bel_alloc wo (.cells #[.int .u8 (k.toNat : Int), .string s] 23))
          obtain ⟨z0, z1, z2, z3, z4, z5, z6, z7⟩ := Blk.all8 hvx
          have m0 : (wo.alloc (.cells #[.int .u8 (k.toNat : Int), .string s] 23)).cell? ⟨W.heap.size + 1, 0, none⟩ = some (.int .u8 (k.toNat : Int)) := hm.cell 0
          have m1 : (wo.alloc (.cells #[.int .u8 (k.toNat : Int), .string s] 23)).cell? ⟨W.heap.size + 1, 1, none⟩ = some (.string s) := hm.cell 1
          have lv := hvx.lt
          have lm := hm.lt
          clear dv hb7
          go_wp2_with fail
          refine (right_yes v _ _ hfv hv hrv).mono ?_; rintro e wr ⟨rfl, hb8⟩
          have hB := grow_ hB hb8
          clear z0 z1 z2 z3 z4 z5 z6 z7 m0 m1
          go_wp2_with fail
          refine (known_any _).mono ?_; rintro e wk ⟨rfl, hbk⟩
          have hfin := grow_ hB hbk
          go_wp2
          go_ret
          exact ⟨rfl, hfin⟩
        · have hne : (er == 0) = false := by simpa using he0
          clear he0 hin
          go_wp2_with fail
          refine (known_any _).mono ?_; rintro e wk ⟨rfl, hbk⟩
          have hfin := grow_ hB hbk
          go_wp2
          go_ret
          exact ⟨rfl, hfin⟩
    · have d6 : decide ((6000 : Int) < (s.size : Int)) = true := by simp; omega
      go_wp2_with fail
      refine (known_any _).mono ?_; rintro e wk ⟨rfl, hbk⟩
      have hfin := grow_ hB hbk
      go_wp2
      go_ret
      exact ⟨rfl, hfin⟩
end Go.Proofs.Ytnjifbgjglniaaa.BK
