/- What the document's own Right answers. Condition: Few. -/
import Derived.Test.YtnjifbgjglniaaaBkra
import Derived.Test.YtnjifbgjglniaaaBkrd
import Derived.Test.YtnjifbgjglniaaaBkrc
import Derived.Test.YtnjifbgjglniaaaBkx1
namespace Go.Proofs.Ytnjifbgjglniaaa.BK
open Go.Proofs.Ytnjifbgjglniaaa
open Go.ChangeShapes Go.WideShapes Go.ChangeAt Go.RowKit
set_option linter.unusedVariables false
set_option linter.unusedSimpArgs false
set_option maxRecDepth 100000
attribute [local go_sem ↓] Go.wp_at_zero Go.wp_at_succ

theorem rbody_any (w : World) (a : Tell) (v : Value) (f : Few a) (har : AR (fun i => i < w.heap.size) w v a) (d : Kd) (hd : kd a.kind = some d) (h1 : d = .row → a.null.length = a.vals.length) (h2 : d = .setting → a.vals.length = 1) (h3 : d = .fields → a.keys.length = a.vals.length) (h4 : ∀ t ∈ a.keys, 0 ∉ t) :
    Calls Try.prog 23 #[v] w fun e w' => e = .returned (.string (ba (body a))) ∧ Below w.heap.size w w' := by
  rw [body_of d a hd]
  rcases kd_inv a.kind with h | ⟨hk, h⟩ | ⟨hk, h⟩ | ⟨hk, h⟩ | ⟨hk, h⟩ | ⟨hk, h⟩ | ⟨hk, h⟩ | ⟨hk, h⟩ | ⟨hk, h⟩ | ⟨hk, h⟩
  · rw [hd] at h; cases h
  all_goals
    rw [hd] at h
    injection h with h
    subst h
  · exact rb_R w a v f har hk
  · exact rb_K w a v f har hk
  · exact rb_Z w a v f har hk
  · exact rb_C w a v f har hk
  · exact rb_S w a v f har hk (h2 rfl)
  · exact rb_T w a v f har hk
  · exact rb_D w a v f har hk (h1 rfl)
  · rcases hk with hk | hk
    · exact rb_E w a v f har hk (h3 rfl) h4
    · exact rb_N w a v f har hk (h3 rfl) h4
  · rcases hk with hk | hk | hk | hk | hk | hk
    · exact rb_n1 w a v f har hk
    · exact rb_n2 w a v f har hk
    · exact rb_n3 w a v f har hk
    · exact rb_nn w a v f har hk
    · exact rb_nI w a v f har hk
    · exact rb_ns w a v f har hk
theorem rbody_good (w : World) (a : Tell) (v : Value) (f : Few a) (har : AR (fun i => i < w.heap.size) w v a) (g : Good a) :
    Calls Try.prog 23 #[v] w fun e w' => e = .returned (.string (ba (body a))) ∧ Below w.heap.size w w' := by
  obtain ⟨d, hd⟩ := g.kind
  exact rbody_any w a v f har d hd (fun e => g.null (by rw [hd, e])) (fun e => g.one (by rw [hd, e])) (fun e => g.pair (by rw [hd, e])) g.keys0
theorem rkept_b {P : Nat → Prop} (w : World) (a : Tell) (v : Value) (har : AR P w v a) (b : Bool) (hb : decide (Kept a) = b) :
    Calls Try.prog 27 #[v] w fun e w' => e = .returned (.bool b) ∧ Below w.heap.size w w' := by
  rw [← hb]; exact rkept_any w a v har
theorem rlists_b (w : World) (a : Tell) (v : Value) (f : Few a) (har : AR (fun i => i < w.heap.size) w v a) (b : Bool) (hb : ListsP a ↔ b = true) :
    Calls Try.prog 28 #[v] w fun e w' => e = .returned (.bool b) ∧ Below w.heap.size w w' := by
  refine (rlists_any w a v f har).mono ?_
  rintro e w1 ⟨c, rfl, h1, h2⟩
  have : c = b := by rw [Bool.eq_iff_iff, h1, hb]
  rw [this]; exact ⟨rfl, h2⟩
theorem rfour_b (n : Int) (w : World) (b : Bool) (hb : decide (four n) = b) : Calls Try.prog 30 #[.int .i64 n] w fun e w' => e = .returned (.bool b) ∧ w' = w := by
  rw [← hb]; exact rfour_any n w
theorem lr_one (w : World) (t : Tx) : LR (fun b => b < (w.alloc (.cells #[.string (ba t)] 9)).heap.size) (w.alloc (.cells #[.string (ba t)] 9)) (.slice (some ⟨w.heap.size, 0, none⟩) 1 1) (strs [t]) :=
  LRlit w 9 #[.string (ba t)] (by show 1 ≤ maxLen; decide)
theorem rfr_b (a : Tell) (f : Few a) (w : World) : Calls Try.prog 31 #[.agg #[.int .u8 (a.kind.toNat : Int), .string (ba (body a))]] w fun e w' => e = .returned (.bool (rightL (a.kind, body a))) ∧ Below w.heap.size w w' := by
  have hb : (body a).length ≤ 1000000000 := by
    unfold body
    cases kd a.kind with
    | none => simp
    | some d => exact body_few d a f
  have := rright_any a.kind (ba (body a)) w (by rw [ba_size]; omega)
  rw [ba_list] at this
  exact this
theorem lists_of {a : Tell} (g : Good a) : ListsP a := by
  refine ⟨g.keys100, g.vals100, g.keys0, fun h => g.vals0 ?_, fun h => ⟨g.null (by rw [h]; rfl), g.nulls (by rw [h]; rfl)⟩, fun h => g.one (by rw [h]; rfl), fun h => ⟨g.pair (by rcases h with h | h <;> rw [h] <;> rfl), g.key1 (by rcases h with h | h <;> rw [h] <;> rfl)⟩⟩
  intro e
  rcases kd_inv a.kind with h1 | ⟨hk, h1⟩ | ⟨hk, h1⟩ | ⟨hk, h1⟩ | ⟨hk, h1⟩ | ⟨hk, h1⟩ | ⟨hk, h1⟩ | ⟨hk, h1⟩ | ⟨hk, h1⟩ | ⟨hk, h1⟩
  all_goals first | exact h hk | (rw [e] at h1; cases h1)
set_option maxHeartbeats 4000000 in
theorem rr_0 (w : World) (a : Tell) (v : Value) (f : Few a) (har : AR (fun i => i < w.heap.size) w v a) (hK : decide (Kept a) = false)  :
    Calls Try.prog 16 #[v] w fun e w' => RLP (RightP a) w e w' := by
  have hkp := fun W (hB : Below w.heap.size w W) => rkept_b W a v (har.step (fun b hb => hB.block b hb) (fun b hb => Nat.lt_of_lt_of_le hb hB.size)) _ hK
  obtain ⟨kv, vv, nv, rfl, k1, k2, k3⟩ := har.ex
  clear har
  obtain ⟨A1, c1, e1, z1, y1⟩ := k1.form
  rw [strs_len] at e1 z1
  subst e1
  obtain ⟨A2, c2, e2, z2, y2⟩ := k2.form
  rw [strs_len] at e2 z2
  subst e2
  obtain ⟨A3, c3, e3, z3, y3⟩ := k3.form
  rw [bools_len] at e3 z3
  subst e3
  rw [box_cut] at hkp ⊢
  have HKP := Lib.hid hkp
  have HK := Lib.hid hK
  have HF := Lib.hid f
  clear f k1 k2 k3 hkp hK
  go_enter Try.func16, Try.ntmps16
  go_wp2_with fail
  refine (HKP.out _ ((Below.refl _ _).alloc (Nat.le_refl _) _)).mono ?_; rintro e w1 ⟨rfl, hb1⟩
  go_wp2
  go_ret
  exact rlp_no (fun h => of_decide_eq_false HK.out h.1.kept) (bel hb1)
set_option maxHeartbeats 4000000 in
theorem rr_1 (w : World) (a : Tell) (v : Value) (f : Few a) (har : AR (fun i => i < w.heap.size) w v a) (hK : decide (Kept a) = true) (hL : ListsP a ↔ false = true)  :
    Calls Try.prog 16 #[v] w fun e w' => RLP (RightP a) w e w' := by
  have hkp := fun W (hB : Below w.heap.size w W) => rkept_b W a v (har.step (fun b hb => hB.block b hb) (fun b hb => Nat.lt_of_lt_of_le hb hB.size)) _ hK
  have hlp := fun W (hB : Below w.heap.size w W) => rlists_b W a v f (har.step (fun b hb => hB.block b hb) (fun b hb => Nat.lt_of_lt_of_le hb hB.size)) _ hL
  obtain ⟨kv, vv, nv, rfl, k1, k2, k3⟩ := har.ex
  clear har
  obtain ⟨A1, c1, e1, z1, y1⟩ := k1.form
  rw [strs_len] at e1 z1
  subst e1
  obtain ⟨A2, c2, e2, z2, y2⟩ := k2.form
  rw [strs_len] at e2 z2
  subst e2
  obtain ⟨A3, c3, e3, z3, y3⟩ := k3.form
  rw [bools_len] at e3 z3
  subst e3
  rw [box_cut] at hkp hlp ⊢
  have HKP := Lib.hid hkp
  have HLP := Lib.hid hlp
  have HK := Lib.hid hK
  have HL := Lib.hid hL
  have HF := Lib.hid f
  clear f k1 k2 k3 hkp hlp hK hL
  go_enter Try.func16, Try.ntmps16
  go_wp2_with fail
  refine (HKP.out _ ((Below.refl _ _).alloc (Nat.le_refl _) _)).mono ?_; rintro e w1 ⟨rfl, hb1⟩
  have q1 := (Blk.new w 28 #[.int .u8 (a.kind.toNat : Int), .int .u8 (a.status.toNat : Int), .string (ba a.text), .slice A1 a.keys.length c1, .slice A2 a.vals.length c2, .slice A3 a.null.length c3, .int .i64 a.n, .int .i64 a.m]).below hb1 (by simp)
  have B1 := bel hb1
  obtain ⟨x0, x1, x2, x3, x4, x5, x6, x7⟩ := Blk.all8 q1
  have Q1 := Lib.hid q1
  clear q1 hb1 HKP
  go_wp2_with fail
  refine (HLP.out _ B1).mono ?_; rintro e w2 ⟨rfl, hb2⟩
  go_wp2
  go_ret
  exact rlp_no (fun h => by have := HL.out.1 (lists_of h.1); cases this) (gro B1 hb2)
set_option maxHeartbeats 4000000 in
theorem rr_2 (w : World) (a : Tell) (v : Value) (f : Few a) (har : AR (fun i => i < w.heap.size) w v a) (hK : decide (Kept a) = true) (hL : ListsP a ↔ true = true) (hT : decide (∀ t ∈ [a.text], 0 ∉ t) = false)  :
    Calls Try.prog 16 #[v] w fun e w' => RLP (RightP a) w e w' := by
  have hkp := fun W (hB : Below w.heap.size w W) => rkept_b W a v (har.step (fun b hb => hB.block b hb) (fun b hb => Nat.lt_of_lt_of_le hb hB.size)) _ hK
  have hlp := fun W (hB : Below w.heap.size w W) => rlists_b W a v f (har.step (fun b hb => hB.block b hb) (fun b hb => Nat.lt_of_lt_of_le hb hB.size)) _ hL
  obtain ⟨kv, vv, nv, rfl, k1, k2, k3⟩ := har.ex
  clear har
  obtain ⟨A1, c1, e1, z1, y1⟩ := k1.form
  rw [strs_len] at e1 z1
  subst e1
  obtain ⟨A2, c2, e2, z2, y2⟩ := k2.form
  rw [strs_len] at e2 z2
  subst e2
  obtain ⟨A3, c3, e3, z3, y3⟩ := k3.form
  rw [bools_len] at e3 z3
  subst e3
  rw [box_cut] at hkp hlp ⊢
  have HKP := Lib.hid hkp
  have HLP := Lib.hid hlp
  have HK := Lib.hid hK
  have HL := Lib.hid hL
  have HT := Lib.hid hT
  have HF := Lib.hid f
  clear f k1 k2 k3 hkp hlp hK hL hT
  go_enter Try.func16, Try.ntmps16
  go_wp2_with fail
  refine (HKP.out _ ((Below.refl _ _).alloc (Nat.le_refl _) _)).mono ?_; rintro e w1 ⟨rfl, hb1⟩
  have q1 := (Blk.new w 28 #[.int .u8 (a.kind.toNat : Int), .int .u8 (a.status.toNat : Int), .string (ba a.text), .slice A1 a.keys.length c1, .slice A2 a.vals.length c2, .slice A3 a.null.length c3, .int .i64 a.n, .int .i64 a.m]).below hb1 (by simp)
  have B1 := bel hb1
  obtain ⟨x0, x1, x2, x3, x4, x5, x6, x7⟩ := Blk.all8 q1
  have Q1 := Lib.hid q1
  clear q1 hb1 HKP
  go_wp2_with fail
  refine (HLP.out _ B1).mono ?_; rintro e w2 ⟨rfl, hb2⟩
  have q2 := Q1.out.below hb2 Q1.out.lt
  have B2 := gro B1 hb2
  clear x0 x1 x2 x3 x4 x5 x6 x7 hb2 HLP
  obtain ⟨x0, x1, x2, x3, x4, x5, x6, x7⟩ := Blk.all8 q2
  have Q2 := Lib.hid q2
  clear q2 Q1
  go_wp2_with fail
  refine (rplain_b _ [a.text] _ false HT.out (lr_one w2 a.text) (by simp) (fun t ht => by rw [List.mem_singleton.1 ht]; exact HF.out.text)).mono ?_; rintro e w3 ⟨rfl, hw⟩
  have q3 := Q2.out.alloc (.cells #[.string (ba a.text)] 9)
  have B3 := gro B2 (bel_alloc w2 (.cells #[.string (ba a.text)] 9))
  rw [← hw] at q3 B3
  clear hw x0 x1 x2 x3 x4 x5 x6 x7 Q2 B2
  go_wp2
  go_ret
  exact rlp_no (fun h => of_decide_eq_false HT.out (fun t ht => by rw [List.mem_singleton.1 ht]; exact h.1.text0)) B3
set_option maxHeartbeats 4000000 in
theorem rr_3 (w : World) (a : Tell) (v : Value) (f : Few a) (har : AR (fun i => i < w.heap.size) w v a) (hK : decide (Kept a) = true) (hL : ListsP a ↔ true = true) (hT : decide (∀ t ∈ [a.text], 0 ∉ t) = true) (h3 : decide (four a.n) = false)  :
    Calls Try.prog 16 #[v] w fun e w' => RLP (RightP a) w e w' := by
  have hkp := fun W (hB : Below w.heap.size w W) => rkept_b W a v (har.step (fun b hb => hB.block b hb) (fun b hb => Nat.lt_of_lt_of_le hb hB.size)) _ hK
  have hlp := fun W (hB : Below w.heap.size w W) => rlists_b W a v f (har.step (fun b hb => hB.block b hb) (fun b hb => Nat.lt_of_lt_of_le hb hB.size)) _ hL
  obtain ⟨kv, vv, nv, rfl, k1, k2, k3⟩ := har.ex
  clear har
  obtain ⟨A1, c1, e1, z1, y1⟩ := k1.form
  rw [strs_len] at e1 z1
  subst e1
  obtain ⟨A2, c2, e2, z2, y2⟩ := k2.form
  rw [strs_len] at e2 z2
  subst e2
  obtain ⟨A3, c3, e3, z3, y3⟩ := k3.form
  rw [bools_len] at e3 z3
  subst e3
  rw [box_cut] at hkp hlp ⊢
  have HKP := Lib.hid hkp
  have HLP := Lib.hid hlp
  have HK := Lib.hid hK
  have HL := Lib.hid hL
  have HT := Lib.hid hT
  have H3 := Lib.hid h3
  have HF := Lib.hid f
  clear f k1 k2 k3 hkp hlp hK hL hT h3
  go_enter Try.func16, Try.ntmps16
  go_wp2_with fail
  refine (HKP.out _ ((Below.refl _ _).alloc (Nat.le_refl _) _)).mono ?_; rintro e w1 ⟨rfl, hb1⟩
  have q1 := (Blk.new w 28 #[.int .u8 (a.kind.toNat : Int), .int .u8 (a.status.toNat : Int), .string (ba a.text), .slice A1 a.keys.length c1, .slice A2 a.vals.length c2, .slice A3 a.null.length c3, .int .i64 a.n, .int .i64 a.m]).below hb1 (by simp)
  have B1 := bel hb1
  obtain ⟨x0, x1, x2, x3, x4, x5, x6, x7⟩ := Blk.all8 q1
  have Q1 := Lib.hid q1
  clear q1 hb1 HKP
  go_wp2_with fail
  refine (HLP.out _ B1).mono ?_; rintro e w2 ⟨rfl, hb2⟩
  have q2 := Q1.out.below hb2 Q1.out.lt
  have B2 := gro B1 hb2
  clear x0 x1 x2 x3 x4 x5 x6 x7 hb2 HLP
  obtain ⟨x0, x1, x2, x3, x4, x5, x6, x7⟩ := Blk.all8 q2
  have Q2 := Lib.hid q2
  clear q2 Q1
  go_wp2_with fail
  refine (rplain_b _ [a.text] _ true HT.out (lr_one w2 a.text) (by simp) (fun t ht => by rw [List.mem_singleton.1 ht]; exact HF.out.text)).mono ?_; rintro e w3 ⟨rfl, hw⟩
  have q3 := Q2.out.alloc (.cells #[.string (ba a.text)] 9)
  have B3 := gro B2 (bel_alloc w2 (.cells #[.string (ba a.text)] 9))
  rw [← hw] at q3 B3
  clear hw x0 x1 x2 x3 x4 x5 x6 x7 Q2 B2
  obtain ⟨x0, x1, x2, x3, x4, x5, x6, x7⟩ := Blk.all8 q3
  have Q3 := Lib.hid q3
  clear q3
  go_wp2_with fail
  refine (rfour_b a.n _ false H3.out).mono ?_; rintro e w4 ⟨rfl, rfl⟩
  go_wp2
  go_ret
  exact rlp_no (fun h => of_decide_eq_false H3.out h.1.n4) B3
set_option maxHeartbeats 4000000 in
theorem rr_4 (w : World) (a : Tell) (v : Value) (f : Few a) (har : AR (fun i => i < w.heap.size) w v a) (hK : decide (Kept a) = true) (hL : ListsP a ↔ true = true) (hT : decide (∀ t ∈ [a.text], 0 ∉ t) = true) (h3 : decide (four a.n) = true) (h4 : decide (four a.m) = false)  :
    Calls Try.prog 16 #[v] w fun e w' => RLP (RightP a) w e w' := by
  have hkp := fun W (hB : Below w.heap.size w W) => rkept_b W a v (har.step (fun b hb => hB.block b hb) (fun b hb => Nat.lt_of_lt_of_le hb hB.size)) _ hK
  have hlp := fun W (hB : Below w.heap.size w W) => rlists_b W a v f (har.step (fun b hb => hB.block b hb) (fun b hb => Nat.lt_of_lt_of_le hb hB.size)) _ hL
  obtain ⟨kv, vv, nv, rfl, k1, k2, k3⟩ := har.ex
  clear har
  obtain ⟨A1, c1, e1, z1, y1⟩ := k1.form
  rw [strs_len] at e1 z1
  subst e1
  obtain ⟨A2, c2, e2, z2, y2⟩ := k2.form
  rw [strs_len] at e2 z2
  subst e2
  obtain ⟨A3, c3, e3, z3, y3⟩ := k3.form
  rw [bools_len] at e3 z3
  subst e3
  rw [box_cut] at hkp hlp ⊢
  have HKP := Lib.hid hkp
  have HLP := Lib.hid hlp
  have HK := Lib.hid hK
  have HL := Lib.hid hL
  have HT := Lib.hid hT
  have H3 := Lib.hid h3
  have H4 := Lib.hid h4
  have HF := Lib.hid f
  clear f k1 k2 k3 hkp hlp hK hL hT h3 h4
  go_enter Try.func16, Try.ntmps16
  go_wp2_with fail
  refine (HKP.out _ ((Below.refl _ _).alloc (Nat.le_refl _) _)).mono ?_; rintro e w1 ⟨rfl, hb1⟩
  have q1 := (Blk.new w 28 #[.int .u8 (a.kind.toNat : Int), .int .u8 (a.status.toNat : Int), .string (ba a.text), .slice A1 a.keys.length c1, .slice A2 a.vals.length c2, .slice A3 a.null.length c3, .int .i64 a.n, .int .i64 a.m]).below hb1 (by simp)
  have B1 := bel hb1
  obtain ⟨x0, x1, x2, x3, x4, x5, x6, x7⟩ := Blk.all8 q1
  have Q1 := Lib.hid q1
  clear q1 hb1 HKP
  go_wp2_with fail
  refine (HLP.out _ B1).mono ?_; rintro e w2 ⟨rfl, hb2⟩
  have q2 := Q1.out.below hb2 Q1.out.lt
  have B2 := gro B1 hb2
  clear x0 x1 x2 x3 x4 x5 x6 x7 hb2 HLP
  obtain ⟨x0, x1, x2, x3, x4, x5, x6, x7⟩ := Blk.all8 q2
  have Q2 := Lib.hid q2
  clear q2 Q1
  go_wp2_with fail
  refine (rplain_b _ [a.text] _ true HT.out (lr_one w2 a.text) (by simp) (fun t ht => by rw [List.mem_singleton.1 ht]; exact HF.out.text)).mono ?_; rintro e w3 ⟨rfl, hw⟩
  have q3 := Q2.out.alloc (.cells #[.string (ba a.text)] 9)
  have B3 := gro B2 (bel_alloc w2 (.cells #[.string (ba a.text)] 9))
  rw [← hw] at q3 B3
  clear hw x0 x1 x2 x3 x4 x5 x6 x7 Q2 B2
  obtain ⟨x0, x1, x2, x3, x4, x5, x6, x7⟩ := Blk.all8 q3
  have Q3 := Lib.hid q3
  clear q3
  go_wp2_with fail
  refine (rfour_b a.n _ true H3.out).mono ?_; rintro e w4 ⟨rfl, rfl⟩
  go_wp2_with fail
  refine (rfour_b a.m _ false H4.out).mono ?_; rintro e w5 ⟨rfl, rfl⟩
  go_wp2
  go_ret
  exact rlp_no (fun h => of_decide_eq_false H4.out h.1.m4) B3

set_option maxHeartbeats 4000000 in
theorem rr_5 (w : World) (a : Tell) (v : Value) (f : Few a) (har : AR (fun i => i < w.heap.size) w v a) (hK : decide (Kept a) = true) (hL : ListsP a ↔ true = true) (hT : decide (∀ t ∈ [a.text], 0 ∉ t) = true) (h3 : decide (four a.n) = true) (h4 : decide (four a.m) = true) (e82 : ((a.kind.toNat : Int) == 82) = true) (n0 : (a.n != 0) = true) (n3 : (a.n != 3) = true) (hN : ¬ RightP a) :
    Calls Try.prog 16 #[v] w fun e w' => RLP (RightP a) w e w' := by
  have hkp := fun W (hB : Below w.heap.size w W) => rkept_b W a v (har.step (fun b hb => hB.block b hb) (fun b hb => Nat.lt_of_lt_of_le hb hB.size)) _ hK
  have hlp := fun W (hB : Below w.heap.size w W) => rlists_b W a v f (har.step (fun b hb => hB.block b hb) (fun b hb => Nat.lt_of_lt_of_le hb hB.size)) _ hL
  obtain ⟨kv, vv, nv, rfl, k1, k2, k3⟩ := har.ex
  clear har
  obtain ⟨A1, c1, e1, z1, y1⟩ := k1.form
  rw [strs_len] at e1 z1
  subst e1
  obtain ⟨A2, c2, e2, z2, y2⟩ := k2.form
  rw [strs_len] at e2 z2
  subst e2
  obtain ⟨A3, c3, e3, z3, y3⟩ := k3.form
  rw [bools_len] at e3 z3
  subst e3
  rw [box_cut] at hkp hlp ⊢
  have HKP := Lib.hid hkp
  have HLP := Lib.hid hlp
  have HK := Lib.hid hK
  have HL := Lib.hid hL
  have HT := Lib.hid hT
  have H3 := Lib.hid h3
  have H4 := Lib.hid h4
  have HNR := Lib.hid hN
  have HF := Lib.hid f
  clear f k1 k2 k3 hkp hlp hK hL hT h3 h4 hN
  go_enter Try.func16, Try.ntmps16
  go_wp2_with fail
  refine (HKP.out _ ((Below.refl _ _).alloc (Nat.le_refl _) _)).mono ?_; rintro e w1 ⟨rfl, hb1⟩
  have q1 := (Blk.new w 28 #[.int .u8 (a.kind.toNat : Int), .int .u8 (a.status.toNat : Int), .string (ba a.text), .slice A1 a.keys.length c1, .slice A2 a.vals.length c2, .slice A3 a.null.length c3, .int .i64 a.n, .int .i64 a.m]).below hb1 (by simp)
  have B1 := bel hb1
  obtain ⟨x0, x1, x2, x3, x4, x5, x6, x7⟩ := Blk.all8 q1
  have Q1 := Lib.hid q1
  clear q1 hb1 HKP
  go_wp2_with fail
  refine (HLP.out _ B1).mono ?_; rintro e w2 ⟨rfl, hb2⟩
  have q2 := Q1.out.below hb2 Q1.out.lt
  have B2 := gro B1 hb2
  clear x0 x1 x2 x3 x4 x5 x6 x7 hb2 HLP
  obtain ⟨x0, x1, x2, x3, x4, x5, x6, x7⟩ := Blk.all8 q2
  have Q2 := Lib.hid q2
  clear q2 Q1
  go_wp2_with fail
  refine (rplain_b _ [a.text] _ true HT.out (lr_one w2 a.text) (by simp) (fun t ht => by rw [List.mem_singleton.1 ht]; exact HF.out.text)).mono ?_; rintro e w3 ⟨rfl, hw⟩
  have q3 := Q2.out.alloc (.cells #[.string (ba a.text)] 9)
  have B3 := gro B2 (bel_alloc w2 (.cells #[.string (ba a.text)] 9))
  rw [← hw] at q3 B3
  clear hw x0 x1 x2 x3 x4 x5 x6 x7 Q2 B2
  obtain ⟨x0, x1, x2, x3, x4, x5, x6, x7⟩ := Blk.all8 q3
  have Q3 := Lib.hid q3
  clear q3
  go_wp2_with fail
  refine (rfour_b a.n _ true H3.out).mono ?_; rintro e w4 ⟨rfl, rfl⟩
  go_wp2_with fail
  refine (rfour_b a.m _ true H4.out).mono ?_; rintro e w5 ⟨rfl, rfl⟩
  go_wp2
  go_ret
  exact rlp_no (fun h => HNR.out h) B3
set_option maxHeartbeats 4000000 in
theorem rr_6 (w : World) (a : Tell) (v : Value) (f : Few a) (har : AR (fun i => i < w.heap.size) w v a) (hK : decide (Kept a) = true) (hL : ListsP a ↔ true = true) (hT : decide (∀ t ∈ [a.text], 0 ∉ t) = true) (h3 : decide (four a.n) = true) (h4 : decide (four a.m) = true) (e82 : ((a.kind.toNat : Int) == 82) = false) (e90 : ((a.kind.toNat : Int) == 90) = true) (s73 : ((a.status.toNat : Int) != 73) = true) (s84 : ((a.status.toNat : Int) != 84) = true) (s69 : ((a.status.toNat : Int) != 69) = true) (hN : ¬ RightP a) :
    Calls Try.prog 16 #[v] w fun e w' => RLP (RightP a) w e w' := by
  have hkp := fun W (hB : Below w.heap.size w W) => rkept_b W a v (har.step (fun b hb => hB.block b hb) (fun b hb => Nat.lt_of_lt_of_le hb hB.size)) _ hK
  have hlp := fun W (hB : Below w.heap.size w W) => rlists_b W a v f (har.step (fun b hb => hB.block b hb) (fun b hb => Nat.lt_of_lt_of_le hb hB.size)) _ hL
  obtain ⟨kv, vv, nv, rfl, k1, k2, k3⟩ := har.ex
  clear har
  obtain ⟨A1, c1, e1, z1, y1⟩ := k1.form
  rw [strs_len] at e1 z1
  subst e1
  obtain ⟨A2, c2, e2, z2, y2⟩ := k2.form
  rw [strs_len] at e2 z2
  subst e2
  obtain ⟨A3, c3, e3, z3, y3⟩ := k3.form
  rw [bools_len] at e3 z3
  subst e3
  rw [box_cut] at hkp hlp ⊢
  have HKP := Lib.hid hkp
  have HLP := Lib.hid hlp
  have HK := Lib.hid hK
  have HL := Lib.hid hL
  have HT := Lib.hid hT
  have H3 := Lib.hid h3
  have H4 := Lib.hid h4
  have HNR := Lib.hid hN
  have HF := Lib.hid f
  clear f k1 k2 k3 hkp hlp hK hL hT h3 h4 hN
  go_enter Try.func16, Try.ntmps16
  go_wp2_with fail
  refine (HKP.out _ ((Below.refl _ _).alloc (Nat.le_refl _) _)).mono ?_; rintro e w1 ⟨rfl, hb1⟩
  have q1 := (Blk.new w 28 #[.int .u8 (a.kind.toNat : Int), .int .u8 (a.status.toNat : Int), .string (ba a.text), .slice A1 a.keys.length c1, .slice A2 a.vals.length c2, .slice A3 a.null.length c3, .int .i64 a.n, .int .i64 a.m]).below hb1 (by simp)
  have B1 := bel hb1
  obtain ⟨x0, x1, x2, x3, x4, x5, x6, x7⟩ := Blk.all8 q1
  have Q1 := Lib.hid q1
  clear q1 hb1 HKP
  go_wp2_with fail
  refine (HLP.out _ B1).mono ?_; rintro e w2 ⟨rfl, hb2⟩
  have q2 := Q1.out.below hb2 Q1.out.lt
  have B2 := gro B1 hb2
  clear x0 x1 x2 x3 x4 x5 x6 x7 hb2 HLP
  obtain ⟨x0, x1, x2, x3, x4, x5, x6, x7⟩ := Blk.all8 q2
  have Q2 := Lib.hid q2
  clear q2 Q1
  go_wp2_with fail
  refine (rplain_b _ [a.text] _ true HT.out (lr_one w2 a.text) (by simp) (fun t ht => by rw [List.mem_singleton.1 ht]; exact HF.out.text)).mono ?_; rintro e w3 ⟨rfl, hw⟩
  have q3 := Q2.out.alloc (.cells #[.string (ba a.text)] 9)
  have B3 := gro B2 (bel_alloc w2 (.cells #[.string (ba a.text)] 9))
  rw [← hw] at q3 B3
  clear hw x0 x1 x2 x3 x4 x5 x6 x7 Q2 B2
  obtain ⟨x0, x1, x2, x3, x4, x5, x6, x7⟩ := Blk.all8 q3
  have Q3 := Lib.hid q3
  clear q3
  go_wp2_with fail
  refine (rfour_b a.n _ true H3.out).mono ?_; rintro e w4 ⟨rfl, rfl⟩
  go_wp2_with fail
  refine (rfour_b a.m _ true H4.out).mono ?_; rintro e w5 ⟨rfl, rfl⟩
  go_wp2
  go_ret
  exact rlp_no (fun h => HNR.out h) B3
set_option maxHeartbeats 4000000 in
theorem rr_p0 (w : World) (a : Tell) (v : Value) (f : Few a) (har : AR (fun i => i < w.heap.size) w v a) (hK : decide (Kept a) = true) (hL : ListsP a ↔ true = true) (hT : decide (∀ t ∈ [a.text], 0 ∉ t) = true) (h3 : decide (four a.n) = true) (h4 : decide (four a.m) = true) (e82 : ((a.kind.toNat : Int) == 82) = false) (e90 : ((a.kind.toNat : Int) == 90) = false) (hG : Good a) :
    Calls Try.prog 16 #[v] w fun e w' => RLP (RightP a) w e w' := by
  have hkp := fun W (hB : Below w.heap.size w W) => rkept_b W a v (har.step (fun b hb => hB.block b hb) (fun b hb => Nat.lt_of_lt_of_le hb hB.size)) _ hK
  have hlp := fun W (hB : Below w.heap.size w W) => rlists_b W a v f (har.step (fun b hb => hB.block b hb) (fun b hb => Nat.lt_of_lt_of_le hb hB.size)) _ hL
  have hbp := fun W (hB : Below w.heap.size w W) => rbody_good W a v f (har.step (fun b hb => hB.block b hb) (fun b hb => Nat.lt_of_lt_of_le hb hB.size)) hG
  obtain ⟨kv, vv, nv, rfl, k1, k2, k3⟩ := har.ex
  clear har
  obtain ⟨A1, c1, e1, z1, y1⟩ := k1.form
  rw [strs_len] at e1 z1
  subst e1
  obtain ⟨A2, c2, e2, z2, y2⟩ := k2.form
  rw [strs_len] at e2 z2
  subst e2
  obtain ⟨A3, c3, e3, z3, y3⟩ := k3.form
  rw [bools_len] at e3 z3
  subst e3
  rw [box_cut] at hkp hlp hbp ⊢
  have HKP := Lib.hid hkp
  have HLP := Lib.hid hlp
  have HBP := Lib.hid hbp
  have HK := Lib.hid hK
  have HL := Lib.hid hL
  have HT := Lib.hid hT
  have H3 := Lib.hid h3
  have H4 := Lib.hid h4
  have HG := Lib.hid hG
  have HF := Lib.hid f
  clear f k1 k2 k3 hkp hlp hbp hK hL hT h3 h4 hG
  have HFR := Lib.hid (rfr_b a HF.out)
  obtain ⟨Bd, hBd⟩ : ∃ Bd, Bd = ba (body a) := ⟨_, rfl⟩
  obtain ⟨br, hbr⟩ : ∃ br, br = rightL (a.kind, body a) := ⟨_, rfl⟩
  have HIFF : Hid (br = true ↔ RightP a) := Lib.hid (by rw [hbr]; exact ⟨fun h => ⟨HG.out, h⟩, fun h => h.2⟩)
  rw [← hBd] at HFR HBP
  rw [← hbr] at HFR
  clear hBd hbr
  go_enter Try.func16, Try.ntmps16
  go_wp2_with fail
  refine (HKP.out _ ((Below.refl _ _).alloc (Nat.le_refl _) _)).mono ?_; rintro e w1 ⟨rfl, hb1⟩
  have q1 := (Blk.new w 28 #[.int .u8 (a.kind.toNat : Int), .int .u8 (a.status.toNat : Int), .string (ba a.text), .slice A1 a.keys.length c1, .slice A2 a.vals.length c2, .slice A3 a.null.length c3, .int .i64 a.n, .int .i64 a.m]).below hb1 (by simp)
  have B1 := bel hb1
  obtain ⟨x0, x1, x2, x3, x4, x5, x6, x7⟩ := Blk.all8 q1
  have Q1 := Lib.hid q1
  clear q1 hb1 HKP
  go_wp2_with fail
  refine (HLP.out _ B1).mono ?_; rintro e w2 ⟨rfl, hb2⟩
  have q2 := Q1.out.below hb2 Q1.out.lt
  have B2 := gro B1 hb2
  clear x0 x1 x2 x3 x4 x5 x6 x7 hb2 HLP
  obtain ⟨x0, x1, x2, x3, x4, x5, x6, x7⟩ := Blk.all8 q2
  have Q2 := Lib.hid q2
  clear q2 Q1
  go_wp2_with fail
  refine (rplain_b _ [a.text] _ true HT.out (lr_one w2 a.text) (by simp) (fun t ht => by rw [List.mem_singleton.1 ht]; exact HF.out.text)).mono ?_; rintro e w3 ⟨rfl, hw⟩
  have q3 := Q2.out.alloc (.cells #[.string (ba a.text)] 9)
  have B3 := gro B2 (bel_alloc w2 (.cells #[.string (ba a.text)] 9))
  rw [← hw] at q3 B3
  clear hw x0 x1 x2 x3 x4 x5 x6 x7 Q2 B2
  obtain ⟨x0, x1, x2, x3, x4, x5, x6, x7⟩ := Blk.all8 q3
  have Q3 := Lib.hid q3
  clear q3
  go_wp2_with fail
  refine (rfour_b a.n _ true H3.out).mono ?_; rintro e w4 ⟨rfl, rfl⟩
  go_wp2_with fail
  refine (rfour_b a.m _ true H4.out).mono ?_; rintro e w5 ⟨rfl, rfl⟩
  go_wp2
  go_region_with (first
    | (go_at_call 23; refine (HBP.out _ B3.drew).mono ?_; rintro e w6 ⟨rfl, hb6⟩; have q6 := Q3.out.drew_.below hb6 Q3.out.lt; have x0' : w6.cell? ⟨w.heap.size, 0, none⟩ = some (.int .u8 (a.kind.toNat : Int)) := q6.cell 0; have B6 := gro B3.drew hb6; clear q6 hb6)
    | (go_at_call 31; refine (HFR.out _).mono ?_; rintro e w7 ⟨rfl, hb7⟩; have B7 := gro B6 hb7; clear hb7))
  all_goals
    go_wp2
    go_ret
    exact ⟨br, rfl, HIFF.out, B7⟩

set_option maxHeartbeats 4000000 in
theorem rr_p1 (w : World) (a : Tell) (v : Value) (f : Few a) (har : AR (fun i => i < w.heap.size) w v a) (hK : decide (Kept a) = true) (hL : ListsP a ↔ true = true) (hT : decide (∀ t ∈ [a.text], 0 ∉ t) = true) (h3 : decide (four a.n) = true) (h4 : decide (four a.m) = true) (e82 : ((a.kind.toNat : Int) == 82) = true) (n0 : (a.n != 0) = false) (e90 : ((a.kind.toNat : Int) == 90) = false) (hG : Good a) :
    Calls Try.prog 16 #[v] w fun e w' => RLP (RightP a) w e w' := by
  have hkp := fun W (hB : Below w.heap.size w W) => rkept_b W a v (har.step (fun b hb => hB.block b hb) (fun b hb => Nat.lt_of_lt_of_le hb hB.size)) _ hK
  have hlp := fun W (hB : Below w.heap.size w W) => rlists_b W a v f (har.step (fun b hb => hB.block b hb) (fun b hb => Nat.lt_of_lt_of_le hb hB.size)) _ hL
  have hbp := fun W (hB : Below w.heap.size w W) => rbody_good W a v f (har.step (fun b hb => hB.block b hb) (fun b hb => Nat.lt_of_lt_of_le hb hB.size)) hG
  obtain ⟨kv, vv, nv, rfl, k1, k2, k3⟩ := har.ex
  clear har
  obtain ⟨A1, c1, e1, z1, y1⟩ := k1.form
  rw [strs_len] at e1 z1
  subst e1
  obtain ⟨A2, c2, e2, z2, y2⟩ := k2.form
  rw [strs_len] at e2 z2
  subst e2
  obtain ⟨A3, c3, e3, z3, y3⟩ := k3.form
  rw [bools_len] at e3 z3
  subst e3
  rw [box_cut] at hkp hlp hbp ⊢
  have HKP := Lib.hid hkp
  have HLP := Lib.hid hlp
  have HBP := Lib.hid hbp
  have HK := Lib.hid hK
  have HL := Lib.hid hL
  have HT := Lib.hid hT
  have H3 := Lib.hid h3
  have H4 := Lib.hid h4
  have HG := Lib.hid hG
  have HF := Lib.hid f
  clear f k1 k2 k3 hkp hlp hbp hK hL hT h3 h4 hG
  have HFR := Lib.hid (rfr_b a HF.out)
  obtain ⟨Bd, hBd⟩ : ∃ Bd, Bd = ba (body a) := ⟨_, rfl⟩
  obtain ⟨br, hbr⟩ : ∃ br, br = rightL (a.kind, body a) := ⟨_, rfl⟩
  have HIFF : Hid (br = true ↔ RightP a) := Lib.hid (by rw [hbr]; exact ⟨fun h => ⟨HG.out, h⟩, fun h => h.2⟩)
  rw [← hBd] at HFR HBP
  rw [← hbr] at HFR
  clear hBd hbr
  go_enter Try.func16, Try.ntmps16
  go_wp2_with fail
  refine (HKP.out _ ((Below.refl _ _).alloc (Nat.le_refl _) _)).mono ?_; rintro e w1 ⟨rfl, hb1⟩
  have q1 := (Blk.new w 28 #[.int .u8 (a.kind.toNat : Int), .int .u8 (a.status.toNat : Int), .string (ba a.text), .slice A1 a.keys.length c1, .slice A2 a.vals.length c2, .slice A3 a.null.length c3, .int .i64 a.n, .int .i64 a.m]).below hb1 (by simp)
  have B1 := bel hb1
  obtain ⟨x0, x1, x2, x3, x4, x5, x6, x7⟩ := Blk.all8 q1
  have Q1 := Lib.hid q1
  clear q1 hb1 HKP
  go_wp2_with fail
  refine (HLP.out _ B1).mono ?_; rintro e w2 ⟨rfl, hb2⟩
  have q2 := Q1.out.below hb2 Q1.out.lt
  have B2 := gro B1 hb2
  clear x0 x1 x2 x3 x4 x5 x6 x7 hb2 HLP
  obtain ⟨x0, x1, x2, x3, x4, x5, x6, x7⟩ := Blk.all8 q2
  have Q2 := Lib.hid q2
  clear q2 Q1
  go_wp2_with fail
  refine (rplain_b _ [a.text] _ true HT.out (lr_one w2 a.text) (by simp) (fun t ht => by rw [List.mem_singleton.1 ht]; exact HF.out.text)).mono ?_; rintro e w3 ⟨rfl, hw⟩
  have q3 := Q2.out.alloc (.cells #[.string (ba a.text)] 9)
  have B3 := gro B2 (bel_alloc w2 (.cells #[.string (ba a.text)] 9))
  rw [← hw] at q3 B3
  clear hw x0 x1 x2 x3 x4 x5 x6 x7 Q2 B2
  obtain ⟨x0, x1, x2, x3, x4, x5, x6, x7⟩ := Blk.all8 q3
  have Q3 := Lib.hid q3
  clear q3
  go_wp2_with fail
  refine (rfour_b a.n _ true H3.out).mono ?_; rintro e w4 ⟨rfl, rfl⟩
  go_wp2_with fail
  refine (rfour_b a.m _ true H4.out).mono ?_; rintro e w5 ⟨rfl, rfl⟩
  go_wp2
  go_region_with (first
    | (go_at_call 23; refine (HBP.out _ B3.drew).mono ?_; rintro e w6 ⟨rfl, hb6⟩; have q6 := Q3.out.drew_.below hb6 Q3.out.lt; have x0' : w6.cell? ⟨w.heap.size, 0, none⟩ = some (.int .u8 (a.kind.toNat : Int)) := q6.cell 0; have B6 := gro B3.drew hb6; clear q6 hb6)
    | (go_at_call 31; refine (HFR.out _).mono ?_; rintro e w7 ⟨rfl, hb7⟩; have B7 := gro B6 hb7; clear hb7))
  all_goals
    go_wp2
    go_ret
    exact ⟨br, rfl, HIFF.out, B7⟩
set_option maxHeartbeats 4000000 in
theorem rr_p2 (w : World) (a : Tell) (v : Value) (f : Few a) (har : AR (fun i => i < w.heap.size) w v a) (hK : decide (Kept a) = true) (hL : ListsP a ↔ true = true) (hT : decide (∀ t ∈ [a.text], 0 ∉ t) = true) (h3 : decide (four a.n) = true) (h4 : decide (four a.m) = true) (e82 : ((a.kind.toNat : Int) == 82) = true) (n0 : (a.n != 0) = true) (n3 : (a.n != 3) = false) (e90 : ((a.kind.toNat : Int) == 90) = false) (hG : Good a) :
    Calls Try.prog 16 #[v] w fun e w' => RLP (RightP a) w e w' := by
  have hkp := fun W (hB : Below w.heap.size w W) => rkept_b W a v (har.step (fun b hb => hB.block b hb) (fun b hb => Nat.lt_of_lt_of_le hb hB.size)) _ hK
  have hlp := fun W (hB : Below w.heap.size w W) => rlists_b W a v f (har.step (fun b hb => hB.block b hb) (fun b hb => Nat.lt_of_lt_of_le hb hB.size)) _ hL
  have hbp := fun W (hB : Below w.heap.size w W) => rbody_good W a v f (har.step (fun b hb => hB.block b hb) (fun b hb => Nat.lt_of_lt_of_le hb hB.size)) hG
  obtain ⟨kv, vv, nv, rfl, k1, k2, k3⟩ := har.ex
  clear har
  obtain ⟨A1, c1, e1, z1, y1⟩ := k1.form
  rw [strs_len] at e1 z1
  subst e1
  obtain ⟨A2, c2, e2, z2, y2⟩ := k2.form
  rw [strs_len] at e2 z2
  subst e2
  obtain ⟨A3, c3, e3, z3, y3⟩ := k3.form
  rw [bools_len] at e3 z3
  subst e3
  rw [box_cut] at hkp hlp hbp ⊢
  have HKP := Lib.hid hkp
  have HLP := Lib.hid hlp
  have HBP := Lib.hid hbp
  have HK := Lib.hid hK
  have HL := Lib.hid hL
  have HT := Lib.hid hT
  have H3 := Lib.hid h3
  have H4 := Lib.hid h4
  have HG := Lib.hid hG
  have HF := Lib.hid f
  clear f k1 k2 k3 hkp hlp hbp hK hL hT h3 h4 hG
  have HFR := Lib.hid (rfr_b a HF.out)
  obtain ⟨Bd, hBd⟩ : ∃ Bd, Bd = ba (body a) := ⟨_, rfl⟩
  obtain ⟨br, hbr⟩ : ∃ br, br = rightL (a.kind, body a) := ⟨_, rfl⟩
  have HIFF : Hid (br = true ↔ RightP a) := Lib.hid (by rw [hbr]; exact ⟨fun h => ⟨HG.out, h⟩, fun h => h.2⟩)
  rw [← hBd] at HFR HBP
  rw [← hbr] at HFR
  clear hBd hbr
  go_enter Try.func16, Try.ntmps16
  go_wp2_with fail
  refine (HKP.out _ ((Below.refl _ _).alloc (Nat.le_refl _) _)).mono ?_; rintro e w1 ⟨rfl, hb1⟩
  have q1 := (Blk.new w 28 #[.int .u8 (a.kind.toNat : Int), .int .u8 (a.status.toNat : Int), .string (ba a.text), .slice A1 a.keys.length c1, .slice A2 a.vals.length c2, .slice A3 a.null.length c3, .int .i64 a.n, .int .i64 a.m]).below hb1 (by simp)
  have B1 := bel hb1
  obtain ⟨x0, x1, x2, x3, x4, x5, x6, x7⟩ := Blk.all8 q1
  have Q1 := Lib.hid q1
  clear q1 hb1 HKP
  go_wp2_with fail
  refine (HLP.out _ B1).mono ?_; rintro e w2 ⟨rfl, hb2⟩
  have q2 := Q1.out.below hb2 Q1.out.lt
  have B2 := gro B1 hb2
  clear x0 x1 x2 x3 x4 x5 x6 x7 hb2 HLP
  obtain ⟨x0, x1, x2, x3, x4, x5, x6, x7⟩ := Blk.all8 q2
  have Q2 := Lib.hid q2
  clear q2 Q1
  go_wp2_with fail
  refine (rplain_b _ [a.text] _ true HT.out (lr_one w2 a.text) (by simp) (fun t ht => by rw [List.mem_singleton.1 ht]; exact HF.out.text)).mono ?_; rintro e w3 ⟨rfl, hw⟩
  have q3 := Q2.out.alloc (.cells #[.string (ba a.text)] 9)
  have B3 := gro B2 (bel_alloc w2 (.cells #[.string (ba a.text)] 9))
  rw [← hw] at q3 B3
  clear hw x0 x1 x2 x3 x4 x5 x6 x7 Q2 B2
  obtain ⟨x0, x1, x2, x3, x4, x5, x6, x7⟩ := Blk.all8 q3
  have Q3 := Lib.hid q3
  clear q3
  go_wp2_with fail
  refine (rfour_b a.n _ true H3.out).mono ?_; rintro e w4 ⟨rfl, rfl⟩
  go_wp2_with fail
  refine (rfour_b a.m _ true H4.out).mono ?_; rintro e w5 ⟨rfl, rfl⟩
  go_wp2
  go_region_with (first
    | (go_at_call 23; refine (HBP.out _ B3.drew).mono ?_; rintro e w6 ⟨rfl, hb6⟩; have q6 := Q3.out.drew_.below hb6 Q3.out.lt; have x0' : w6.cell? ⟨w.heap.size, 0, none⟩ = some (.int .u8 (a.kind.toNat : Int)) := q6.cell 0; have B6 := gro B3.drew hb6; clear q6 hb6)
    | (go_at_call 31; refine (HFR.out _).mono ?_; rintro e w7 ⟨rfl, hb7⟩; have B7 := gro B6 hb7; clear hb7))
  all_goals
    go_wp2
    go_ret
    exact ⟨br, rfl, HIFF.out, B7⟩

set_option maxHeartbeats 4000000 in
theorem rr_p3 (w : World) (a : Tell) (v : Value) (f : Few a) (har : AR (fun i => i < w.heap.size) w v a) (hK : decide (Kept a) = true) (hL : ListsP a ↔ true = true) (hT : decide (∀ t ∈ [a.text], 0 ∉ t) = true) (h3 : decide (four a.n) = true) (h4 : decide (four a.m) = true) (e82 : ((a.kind.toNat : Int) == 82) = false) (e90 : ((a.kind.toNat : Int) == 90) = true) (s73 : ((a.status.toNat : Int) != 73) = false) (hG : Good a) :
    Calls Try.prog 16 #[v] w fun e w' => RLP (RightP a) w e w' := by
  have hkp := fun W (hB : Below w.heap.size w W) => rkept_b W a v (har.step (fun b hb => hB.block b hb) (fun b hb => Nat.lt_of_lt_of_le hb hB.size)) _ hK
  have hlp := fun W (hB : Below w.heap.size w W) => rlists_b W a v f (har.step (fun b hb => hB.block b hb) (fun b hb => Nat.lt_of_lt_of_le hb hB.size)) _ hL
  have hbp := fun W (hB : Below w.heap.size w W) => rbody_good W a v f (har.step (fun b hb => hB.block b hb) (fun b hb => Nat.lt_of_lt_of_le hb hB.size)) hG
  obtain ⟨kv, vv, nv, rfl, k1, k2, k3⟩ := har.ex
  clear har
  obtain ⟨A1, c1, e1, z1, y1⟩ := k1.form
  rw [strs_len] at e1 z1
  subst e1
  obtain ⟨A2, c2, e2, z2, y2⟩ := k2.form
  rw [strs_len] at e2 z2
  subst e2
  obtain ⟨A3, c3, e3, z3, y3⟩ := k3.form
  rw [bools_len] at e3 z3
  subst e3
  rw [box_cut] at hkp hlp hbp ⊢
  have HKP := Lib.hid hkp
  have HLP := Lib.hid hlp
  have HBP := Lib.hid hbp
  have HK := Lib.hid hK
  have HL := Lib.hid hL
  have HT := Lib.hid hT
  have H3 := Lib.hid h3
  have H4 := Lib.hid h4
  have HG := Lib.hid hG
  have HF := Lib.hid f
  clear f k1 k2 k3 hkp hlp hbp hK hL hT h3 h4 hG
  have HFR := Lib.hid (rfr_b a HF.out)
  obtain ⟨Bd, hBd⟩ : ∃ Bd, Bd = ba (body a) := ⟨_, rfl⟩
  obtain ⟨br, hbr⟩ : ∃ br, br = rightL (a.kind, body a) := ⟨_, rfl⟩
  have HIFF : Hid (br = true ↔ RightP a) := Lib.hid (by rw [hbr]; exact ⟨fun h => ⟨HG.out, h⟩, fun h => h.2⟩)
  rw [← hBd] at HFR HBP
  rw [← hbr] at HFR
  clear hBd hbr
  go_enter Try.func16, Try.ntmps16
  go_wp2_with fail
  refine (HKP.out _ ((Below.refl _ _).alloc (Nat.le_refl _) _)).mono ?_; rintro e w1 ⟨rfl, hb1⟩
  have q1 := (Blk.new w 28 #[.int .u8 (a.kind.toNat : Int), .int .u8 (a.status.toNat : Int), .string (ba a.text), .slice A1 a.keys.length c1, .slice A2 a.vals.length c2, .slice A3 a.null.length c3, .int .i64 a.n, .int .i64 a.m]).below hb1 (by simp)
  have B1 := bel hb1
  obtain ⟨x0, x1, x2, x3, x4, x5, x6, x7⟩ := Blk.all8 q1
  have Q1 := Lib.hid q1
  clear q1 hb1 HKP
  go_wp2_with fail
  refine (HLP.out _ B1).mono ?_; rintro e w2 ⟨rfl, hb2⟩
  have q2 := Q1.out.below hb2 Q1.out.lt
  have B2 := gro B1 hb2
  clear x0 x1 x2 x3 x4 x5 x6 x7 hb2 HLP
  obtain ⟨x0, x1, x2, x3, x4, x5, x6, x7⟩ := Blk.all8 q2
  have Q2 := Lib.hid q2
  clear q2 Q1
  go_wp2_with fail
  refine (rplain_b _ [a.text] _ true HT.out (lr_one w2 a.text) (by simp) (fun t ht => by rw [List.mem_singleton.1 ht]; exact HF.out.text)).mono ?_; rintro e w3 ⟨rfl, hw⟩
  have q3 := Q2.out.alloc (.cells #[.string (ba a.text)] 9)
  have B3 := gro B2 (bel_alloc w2 (.cells #[.string (ba a.text)] 9))
  rw [← hw] at q3 B3
  clear hw x0 x1 x2 x3 x4 x5 x6 x7 Q2 B2
  obtain ⟨x0, x1, x2, x3, x4, x5, x6, x7⟩ := Blk.all8 q3
  have Q3 := Lib.hid q3
  clear q3
  go_wp2_with fail
  refine (rfour_b a.n _ true H3.out).mono ?_; rintro e w4 ⟨rfl, rfl⟩
  go_wp2_with fail
  refine (rfour_b a.m _ true H4.out).mono ?_; rintro e w5 ⟨rfl, rfl⟩
  go_wp2
  go_region_with (first
    | (go_at_call 23; refine (HBP.out _ B3.drew).mono ?_; rintro e w6 ⟨rfl, hb6⟩; have q6 := Q3.out.drew_.below hb6 Q3.out.lt; have x0' : w6.cell? ⟨w.heap.size, 0, none⟩ = some (.int .u8 (a.kind.toNat : Int)) := q6.cell 0; have B6 := gro B3.drew hb6; clear q6 hb6)
    | (go_at_call 31; refine (HFR.out _).mono ?_; rintro e w7 ⟨rfl, hb7⟩; have B7 := gro B6 hb7; clear hb7))
  all_goals
    go_wp2
    go_ret
    exact ⟨br, rfl, HIFF.out, B7⟩

set_option maxHeartbeats 4000000 in
theorem rr_p4 (w : World) (a : Tell) (v : Value) (f : Few a) (har : AR (fun i => i < w.heap.size) w v a) (hK : decide (Kept a) = true) (hL : ListsP a ↔ true = true) (hT : decide (∀ t ∈ [a.text], 0 ∉ t) = true) (h3 : decide (four a.n) = true) (h4 : decide (four a.m) = true) (e82 : ((a.kind.toNat : Int) == 82) = false) (e90 : ((a.kind.toNat : Int) == 90) = true) (s73 : ((a.status.toNat : Int) != 73) = true) (s84 : ((a.status.toNat : Int) != 84) = false) (hG : Good a) :
    Calls Try.prog 16 #[v] w fun e w' => RLP (RightP a) w e w' := by
  have hkp := fun W (hB : Below w.heap.size w W) => rkept_b W a v (har.step (fun b hb => hB.block b hb) (fun b hb => Nat.lt_of_lt_of_le hb hB.size)) _ hK
  have hlp := fun W (hB : Below w.heap.size w W) => rlists_b W a v f (har.step (fun b hb => hB.block b hb) (fun b hb => Nat.lt_of_lt_of_le hb hB.size)) _ hL
  have hbp := fun W (hB : Below w.heap.size w W) => rbody_good W a v f (har.step (fun b hb => hB.block b hb) (fun b hb => Nat.lt_of_lt_of_le hb hB.size)) hG
  obtain ⟨kv, vv, nv, rfl, k1, k2, k3⟩ := har.ex
  clear har
  obtain ⟨A1, c1, e1, z1, y1⟩ := k1.form
  rw [strs_len] at e1 z1
  subst e1
  obtain ⟨A2, c2, e2, z2, y2⟩ := k2.form
  rw [strs_len] at e2 z2
  subst e2
  obtain ⟨A3, c3, e3, z3, y3⟩ := k3.form
  rw [bools_len] at e3 z3
  subst e3
  rw [box_cut] at hkp hlp hbp ⊢
  have HKP := Lib.hid hkp
  have HLP := Lib.hid hlp
  have HBP := Lib.hid hbp
  have HK := Lib.hid hK
  have HL := Lib.hid hL
  have HT := Lib.hid hT
  have H3 := Lib.hid h3
  have H4 := Lib.hid h4
  have HG := Lib.hid hG
  have HF := Lib.hid f
  clear f k1 k2 k3 hkp hlp hbp hK hL hT h3 h4 hG
  have HFR := Lib.hid (rfr_b a HF.out)
  obtain ⟨Bd, hBd⟩ : ∃ Bd, Bd = ba (body a) := ⟨_, rfl⟩
  obtain ⟨br, hbr⟩ : ∃ br, br = rightL (a.kind, body a) := ⟨_, rfl⟩
  have HIFF : Hid (br = true ↔ RightP a) := Lib.hid (by rw [hbr]; exact ⟨fun h => ⟨HG.out, h⟩, fun h => h.2⟩)
  rw [← hBd] at HFR HBP
  rw [← hbr] at HFR
  clear hBd hbr
  go_enter Try.func16, Try.ntmps16
  go_wp2_with fail
  refine (HKP.out _ ((Below.refl _ _).alloc (Nat.le_refl _) _)).mono ?_; rintro e w1 ⟨rfl, hb1⟩
  have q1 := (Blk.new w 28 #[.int .u8 (a.kind.toNat : Int), .int .u8 (a.status.toNat : Int), .string (ba a.text), .slice A1 a.keys.length c1, .slice A2 a.vals.length c2, .slice A3 a.null.length c3, .int .i64 a.n, .int .i64 a.m]).below hb1 (by simp)
  have B1 := bel hb1
  obtain ⟨x0, x1, x2, x3, x4, x5, x6, x7⟩ := Blk.all8 q1
  have Q1 := Lib.hid q1
  clear q1 hb1 HKP
  go_wp2_with fail
  refine (HLP.out _ B1).mono ?_; rintro e w2 ⟨rfl, hb2⟩
  have q2 := Q1.out.below hb2 Q1.out.lt
  have B2 := gro B1 hb2
  clear x0 x1 x2 x3 x4 x5 x6 x7 hb2 HLP
  obtain ⟨x0, x1, x2, x3, x4, x5, x6, x7⟩ := Blk.all8 q2
  have Q2 := Lib.hid q2
  clear q2 Q1
  go_wp2_with fail
  refine (rplain_b _ [a.text] _ true HT.out (lr_one w2 a.text) (by simp) (fun t ht => by rw [List.mem_singleton.1 ht]; exact HF.out.text)).mono ?_; rintro e w3 ⟨rfl, hw⟩
  have q3 := Q2.out.alloc (.cells #[.string (ba a.text)] 9)
  have B3 := gro B2 (bel_alloc w2 (.cells #[.string (ba a.text)] 9))
  rw [← hw] at q3 B3
  clear hw x0 x1 x2 x3 x4 x5 x6 x7 Q2 B2
  obtain ⟨x0, x1, x2, x3, x4, x5, x6, x7⟩ := Blk.all8 q3
  have Q3 := Lib.hid q3
  clear q3
  go_wp2_with fail
  refine (rfour_b a.n _ true H3.out).mono ?_; rintro e w4 ⟨rfl, rfl⟩
  go_wp2_with fail
  refine (rfour_b a.m _ true H4.out).mono ?_; rintro e w5 ⟨rfl, rfl⟩
  go_wp2
  go_region_with (first
    | (go_at_call 23; refine (HBP.out _ B3.drew).mono ?_; rintro e w6 ⟨rfl, hb6⟩; have q6 := Q3.out.drew_.below hb6 Q3.out.lt; have x0' : w6.cell? ⟨w.heap.size, 0, none⟩ = some (.int .u8 (a.kind.toNat : Int)) := q6.cell 0; have B6 := gro B3.drew hb6; clear q6 hb6)
    | (go_at_call 31; refine (HFR.out _).mono ?_; rintro e w7 ⟨rfl, hb7⟩; have B7 := gro B6 hb7; clear hb7))
  all_goals
    go_wp2
    go_ret
    exact ⟨br, rfl, HIFF.out, B7⟩
set_option maxHeartbeats 4000000 in
theorem rr_p5 (w : World) (a : Tell) (v : Value) (f : Few a) (har : AR (fun i => i < w.heap.size) w v a) (hK : decide (Kept a) = true) (hL : ListsP a ↔ true = true) (hT : decide (∀ t ∈ [a.text], 0 ∉ t) = true) (h3 : decide (four a.n) = true) (h4 : decide (four a.m) = true) (e82 : ((a.kind.toNat : Int) == 82) = false) (e90 : ((a.kind.toNat : Int) == 90) = true) (s73 : ((a.status.toNat : Int) != 73) = true) (s84 : ((a.status.toNat : Int) != 84) = true) (s69 : ((a.status.toNat : Int) != 69) = false) (hG : Good a) :
    Calls Try.prog 16 #[v] w fun e w' => RLP (RightP a) w e w' := by
  have hkp := fun W (hB : Below w.heap.size w W) => rkept_b W a v (har.step (fun b hb => hB.block b hb) (fun b hb => Nat.lt_of_lt_of_le hb hB.size)) _ hK
  have hlp := fun W (hB : Below w.heap.size w W) => rlists_b W a v f (har.step (fun b hb => hB.block b hb) (fun b hb => Nat.lt_of_lt_of_le hb hB.size)) _ hL
  have hbp := fun W (hB : Below w.heap.size w W) => rbody_good W a v f (har.step (fun b hb => hB.block b hb) (fun b hb => Nat.lt_of_lt_of_le hb hB.size)) hG
  obtain ⟨kv, vv, nv, rfl, k1, k2, k3⟩ := har.ex
  clear har
  obtain ⟨A1, c1, e1, z1, y1⟩ := k1.form
  rw [strs_len] at e1 z1
  subst e1
  obtain ⟨A2, c2, e2, z2, y2⟩ := k2.form
  rw [strs_len] at e2 z2
  subst e2
  obtain ⟨A3, c3, e3, z3, y3⟩ := k3.form
  rw [bools_len] at e3 z3
  subst e3
  rw [box_cut] at hkp hlp hbp ⊢
  have HKP := Lib.hid hkp
  have HLP := Lib.hid hlp
  have HBP := Lib.hid hbp
  have HK := Lib.hid hK
  have HL := Lib.hid hL
  have HT := Lib.hid hT
  have H3 := Lib.hid h3
  have H4 := Lib.hid h4
  have HG := Lib.hid hG
  have HF := Lib.hid f
  clear f k1 k2 k3 hkp hlp hbp hK hL hT h3 h4 hG
  have HFR := Lib.hid (rfr_b a HF.out)
  obtain ⟨Bd, hBd⟩ : ∃ Bd, Bd = ba (body a) := ⟨_, rfl⟩
  obtain ⟨br, hbr⟩ : ∃ br, br = rightL (a.kind, body a) := ⟨_, rfl⟩
  have HIFF : Hid (br = true ↔ RightP a) := Lib.hid (by rw [hbr]; exact ⟨fun h => ⟨HG.out, h⟩, fun h => h.2⟩)
  rw [← hBd] at HFR HBP
  rw [← hbr] at HFR
  clear hBd hbr
  go_enter Try.func16, Try.ntmps16
  go_wp2_with fail
  refine (HKP.out _ ((Below.refl _ _).alloc (Nat.le_refl _) _)).mono ?_; rintro e w1 ⟨rfl, hb1⟩
  have q1 := (Blk.new w 28 #[.int .u8 (a.kind.toNat : Int), .int .u8 (a.status.toNat : Int), .string (ba a.text), .slice A1 a.keys.length c1, .slice A2 a.vals.length c2, .slice A3 a.null.length c3, .int .i64 a.n, .int .i64 a.m]).below hb1 (by simp)
  have B1 := bel hb1
  obtain ⟨x0, x1, x2, x3, x4, x5, x6, x7⟩ := Blk.all8 q1
  have Q1 := Lib.hid q1
  clear q1 hb1 HKP
  go_wp2_with fail
  refine (HLP.out _ B1).mono ?_; rintro e w2 ⟨rfl, hb2⟩
  have q2 := Q1.out.below hb2 Q1.out.lt
  have B2 := gro B1 hb2
  clear x0 x1 x2 x3 x4 x5 x6 x7 hb2 HLP
  obtain ⟨x0, x1, x2, x3, x4, x5, x6, x7⟩ := Blk.all8 q2
  have Q2 := Lib.hid q2
  clear q2 Q1
  go_wp2_with fail
  refine (rplain_b _ [a.text] _ true HT.out (lr_one w2 a.text) (by simp) (fun t ht => by rw [List.mem_singleton.1 ht]; exact HF.out.text)).mono ?_; rintro e w3 ⟨rfl, hw⟩
  have q3 := Q2.out.alloc (.cells #[.string (ba a.text)] 9)
  have B3 := gro B2 (bel_alloc w2 (.cells #[.string (ba a.text)] 9))
  rw [← hw] at q3 B3
  clear hw x0 x1 x2 x3 x4 x5 x6 x7 Q2 B2
  obtain ⟨x0, x1, x2, x3, x4, x5, x6, x7⟩ := Blk.all8 q3
  have Q3 := Lib.hid q3
  clear q3
  go_wp2_with fail
  refine (rfour_b a.n _ true H3.out).mono ?_; rintro e w4 ⟨rfl, rfl⟩
  go_wp2_with fail
  refine (rfour_b a.m _ true H4.out).mono ?_; rintro e w5 ⟨rfl, rfl⟩
  go_wp2
  go_region_with (first
    | (go_at_call 23; refine (HBP.out _ B3.drew).mono ?_; rintro e w6 ⟨rfl, hb6⟩; have q6 := Q3.out.drew_.below hb6 Q3.out.lt; have x0' : w6.cell? ⟨w.heap.size, 0, none⟩ = some (.int .u8 (a.kind.toNat : Int)) := q6.cell 0; have B6 := gro B3.drew hb6; clear q6 hb6)
    | (go_at_call 31; refine (HFR.out _).mono ?_; rintro e w7 ⟨rfl, hb7⟩; have B7 := gro B6 hb7; clear hb7))
  all_goals
    go_wp2
    go_ret
    exact ⟨br, rfl, HIFF.out, B7⟩
end Go.Proofs.Ytnjifbgjglniaaa.BK
