/- What the document's own Right, Encode and Bytes answer. Condition: Few. -/
import Derived.Test.YtnjifbgjglniaaaBkre
import Derived.Test.YtnjifbgjglniaaaBku
import Derived.Test.YtnjifbgjglniaaaBkv
namespace Go.Proofs.Ytnjifbgjglniaaa.BK
open Go.Proofs.Ytnjifbgjglniaaa
open Go.ChangeShapes Go.WideShapes Go.ChangeAt Go.RowKit
set_option linter.unusedVariables false
set_option linter.unusedSimpArgs false
set_option maxRecDepth 100000
attribute [local go_sem ↓] Go.wp_at_zero Go.wp_at_succ

theorem kd_row {k : UInt8} (h : kd k = some .row) : k = 68 := by
  rcases kd_inv k with h1 | ⟨hk, h1⟩ | ⟨hk, h1⟩ | ⟨hk, h1⟩ | ⟨hk, h1⟩ | ⟨hk, h1⟩ | ⟨hk, h1⟩ | ⟨hk, h1⟩ | ⟨hk, h1⟩ | ⟨hk, h1⟩
  all_goals first | exact hk | (rw [h] at h1; cases h1)
theorem kd_set {k : UInt8} (h : kd k = some .setting) : k = 83 := by
  rcases kd_inv k with h1 | ⟨hk, h1⟩ | ⟨hk, h1⟩ | ⟨hk, h1⟩ | ⟨hk, h1⟩ | ⟨hk, h1⟩ | ⟨hk, h1⟩ | ⟨hk, h1⟩ | ⟨hk, h1⟩ | ⟨hk, h1⟩
  all_goals first | exact hk | (rw [h] at h1; cases h1)
theorem kd_fld {k : UInt8} (h : kd k = some .fields) : k = 69 ∨ k = 78 := by
  rcases kd_inv k with h1 | ⟨hk, h1⟩ | ⟨hk, h1⟩ | ⟨hk, h1⟩ | ⟨hk, h1⟩ | ⟨hk, h1⟩ | ⟨hk, h1⟩ | ⟨hk, h1⟩ | ⟨hk, h1⟩ | ⟨hk, h1⟩
  all_goals first | exact hk | (rw [h] at h1; cases h1)
theorem kd_log {k : UInt8} (h : kd k = some .login) : k = 82 := by
  rcases kd_inv k with h1 | ⟨hk, h1⟩ | ⟨hk, h1⟩ | ⟨hk, h1⟩ | ⟨hk, h1⟩ | ⟨hk, h1⟩ | ⟨hk, h1⟩ | ⟨hk, h1⟩ | ⟨hk, h1⟩ | ⟨hk, h1⟩
  all_goals first | exact hk | (rw [h] at h1; cases h1)
theorem kd_sta {k : UInt8} (h : kd k = some .status) : k = 90 := by
  rcases kd_inv k with h1 | ⟨hk, h1⟩ | ⟨hk, h1⟩ | ⟨hk, h1⟩ | ⟨hk, h1⟩ | ⟨hk, h1⟩ | ⟨hk, h1⟩ | ⟨hk, h1⟩ | ⟨hk, h1⟩ | ⟨hk, h1⟩
  all_goals first | exact hk | (rw [h] at h1; cases h1)
theorem rrp_of {a : Tell} {w w' : World} {e : Ending} (hn : ¬ RightP a) (h : e = .returned (.bool false) ∧ Below w.heap.size w w') : RLP (RightP a) w e w' := by
  rw [h.1]; exact rlp_no hn h.2
theorem rr_any (w : World) (a : Tell) (v : Value) (f : Few a) (har : AR (fun i => i < w.heap.size) w v a) : Calls Try.prog 16 #[v] w fun e w' => RLP (RightP a) w e w' := by
  by_cases hK : Kept a
  case neg => exact rr_0 w a v f har (decide_eq_false hK)
  have hK' := decide_eq_true hK
  by_cases hL : ListsP a
  case neg => exact rr_1 w a v f har hK' ⟨fun h => absurd h hL, fun h => by cases h⟩
  have hL' : ListsP a ↔ true = true := ⟨fun _ => rfl, fun _ => hL⟩
  by_cases hT : ∀ t ∈ [a.text], 0 ∉ t
  case neg => exact rr_2 w a v f har hK' hL' (decide_eq_false hT)
  have hT' := decide_eq_true hT
  by_cases h3 : four a.n
  case neg => exact rr_3 w a v f har hK' hL' hT' (decide_eq_false h3)
  have h3' := decide_eq_true h3
  by_cases h4 : four a.m
  case neg => exact rr_4 w a v f har hK' hL' hT' h3' (decide_eq_false h4)
  have h4' := decide_eq_true h4
  have good : (kd a.kind = some .login → a.n = 0 ∨ a.n = 3) → (kd a.kind = some .status → a.status = 73 ∨ a.status = 84 ∨ a.status = 69) → Good a := fun g1 g2 =>
    ⟨hK, hL.keys, hL.vals, hT _ (by simp), hL.keys0, fun h => hL.vals0 (fun e => h (by rw [e]; rfl)), fun h => (hL.row (kd_row h)).1, fun h => (hL.row (kd_row h)).2, fun h => hL.one (kd_set h), fun h => (hL.pair (kd_fld h)).1, fun h => (hL.pair (kd_fld h)).2, h3, h4, g1, g2⟩
  have nb : ∀ x y : UInt8, x ≠ y → ((x.toNat : Int) != (y.toNat : Int)) = true := fun x y h => by simp only [bne, u8_ne x y h]; rfl
  have eb : ∀ x y : UInt8, x = y → ((x.toNat : Int) != (y.toNat : Int)) = false := fun x y h => by rw [h]; simp
  by_cases k1 : a.kind = 82
  · have e82 : ((a.kind.toNat : Int) == 82) = true := by rw [k1]; rfl
    have e90 : ((a.kind.toNat : Int) == 90) = false := by rw [k1]; rfl
    have g2 : kd a.kind = some .status → a.status = 73 ∨ a.status = 84 ∨ a.status = 69 := fun h => by rw [kd_sta h] at k1; cases k1
    by_cases n0 : a.n = 0
    · exact rr_p1 w a v f har hK' hL' hT' h3' h4' e82 (by rw [n0]; rfl) e90 (good (fun _ => .inl n0) g2)
    · have n0' : (a.n != 0) = true := by simpa using n0
      by_cases n3 : a.n = 3
      · exact rr_p2 w a v f har hK' hL' hT' h3' h4' e82 n0' (by rw [n3]; rfl) e90 (good (fun _ => .inr n3) g2)
      · exact rr_5 w a v f har hK' hL' hT' h3' h4' e82 n0' (by simpa using n3) (fun h => by rcases h.1.login (by rw [k1]; rfl) with h | h; exact n0 h; exact n3 h)
  · have e82 := u8_ne a.kind 82 k1
    have g1 : kd a.kind = some .login → a.n = 0 ∨ a.n = 3 := fun h => absurd (kd_log h) k1
    by_cases k2 : a.kind = 90
    · have e90 : ((a.kind.toNat : Int) == 90) = true := by rw [k2]; rfl
      by_cases s1 : a.status = 73
      · exact rr_p3 w a v f har hK' hL' hT' h3' h4' e82 e90 (eb _ 73 s1) (good g1 (fun _ => .inl s1))
      by_cases s2 : a.status = 84
      · exact rr_p4 w a v f har hK' hL' hT' h3' h4' e82 e90 (nb _ 73 s1) (eb _ 84 s2) (good g1 (fun _ => .inr (.inl s2)))
      by_cases s3 : a.status = 69
      · exact rr_p5 w a v f har hK' hL' hT' h3' h4' e82 e90 (nb _ 73 s1) (nb _ 84 s2) (eb _ 69 s3) (good g1 (fun _ => .inr (.inr s3)))
      exact rr_6 w a v f har hK' hL' hT' h3' h4' e82 e90 (nb _ 73 s1) (nb _ 84 s2) (nb _ 69 s3) (fun h => by rcases h.1.stat (by rw [k2]; rfl) with h | h | h; exact s1 h; exact s2 h; exact s3 h)
    · exact rr_p0 w a v f har hK' hL' hT' h3' h4' e82 (u8_ne a.kind 90 k2) (good g1 (fun h => absurd (kd_sta h) k2))
theorem rright_b (w : World) (a : Tell) (v : Value) (f : Few a) (har : AR (fun i => i < w.heap.size) w v a) (b : Bool) (hb : RightP a ↔ b = true) :
    Calls Try.prog 16 #[v] w fun e w' => e = .returned (.bool b) ∧ Below w.heap.size w w' := by
  refine (rr_any w a v f har).mono ?_
  rintro e w1 ⟨c, rfl, h1, h2⟩
  have : c = b := by rw [Bool.eq_iff_iff, h1, hb]
  rw [this]; exact ⟨rfl, h2⟩
theorem rright_d (w : World) (a : Tell) (v : Value) (f : Few a) (har : AR (fun i => i < w.heap.size) w v a) : Calls Try.prog 16 #[v] w fun e w' => e = .returned (.bool ((encP a).2 == 0)) ∧ Below w.heap.size w w' := by
  refine rright_b w a v f har _ ?_
  rcases encP_two a with ⟨h, e⟩ | ⟨h, e⟩
  · rw [e]; exact ⟨fun _ => rfl, fun _ => h⟩
  · rw [e]; exact ⟨fun x => absurd x h, fun x => by cases x⟩
theorem renc_out (g : Nat) (wf : World) (tmps : Array Value) (c : Int) (cs : Array Value) (h2 : tmps.getD 2 undef = .pointer (some ⟨g, 0, none⟩)) (h3 : tmps.getD 3 undef = .int .i64 c) (hb : Blk wf g 23 cs) (hz : cs.size = 2) :
    (results Try.f14 tmps).run Try.prog wf = .ok (.tuple #[.agg cs, .int .i64 c]) wf := by
  obtain ⟨fs, hu⟩ := msgTy
  have hl := run_loadVar_row (P := Try.prog) wf g 23 23 cs (0, 0) (.struct fs) hb hu rfl (by rw [msgInfo, hz])
  have h2' : tmps[2]?.getD undef = .pointer (some ⟨g, 0, none⟩) := by simpa using h2
  have h3' : tmps[3]?.getD undef = .int .i64 c := by simpa using h3
  simp [results, Try.f14, Try.results14, h2', h3', asAddr, hl]
set_option maxHeartbeats 4000000 in
theorem renc_no (w : World) (a : Tell) (v : Value) (f : Few a) (har : AR (fun i => i < w.heap.size) w v a) (h : ¬ RightP a) :
    Calls Try.prog 14 #[v] w fun e w' => e = .returned (.tuple #[.agg #[.int .u8 0, .string ⟨#[]⟩], .int .i64 4]) ∧ Below w.heap.size w w' := by
  have hrp := fun W (hB : Below w.heap.size w W) => rright_b W a v f (har.step (fun b hb => hB.block b hb) (fun b hb => Nat.lt_of_lt_of_le hb hB.size)) false ⟨fun x => absurd x h, fun x => by cases x⟩
  obtain ⟨kv, vv, nv, rfl, k1, k2, k3⟩ := har.ex
  clear har
  obtain ⟨A1, c1, e1, z1, y1⟩ := k1.form
  rw [strs_len] at e1 z1
  subst e1
  obtain ⟨A2, c2, e2, z2, y2⟩ := k2.form
  rw [strs_len] at e2 z2
  subst e2
  obtain ⟨A3, c3, e3, z3, y3⟩ := k3.form
  rw [bools_len] at e3 z3
  subst e3
  rw [box_cut] at hrp ⊢
  have HRP := Lib.hid hrp
  have hB0 : Below w.heap.size w ((w.alloc (.cells #[.int .u8 (a.kind.toNat : Int), .int .u8 (a.status.toNat : Int), .string (ba a.text), .slice A1 a.keys.length c1, .slice A2 a.vals.length c2, .slice A3 a.null.length c3, .int .i64 a.n, .int .i64 a.m] 28)).alloc (.cells #[.int .u8 0, .string ⟨#[]⟩] 23)) := ((Below.refl _ _).alloc (Nat.le_refl _) _).alloc (by simp) _
  have q0 := (Blk.new w 28 #[.int .u8 (a.kind.toNat : Int), .int .u8 (a.status.toNat : Int), .string (ba a.text), .slice A1 a.keys.length c1, .slice A2 a.vals.length c2, .slice A3 a.null.length c3, .int .i64 a.n, .int .i64 a.m]).alloc (.cells #[.int .u8 0, .string ⟨#[]⟩] 23)
  have b0 := Blk.new (w.alloc (.cells #[.int .u8 (a.kind.toNat : Int), .int .u8 (a.status.toNat : Int), .string (ba a.text), .slice A1 a.keys.length c1, .slice A2 a.vals.length c2, .slice A3 a.null.length c3, .int .i64 a.n, .int .i64 a.m] 28)) 23 #[.int .u8 0, .string ⟨#[]⟩]
  rw [show (w.alloc (.cells #[.int .u8 (a.kind.toNat : Int), .int .u8 (a.status.toNat : Int), .string (ba a.text), .slice A1 a.keys.length c1, .slice A2 a.vals.length c2, .slice A3 a.null.length c3, .int .i64 a.n, .int .i64 a.m] 28)).heap.size = w.heap.size + 1 by simp] at b0
  clear f k1 k2 k3 h hrp
  go_enter Try.func14, Try.ntmps14
  go_wp2_with fail
  refine (HRP.out _ hB0).mono ?_; rintro e w1 ⟨rfl, hb1⟩
  have q1 := q0.below hb1 q0.lt
  have b1 := b0.below hb1 b0.lt
  have B1 := gro hB0 hb1
  clear hB0 q0 b0 hb1 HRP
  have y0 : w1.cell? ⟨w.heap.size + 1, 0, none⟩ = some (.int .u8 0) := b1.cell 0
  have y1 : w1.cell? ⟨w.heap.size + 1, 1, none⟩ = some (.string ⟨#[]⟩) := b1.cell 1
  have f0 := b1.frozen 0
  have f1 := b1.frozen 1
  go_wp2
  have hb2 := (b1.set_ 0 (.int .u8 0)).set_ 1 (.string ⟨#[]⟩)
  exact bodyPost_ret (v := .tuple #[.agg #[.int .u8 0, .string ⟨#[]⟩], .int .i64 4]) (renc_out _ _ _ _ _ (by rfl) (by rfl) hb2 rfl) rfl ⟨rfl, (B1.setCell (p := ⟨w.heap.size + 1, 0, none⟩) (by simp) _).setCell (p := ⟨w.heap.size + 1, 1, none⟩) (by simp) _⟩
set_option maxHeartbeats 4000000 in
theorem renc_yes (w : World) (a : Tell) (v : Value) (f : Few a) (har : AR (fun i => i < w.heap.size) w v a) (h : RightP a) :
    Calls Try.prog 14 #[v] w fun e w' => e = .returned (.tuple #[.agg #[.int .u8 (a.kind.toNat : Int), .string (ba (body a))], .int .i64 0]) ∧ Below w.heap.size w w' := by
  have hrp := fun W (hB : Below w.heap.size w W) => rright_b W a v f (har.step (fun b hb => hB.block b hb) (fun b hb => Nat.lt_of_lt_of_le hb hB.size)) true ⟨fun _ => rfl, fun _ => h⟩
  have hbp := fun W (hB : Below w.heap.size w W) => rbody_good W a v f (har.step (fun b hb => hB.block b hb) (fun b hb => Nat.lt_of_lt_of_le hb hB.size)) h.1
  obtain ⟨kv, vv, nv, rfl, k1, k2, k3⟩ := har.ex
  clear har
  obtain ⟨A1, c1, e1, z1, y1⟩ := k1.form
  rw [strs_len] at e1 z1
  subst e1
  obtain ⟨A2, c2, e2, z2, y2⟩ := k2.form
  rw [strs_len] at e2 z2
  subst e2
  obtain ⟨A3, c3, e3, z3, y3⟩ := k3.form
  rw [bools_len] at e3 z3
  subst e3
  rw [box_cut] at hrp hbp ⊢
  have HRP := Lib.hid hrp
  have HBP := Lib.hid hbp
  obtain ⟨Bd, hBd⟩ : ∃ Bd, Bd = ba (body a) := ⟨_, rfl⟩
  rw [← hBd] at HBP ⊢
  clear hBd
  have hB0 : Below w.heap.size w ((w.alloc (.cells #[.int .u8 (a.kind.toNat : Int), .int .u8 (a.status.toNat : Int), .string (ba a.text), .slice A1 a.keys.length c1, .slice A2 a.vals.length c2, .slice A3 a.null.length c3, .int .i64 a.n, .int .i64 a.m] 28)).alloc (.cells #[.int .u8 0, .string ⟨#[]⟩] 23)) := ((Below.refl _ _).alloc (Nat.le_refl _) _).alloc (by simp) _
  have q0 := (Blk.new w 28 #[.int .u8 (a.kind.toNat : Int), .int .u8 (a.status.toNat : Int), .string (ba a.text), .slice A1 a.keys.length c1, .slice A2 a.vals.length c2, .slice A3 a.null.length c3, .int .i64 a.n, .int .i64 a.m]).alloc (.cells #[.int .u8 0, .string ⟨#[]⟩] 23)
  have b0 := Blk.new (w.alloc (.cells #[.int .u8 (a.kind.toNat : Int), .int .u8 (a.status.toNat : Int), .string (ba a.text), .slice A1 a.keys.length c1, .slice A2 a.vals.length c2, .slice A3 a.null.length c3, .int .i64 a.n, .int .i64 a.m] 28)) 23 #[.int .u8 0, .string ⟨#[]⟩]
  rw [show (w.alloc (.cells #[.int .u8 (a.kind.toNat : Int), .int .u8 (a.status.toNat : Int), .string (ba a.text), .slice A1 a.keys.length c1, .slice A2 a.vals.length c2, .slice A3 a.null.length c3, .int .i64 a.n, .int .i64 a.m] 28)).heap.size = w.heap.size + 1 by simp] at b0
  clear f k1 k2 k3 h hrp hbp
  go_enter Try.func14, Try.ntmps14
  go_wp2_with fail
  refine (HRP.out _ hB0).mono ?_; rintro e w1 ⟨rfl, hb1⟩
  have q1 := q0.below hb1 q0.lt
  have b1 := b0.below hb1 b0.lt
  have B1 := gro hB0 hb1
  clear hB0 q0 b0 hb1 HRP
  obtain ⟨x0, x1, x2, x3, x4, x5, x6, x7⟩ := Blk.all8 q1
  have HQ := Lib.hid q1
  have HM := Lib.hid b1
  clear q1 b1
  go_wp2
  go_region_with (go_at_call 23; refine (HBP.out _ B1.drew).mono ?_; rintro e w6 ⟨rfl, hb6⟩; have q6 := HQ.out.drew_.below hb6 HQ.out.lt; have m6 := HM.out.drew_.below hb6 HM.out.lt; have x0' : w6.cell? ⟨w.heap.size, 0, none⟩ = some (.int .u8 (a.kind.toNat : Int)) := q6.cell 0; have B6 := gro B1.drew hb6; have y0 : w6.cell? ⟨w.heap.size + 1, 0, none⟩ = some (.int .u8 0) := m6.cell 0; have y1 : w6.cell? ⟨w.heap.size + 1, 1, none⟩ = some (.string ⟨#[]⟩) := m6.cell 1; have f0 := m6.frozen 0; have f1 := m6.frozen 1; clear q6 hb6)
  all_goals
    go_wp2
    have hb2 := (m6.set_ 0 (.int .u8 (a.kind.toNat : Int))).set_ 1 (.string Bd)
    exact bodyPost_ret (v := .tuple #[.agg #[.int .u8 (a.kind.toNat : Int), .string Bd], .int .i64 0]) (renc_out _ _ _ _ _ (by rfl) (by rfl) hb2 rfl) rfl ⟨rfl, (B6.setCell (p := ⟨w.heap.size + 1, 0, none⟩) (by simp) _).setCell (p := ⟨w.heap.size + 1, 1, none⟩) (by simp) _⟩
theorem renc_any (w : World) (a : Tell) (v : Value) (f : Few a) (har : AR (fun i => i < w.heap.size) w v a) : Calls Try.prog 14 #[v] w (EncP (encP a) w) := by
  rcases encP_two a with ⟨h, e⟩ | ⟨h, e⟩
  · rw [e]; exact renc_yes w a v f har h
  · rw [e]; exact renc_no w a v f har h

set_option maxHeartbeats 2000000 in
theorem rbyt_any (l : List Tell) (v : Value) (w : World) (hl : l.length ≤ 1000) (hf : ∀ t ∈ l, Few t) (h : TL w v l) :
    Calls Try.prog 18 #[v] w fun e w' => e = .returned (.tuple #[.string (ba (bytesP l).1), .int .i64 (bytesP l).2]) ∧ Below w.heap.size w w' := by
  obtain ⟨A, cap, rfl, hc1, hc2, hx⟩ := h
  have HX := Lib.hid hx
  have HF := Lib.hid hf
  clear hx hf
  go_enter Try.func18, Try.ntmps18
  go_wp2
  go_loopw [4, 5] (fun s i wr => ∃ k : Nat, k ≤ l.length ∧ i = .int .i64 k ∧ (∀ t ∈ l.take k, RightP t) ∧ s = .string (ba (allL (msgsOf (l.take k)))) ∧ Below w.heap.size w wr) (fun _ i _ => l.length - (intOf i).toNat)
  case atStart => exact ⟨0, Nat.zero_le _, rfl, by simp, by simp [msgsOf, allL, ba], Below.refl _ _⟩
  case round =>
    obtain ⟨k, hk, rfl, hR, rfl, hI⟩ := hrel
    have HR := Lib.hid hR
    clear hR
    by_cases hlt : k < l.length
    · obtain ⟨g, off, rfl, hg, hx⟩ := HX.out (by intro e; rw [e] at hlt; simp at hlt)
      obtain ⟨kv, vv, nv, hcs, har⟩ := hx k l[k] (List.getElem?_eq_getElem hlt)
      obtain ⟨o1, o2, o3⟩ := lrs_at har w (Below.refl _ _)
      obtain ⟨A1, p1, rfl, _, _⟩ := o1.form
      obtain ⟨A2, p2, rfl, _, _⟩ := o2.form
      obtain ⟨A3, p3, rfl, _, _⟩ := o3.form
      clear o1 o2 o3
      obtain ⟨n1, hn1⟩ : ∃ n, n = (strs l[k].keys).length := ⟨_, rfl⟩
      obtain ⟨n2, hn2⟩ : ∃ n, n = (strs l[k].vals).length := ⟨_, rfl⟩
      obtain ⟨n3, hn3⟩ : ∃ n, n = (bools l[k].null).length := ⟨_, rfl⟩
      rw [← hn1, ← hn2, ← hn3] at har hcs
      clear hn1 hn2 hn3
      obtain ⟨kv, hkv⟩ : ∃ v, v = Value.slice A1 n1 p1 := ⟨_, rfl⟩
      obtain ⟨vv, hvv⟩ : ∃ v, v = Value.slice A2 n2 p2 := ⟨_, rfl⟩
      obtain ⟨nv, hnv⟩ : ∃ v, v = Value.slice A3 n3 p3 := ⟨_, rfl⟩
      rw [← hkv, ← hvv, ← hnv] at har hcs
      have cc : ∀ (i : Nat) x, (tellV l[k] kv vv nv)[i]? = some x → wr.cell? ⟨g, off + k * 8 + i, none⟩ = some x := fun i x hx => by rw [(bcell hI).1 _ _ hg]; exact hcs i x hx
      have HS := Lib.hid (allL_step l k hlt)
      have d : ∀ W : World, Below w.heap.size w W → Calls Try.prog 14 #[.agg (tellV l[k] kv vv nv)] W (EncP (encP l[k]) W) := fun W hB =>
        renc_any W l[k] _ (HF.out _ (List.getElem_mem _)) (har.step (fun b hb => hB.block b hb) (fun b hb => Nat.lt_of_lt_of_le hb hB.size))
      have hz : (allL (msgsOf (l.take k))).length ≤ 4097000 := by
        have h1 := allL_len (msgsOf (l.take k))
        have h2 : (msgsOf (l.take k)).length ≤ 1000 := by simp only [msgsOf, List.length_map, List.length_take]; omega
        have h3 := Nat.mul_le_mul_right 4097 h2
        omega
      have htwo := encP_two l[k]
      have hno := fun h => bytesP_no hlt (l := l) h
      have hsz := hI.size
      have HIA := Lib.hid (show ∀ cs t, Below w.heap.size w (wr.alloc (.cells cs t)) from fun cs t => gro hI ((Below.refl _ _).alloc (Nat.le_refl _) _))
      have c0 : wr.cell? ⟨g, off + k * 8, none⟩ = some (.int .u8 (l[k].kind.toNat : Int)) := cc 0 _ rfl
      have c1 : wr.cell? ⟨g, off + k * 8 + 1, none⟩ = some (.int .u8 (l[k].status.toNat : Int)) := cc 1 _ rfl
      have c2 : wr.cell? ⟨g, off + k * 8 + 2, none⟩ = some (.string (ba l[k].text)) := cc 2 _ rfl
      have c3 : wr.cell? ⟨g, off + k * 8 + 3, none⟩ = some (kv) := cc 3 _ rfl
      have c4 : wr.cell? ⟨g, off + k * 8 + 4, none⟩ = some (vv) := cc 4 _ rfl
      have c5 : wr.cell? ⟨g, off + k * 8 + 5, none⟩ = some (nv) := cc 5 _ rfl
      have c6 : wr.cell? ⟨g, off + k * 8 + 6, none⟩ = some (.int .i64 l[k].n) := cc 6 _ rfl
      have c7 : wr.cell? ⟨g, off + k * 8 + 7, none⟩ = some (.int .i64 l[k].m) := cc 7 _ rfl
      rw [box_cut] at d
      obtain ⟨a, ha⟩ : ∃ a, a = l[k] := ⟨_, rfl⟩
      have hkr : RightP a → ∀ t ∈ l.take (k + 1), RightP t := by
        intro hr t ht
        rw [List.take_succ_eq_append_getElem hlt] at ht
        rcases List.mem_append.1 ht with ht | ht
        · exact HR.out t ht
        · rw [List.mem_singleton.1 ht, ← ha]; exact hr
      rw [← ha] at c0 c1 c2 c6 c7 d htwo hno
      have hS := HS.out
      rw [← ha] at hS
      clear HS ha cc hcs har hx HR HX HF
      have HS := Lib.hid hS
      have HD := Lib.hid d
      have HNO := Lib.hid hno
      have HKR := Lib.hid hkr
      have HTW := Lib.hid htwo
      clear hS d hno hkr htwo
      subst hkv hvv hnv
      go_wp2_with fail
      refine (HD.out _ hI).mono ?_
      rcases HTW.out with ⟨hr, he⟩ | ⟨hr, he⟩
      · rw [he]
        rintro e w2 ⟨rfl, hb2⟩
        have hI2 := gro hI hb2
        have hMg := gro hI2 ((Below.refl _ _).alloc (Nat.le_refl _) (.cells #[.int .u8 (a.kind.toNat : Int), .string (ba (body a))] 23))
        have dp := rput_any a.kind (ba (body a)) (w2.alloc (.cells #[.int .u8 (a.kind.toNat : Int), .string (ba (body a))] 23)) (by rw [ba_size]; have := hr.len; omega)
        rw [ba_list] at dp
        unfold Go.Proofs.Ytnjifbgjglniaaa.u8 at dp ⊢
        have HKK := Lib.hid (HKR.out hr)
        have hz1 : (ba (allL (msgsOf (l.take k)))).size ≤ 4097000 := by rw [ba_size]; exact hz
        have hz2 : (ba (putL (a.kind, body a))).size ≤ 4097 := by rw [ba_size]; exact putL_len _
        have HR2 : Hid (ba (allL (msgsOf (l.take k))) ++ ba (putL (a.kind, body a)) = ba (allL (msgsOf (l.take (k + 1))))) := Lib.hid (by rw [ba_append, HS.out])
        clear he hb2 hI hI2 c0 c1 c2 c3 c4 c5 c6 c7 HIA HTW
        generalize ba (putL (a.kind, body a)) = pp at *
        generalize ba (allL (msgsOf (l.take k))) = ss at *
        go_wp2_with fail
        refine dp.mono ?_; rintro e w3 ⟨rfl, hb3⟩
        have hI3 := gro hMg hb3
        clear hb3 hMg
        go_wp2
        go_roundw
        case rel => exact ⟨k + 1, by omega, by go_num, HKK.out, by rw [← HR2.out], hI3⟩
        case measure => simp [intOf]; omega
      · rw [he]
        rintro e w2 ⟨rfl, hb2⟩
        have hI2 := gro hI hb2
        have hMg := gro hI2 ((Below.refl _ _).alloc (Nat.le_refl _) (.cells #[.int .u8 0, .string ⟨#[]⟩] 23))
        have e0 := HNO.out hr
        unfold Go.Proofs.Ytnjifbgjglniaaa.u8
        rw [show ba [] = ⟨#[]⟩ from rfl]
        clear he hb2 hI hI2 c0 c1 c2 c3 c4 c5 c6 c7 HIA HTW
        have HE := Lib.hid e0
        clear e0
        go_wp2
        go_ret2
        rw [HE.out]
        exact ⟨rfl, hMg⟩
    · have e : k = l.length := by omega
      subst e
      rw [List.take_length] at *
      go_wp2
      go_ret2
      have hR := HR.out
      rw [bytesP_yes hR]
      exact ⟨rfl, hI⟩
end Go.Proofs.Ytnjifbgjglniaaa.BK
