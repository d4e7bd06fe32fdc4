/- What the document's own reader at layer 2 does: 'next' finds the message ahead, Feed all that are whole. Condition: what waits and what is fed are together of at most 2^40 bytes. -/
import Derived.Test.YtnjifbgjglniaaaBkf1
namespace Go.Proofs.Ytnjifbgjglniaaa
open Go.ChangeShapes Go.WideShapes Go.ChangeAt Go.RowKit
set_option linter.unusedVariables false

/-- the document's reader at block g -/
def RRd (w : World) (g : Nat) (l : List UInt8) (f : Bool) (e : Int) : Prop := Blk w g 44 #[.string (ba l), .bool f, .int .i64 e]

def RetN (r : Msg × Nat × Int) (e : Ending) : Prop :=
  (r.2.1 = 0 → ∃ (k : Int) (b : ByteArray) (n : Int), e = .returned (.tuple #[.agg #[.int .u8 k, .string b], .int .i64 n, .bool false, .int .i64 r.2.2])) ∧
  (r.2.1 ≠ 0 → e = .returned (.tuple #[.agg #[u8 r.1.1, .string (ba r.1.2)], .int .i64 (r.2.1 : Nat), .bool true, .int .i64 0]))
theorem retn_stop {c : Int} (k : Int) (b : ByteArray) (n : Int) : RetN ((0, []), 0, c) (.returned (.tuple #[.agg #[.int .u8 k, .string b], .int .i64 n, .bool false, .int .i64 c])) :=
  ⟨fun _ => ⟨k, b, n, rfl⟩, fun h => absurd rfl h⟩

theorem bel2 {w w1 : World} {X Y : Obj} (h : Below ((w.alloc X).alloc Y).heap.size ((w.alloc X).alloc Y) w1) : Below w.heap.size w w1 := bel ((show Below (w.alloc X).heap.size (w.alloc X) w1 from bel h))

theorem num_ref (l : List UInt8) (f : Bool) (w : World) (h : bodyN f ≤ l.length) (hl : l.length ≤ 1099511627776) (a : Int) (ha : a = (bodyN f : Int) - 4) :
    Calls Try.prog 56 #[.string (ba l), .int .i64 a] w fun e w' => e = .returned (.tuple #[.int .i64 (numL l f), .int .i64 (bodyN f : Nat), .int .i64 0]) ∧ Below w.heap.size w w' := by
  have hb := bodyN_pos f
  have hg := rget32_any (ba l) a w (by rw [ba_size]; omega)
  have e : g32 (ba l) a = (numL l f, ((bodyN f : Nat) : Int), 0) := by
    unfold g32 numL
    have hi : insB (ba l).size a = true := by rw [ba_size]; unfold insB; exact decide_eq_true (by omega)
    rw [if_neg (by rw [hi]; decide), if_neg (by rw [ba_size]; omega)]
    have e2 : ((ba l).extract a.toNat (a + 4).toNat).data.toList = (l.drop (bodyN f - 4)).take 4 := by
      rw [ba_extract, ba_list, show a.toNat = bodyN f - 4 by omega, show (a + 4).toNat - (bodyN f - 4) = 4 by omega]
    rw [e2, show a + 4 = ((bodyN f : Nat) : Int) by omega]
  rw [e] at hg
  exact hg
theorem num_short (l : List UInt8) (f : Bool) (w : World) (h : l.length < bodyN f) (hl : l.length ≤ 1099511627776) (a : Int) (ha : a = (bodyN f : Int) - 4) :
    Calls Try.prog 56 #[.string (ba l), .int .i64 a] w fun e w' => (∃ c : Int, (c != 0) = true ∧ e = .returned (.tuple #[.int .i64 0, .int .i64 0, .int .i64 c])) ∧ Below w.heap.size w w' := by
  have hb := bodyN_pos f
  have hg := rget32_any (ba l) a w (by rw [ba_size]; omega)
  obtain ⟨c, _, hc, e⟩ := g32_no (ba l) a (.inr (by rw [ba_size]; omega))
  rw [e] at hg
  exact hg.mono fun e w' ⟨h1, h2⟩ => ⟨⟨c, hc, h1⟩, h2⟩
theorem bytes_ref (l : List UInt8) (f : Bool) (w : World) (hl : l.length ≤ 1099511627776) (z : Int) (h4 : 4 ≤ z) (h : (bodyN f : Int) + (z - 4) ≤ l.length) :
    Calls Try.prog 69 #[.string (ba l), .int .i64 (bodyN f : Nat), .int .i64 (z - 4)] w fun e w' => e = .returned (.tuple #[.string (ba ((l.drop (bodyN f)).take (z.toNat - 4))), .int .i64 ((bodyN f : Int) + (z - 4)), .int .i64 0]) ∧ w' = w := by
  have hg := rgetBytes_any (ba l) (bodyN f : Nat) (z - 4) w (by rw [ba_size]; omega)
  have e : gBytes (ba l) ((bodyN f : Nat) : Int) (z - 4) = (ba ((l.drop (bodyN f)).take (z.toNat - 4)), (bodyN f : Int) + (z - 4), 0) := by
    unfold gBytes
    have hi : insB (ba l).size ((bodyN f : Nat) : Int) = true := by rw [ba_size]; unfold insB; exact decide_eq_true (by omega)
    rw [if_neg (by omega), if_neg (by rw [hi]; decide), if_neg (by rw [ba_size]; omega), ba_extract, show (((bodyN f : Nat) : Int)).toNat = bodyN f by omega, show (((bodyN f : Nat) : Int) + (z - 4)).toNat - bodyN f = z.toNat - 4 by omega]
  rw [e] at hg
  exact hg
theorem bytes_short (l : List UInt8) (f : Bool) (w : World) (hl : l.length ≤ 1099511627776) (hb : bodyN f ≤ l.length) (z : Int) (h4 : 4 ≤ z) (h : (l.length : Int) < (bodyN f : Int) + (z - 4)) :
    Calls Try.prog 69 #[.string (ba l), .int .i64 (bodyN f : Nat), .int .i64 (z - 4)] w fun e w' => e = .returned (.tuple #[.string ⟨#[]⟩, .int .i64 0, .int .i64 3]) ∧ w' = w := by
  have hg := rgetBytes_any (ba l) (bodyN f : Nat) (z - 4) w (by rw [ba_size]; omega)
  have e : gBytes (ba l) ((bodyN f : Nat) : Int) (z - 4) = (⟨#[]⟩, 0, 3) := by
    unfold gBytes
    have hi : insB (ba l).size ((bodyN f : Nat) : Int) = true := by rw [ba_size]; unfold insB; exact decide_eq_true (by omega)
    rw [if_neg (by omega), if_neg (by rw [hi]; decide), if_pos (by rw [ba_size]; omega)]
  rw [e] at hg
  exact hg

theorem ba_head (l : List UInt8) (h : 0 < l.length) (h' : 0 < (ba l).size) : (ba l)[0] = kindL l false := by
  cases l with
  | nil => simp at h
  | cons x l => rfl


theorem blk2 (w : World) (X : Obj) (t : TypeId) (cs : Array Value) : Blk ((w.alloc X).alloc (.cells cs t)) (w.heap.size + 1) t cs := by
  have := Blk.new (w.alloc X) t cs
  rwa [show (w.alloc X).heap.size = w.heap.size + 1 by simp] at this
/-- what stands behind a call, of the reader, and of two new blocks -/
theorem after_call {w w1 : World} {g : Nat} {l : List UInt8} {f : Bool} {x : Int} {M : Value} (h : Blk w g 44 #[.string (ba l), .bool f, .int .i64 x])
    (hb1 : Below ((w.alloc (.cells #[.int .u8 0, .string ⟨#[]⟩] 23)).alloc (.cells #[M, .string ⟨#[]⟩] 23)).heap.size ((w.alloc (.cells #[.int .u8 0, .string ⟨#[]⟩] 23)).alloc (.cells #[M, .string ⟨#[]⟩] 23)) w1) :
    w1.cell? ⟨g, 0, none⟩ = some (.string (ba l)) ∧ w1.cell? ⟨g, 1, none⟩ = some (.bool f) ∧ w1.cell? ⟨w.heap.size + 1, 0, none⟩ = some M ∧ w1.cell? ⟨w.heap.size + 1, 1, none⟩ = some (.string ⟨#[]⟩) ∧
    (∀ i, w1.frozen? ⟨w.heap.size + 1, i, none⟩ = false) ∧ w1.cell? ⟨w.heap.size, 0, none⟩ = some (.int .u8 0) ∧ w1.cell? ⟨w.heap.size, 1, none⟩ = some (.string ⟨#[]⟩) ∧ (∀ i, w1.frozen? ⟨w.heap.size, i, none⟩ = false) ∧ w.heap.size + 2 ≤ w1.heap.size := by
  have hlt := h.lt
  have q := ((h.alloc (.cells #[.int .u8 0, .string ⟨#[]⟩] 23)).alloc (.cells #[M, .string ⟨#[]⟩] 23)).below hb1 (by simp; omega)
  have p := (blk2 w (.cells #[.int .u8 0, .string ⟨#[]⟩] 23) 23 #[M, .string ⟨#[]⟩]).below hb1 (by simp)
  have n := ((Blk.new w 23 #[.int .u8 0, .string ⟨#[]⟩]).alloc (.cells #[M, .string ⟨#[]⟩] 23)).below hb1 (by simp; omega)
  exact ⟨q.cell 0, q.cell 1, p.cell 0, p.cell 1, fun i => p.frozen i, n.cell 0, n.cell 1, fun i => n.frozen i, by have := hb1.size; simp at this; omega⟩

theorem next_none (g : Nat) (x : Int) (w : World) (h : RRd w g [] false x) :
    Calls Try.prog 36 #[.pointer (some ⟨g, 0, none⟩)] w fun e w' => RetN ((0, []), 0, 0) e ∧ Below w.heap.size w w' := by
  unfold RRd at h
  have r0 : w.cell? ⟨g, 0, none⟩ = some (.string (ba [])) := h.cell 0
  have r1 : w.cell? ⟨g, 1, none⟩ = some (.bool false) := h.cell 1
  have hlt := h.lt
  rw [ba_nil] at r0
  go_enter Try.func36, Try.ntmps36
  go_wp2
  exact bodyPost_ret (v := .tuple #[.agg #[.int .u8 0, .string ⟨#[]⟩], .int .i64 0, .bool false, .int .i64 0]) (by simp [results, Try.results36, go_sem]) rfl ⟨retn_stop _ _ _, ((Below.refl _ _).alloc (Nat.le_refl _) _).alloc (by simp) _⟩

set_option maxHeartbeats 1000000 in
theorem next_short_true (g : Nat) (l : List UInt8) (x : Int) (w : World) (h : RRd w g l true x) (hl : l.length ≤ 1099511627776) (hs : l.length < 4) :
    Calls Try.prog 36 #[.pointer (some ⟨g, 0, none⟩)] w fun e w' => RetN ((0, []), 0, 0) e ∧ Below w.heap.size w w' := by
  unfold RRd at h
  have r0 : w.cell? ⟨g, 0, none⟩ = some (.string (ba l)) := h.cell 0
  have r1 : w.cell? ⟨g, 1, none⟩ = some (.bool true) := h.cell 1
  have hlt := h.lt
  have d := fun w => num_short l true w hs hl 0 rfl
  clear hl
  go_enter Try.func36, Try.ntmps36
  go_wp2_with (first | (go_at_call 56; refine (d _).mono ?_; rintro e w1 ⟨⟨c, hcz, rfl⟩, hb1⟩; obtain ⟨q0, q1, p0, p1, pf, n0, n1, nf, hz1⟩ := after_call h hb1))
  refine bodyPost_ret (v := .tuple #[.agg #[.int .u8 0, .string ⟨#[]⟩], .int .i64 0, .bool false, .int .i64 0]) (by simp [results, Try.results36, n0, n1, go_sem]) rfl ⟨retn_stop _ _ _, by first | exact ((bel2 hb1).setCell (Nat.le_refl _) _).setCell (Nat.le_refl _) _ | exact ((((bel2 hb1).setCell (Nat.le_succ _) _).setCell (Nat.le_refl _) _).setCell (Nat.le_refl _) _) | exact ((((bel2 hb1).setCell (Nat.le_refl _) _).setCell (Nat.le_refl _) _).setCell (Nat.le_succ _) _)⟩

set_option maxHeartbeats 1000000 in
theorem next_small_true (g : Nat) (l : List UInt8) (x : Int) (w : World) (h : RRd w g l true x) (hl : l.length ≤ 1099511627776) (hs : 4 ≤ l.length) (h1 : numL l true < 4) :
    Calls Try.prog 36 #[.pointer (some ⟨g, 0, none⟩)] w fun e w' => RetN ((0, []), 0, 4) e ∧ Below w.heap.size w w' := by
  unfold RRd at h
  have r0 : w.cell? ⟨g, 0, none⟩ = some (.string (ba l)) := h.cell 0
  have r1 : w.cell? ⟨g, 1, none⟩ = some (.bool true) := h.cell 1
  have hlt := h.lt
  have d := fun w => num_ref l true w hs hl 0 rfl
  rw [show ((bodyN true : Nat) : Int) = 4 from rfl] at d
  generalize numL l true = z at *
  go_enter Try.func36, Try.ntmps36
  go_wp2_with (first | (go_at_call 56; refine (d _).mono ?_; rintro e w1 ⟨rfl, hb1⟩; obtain ⟨q0, q1, p0, p1, pf, n0, n1, nf, hz1⟩ := after_call h hb1))
  refine bodyPost_ret (v := .tuple #[.agg #[.int .u8 0, .string ⟨#[]⟩], .int .i64 0, .bool false, .int .i64 4]) (by simp [results, Try.results36, n0, n1, go_sem]) rfl ⟨retn_stop _ _ _, by first | exact ((bel2 hb1).setCell (Nat.le_refl _) _).setCell (Nat.le_refl _) _ | exact ((((bel2 hb1).setCell (Nat.le_succ _) _).setCell (Nat.le_refl _) _).setCell (Nat.le_refl _) _) | exact ((((bel2 hb1).setCell (Nat.le_refl _) _).setCell (Nat.le_refl _) _).setCell (Nat.le_succ _) _)⟩

set_option maxHeartbeats 1000000 in
theorem next_big_true (g : Nat) (l : List UInt8) (x : Int) (w : World) (h : RRd w g l true x) (hl : l.length ≤ 1099511627776) (hs : 4 ≤ l.length) (h1 : 4096 < numL l true) :
    Calls Try.prog 36 #[.pointer (some ⟨g, 0, none⟩)] w fun e w' => RetN ((0, []), 0, 2) e ∧ Below w.heap.size w w' := by
  unfold RRd at h
  have r0 : w.cell? ⟨g, 0, none⟩ = some (.string (ba l)) := h.cell 0
  have r1 : w.cell? ⟨g, 1, none⟩ = some (.bool true) := h.cell 1
  have hlt := h.lt
  have d := fun w => num_ref l true w hs hl 0 rfl
  rw [show ((bodyN true : Nat) : Int) = 4 from rfl] at d
  generalize numL l true = z at *
  go_enter Try.func36, Try.ntmps36
  go_wp2_with (first | (go_at_call 56; refine (d _).mono ?_; rintro e w1 ⟨rfl, hb1⟩; obtain ⟨q0, q1, p0, p1, pf, n0, n1, nf, hz1⟩ := after_call h hb1))
  refine bodyPost_ret (v := .tuple #[.agg #[.int .u8 0, .string ⟨#[]⟩], .int .i64 0, .bool false, .int .i64 2]) (by simp [results, Try.results36, n0, n1, go_sem]) rfl ⟨retn_stop _ _ _, by first | exact ((bel2 hb1).setCell (Nat.le_refl _) _).setCell (Nat.le_refl _) _ | exact ((((bel2 hb1).setCell (Nat.le_succ _) _).setCell (Nat.le_refl _) _).setCell (Nat.le_refl _) _) | exact ((((bel2 hb1).setCell (Nat.le_refl _) _).setCell (Nat.le_refl _) _).setCell (Nat.le_succ _) _)⟩

set_option maxHeartbeats 1000000 in
theorem next_wait_true (g : Nat) (l : List UInt8) (x : Int) (w : World) (h : RRd w g l true x) (hl : l.length ≤ 1099511627776) (hs : 4 ≤ l.length) (h1 : 4 ≤ numL l true) (h2 : numL l true ≤ 4096) (h3 : (l.length : Int) < (bodyN true : Int) + (numL l true - 4)) :
    Calls Try.prog 36 #[.pointer (some ⟨g, 0, none⟩)] w fun e w' => RetN ((0, []), 0, 0) e ∧ Below w.heap.size w w' := by
  unfold RRd at h
  have r0 : w.cell? ⟨g, 0, none⟩ = some (.string (ba l)) := h.cell 0
  have r1 : w.cell? ⟨g, 1, none⟩ = some (.bool true) := h.cell 1
  have hlt := h.lt
  have d := fun w => num_ref l true w hs hl 0 rfl
  rw [show ((bodyN true : Nat) : Int) = 4 from rfl] at d
  have d2 := fun w => bytes_short l true w hl hs (numL l true) h1 h3
  rw [show ((bodyN true : Nat) : Int) = 4 from rfl] at d2 h3
  generalize numL l true = z at *
  go_enter Try.func36, Try.ntmps36
  go_wp2_with (first | (go_at_call 56; refine (d _).mono ?_; rintro e w1 ⟨rfl, hb1⟩; obtain ⟨q0, q1, p0, p1, pf, n0, n1, nf, hz1⟩ := after_call h hb1) | (go_at_call 69; refine (d2 _).mono ?_; rintro e w2 ⟨rfl, rfl⟩))
  refine bodyPost_ret (v := .tuple #[.agg #[.int .u8 0, .string ⟨#[]⟩], .int .i64 0, .bool false, .int .i64 0]) (by simp [results, Try.results36, n0, n1, go_sem]) rfl ⟨retn_stop _ _ _, by first | exact ((bel2 hb1).setCell (Nat.le_refl _) _).setCell (Nat.le_refl _) _ | exact ((((bel2 hb1).setCell (Nat.le_succ _) _).setCell (Nat.le_refl _) _).setCell (Nat.le_refl _) _) | exact ((((bel2 hb1).setCell (Nat.le_refl _) _).setCell (Nat.le_refl _) _).setCell (Nat.le_succ _) _)⟩

set_option maxHeartbeats 1000000 in
theorem next_msg_true (g : Nat) (l : List UInt8) (x : Int) (w : World) (h : RRd w g l true x) (hl : l.length ≤ 1099511627776) (hs : 4 ≤ l.length) (h1 : 4 ≤ numL l true) (h2 : numL l true ≤ 4096) (h3 : (bodyN true : Int) + (numL l true - 4) ≤ (l.length : Int)) :
    Calls Try.prog 36 #[.pointer (some ⟨g, 0, none⟩)] w fun e w' => RetN ((0, (l.drop 4).take ((numL l true).toNat - 4)), 4 - 4 + (numL l true).toNat, 0) e ∧ Below w.heap.size w w' := by
  unfold RRd at h
  have r0 : w.cell? ⟨g, 0, none⟩ = some (.string (ba l)) := h.cell 0
  have r1 : w.cell? ⟨g, 1, none⟩ = some (.bool true) := h.cell 1
  have hlt := h.lt
  have d := fun w => num_ref l true w hs hl 0 rfl
  rw [show ((bodyN true : Nat) : Int) = 4 from rfl] at d
  have d2 := fun w => bytes_ref l true w hl (numL l true) h1 h3
  rw [show ((bodyN true : Nat) : Int) = 4 from rfl] at d2 h3
  rw [show bodyN true = 4 from rfl] at d2
  generalize numL l true = z at *
  have hE := Lib.hid (show ((4 - 4 + z.toNat : Nat) : Int) = 4 + (z - 4) by omega)
  have hE0 := Lib.hid (show 4 - 4 + z.toNat ≠ 0 by omega)
  obtain ⟨t, ht⟩ : ∃ t, (l.drop 4).take (z.toNat - 4) = t := ⟨_, rfl⟩
  rw [ht] at d2 ⊢
  clear ht
  go_enter Try.func36, Try.ntmps36
  go_wp2_with (first | (go_at_call 56; refine (d _).mono ?_; rintro e w1 ⟨rfl, hb1⟩; obtain ⟨q0, q1, p0, p1, pf, n0, n1, nf, hz1⟩ := after_call h hb1) | (go_at_call 69; refine (d2 _).mono ?_; rintro e w2 ⟨rfl, rfl⟩))
  refine bodyPost_ret (v := .tuple #[.agg #[.int .u8 0, .string (ba t)], .int .i64 (4 + (z - 4)), .bool true, .int .i64 0]) (by simp [results, Try.results36, n0, n1, go_sem]) rfl ⟨⟨fun e => absurd e hE0.out, fun _ => by show _ = Ending.returned (.tuple #[.agg #[u8 _, .string (ba t)], .int .i64 ((4 - 4 + z.toNat : Nat) : Int), .bool true, .int .i64 0]); rw [hE.out]; rfl⟩, by first | exact ((bel2 hb1).setCell (Nat.le_refl _) _).setCell (Nat.le_refl _) _ | exact ((((bel2 hb1).setCell (Nat.le_succ _) _).setCell (Nat.le_refl _) _).setCell (Nat.le_refl _) _) | exact ((((bel2 hb1).setCell (Nat.le_refl _) _).setCell (Nat.le_refl _) _).setCell (Nat.le_succ _) _)⟩

set_option maxHeartbeats 1000000 in
theorem next_short_false (g : Nat) (l : List UInt8) (x : Int) (w : World) (h : RRd w g l false x) (hl : l.length ≤ 1099511627776) (hs : l.length < 5) (h0 : 0 < l.length) :
    Calls Try.prog 36 #[.pointer (some ⟨g, 0, none⟩)] w fun e w' => RetN ((0, []), 0, 0) e ∧ Below w.heap.size w w' := by
  unfold RRd at h
  have r0 : w.cell? ⟨g, 0, none⟩ = some (.string (ba l)) := h.cell 0
  have r1 : w.cell? ⟨g, 1, none⟩ = some (.bool false) := h.cell 1
  have hlt := h.lt
  have hsz : 0 < (ba l).size := by rw [ba_size]; omega
  have hkd := ba_head l (by omega) hsz
  have d := fun w => num_short l false w hs hl 1 rfl
  clear hl
  generalize kindL l false = k at *
  go_enter Try.func36, Try.ntmps36
  go_wp2_with (first | (go_at_call 56; refine (d _).mono ?_; rintro e w1 ⟨⟨c, hcz, rfl⟩, hb1⟩; obtain ⟨q0, q1, p0, p1, pf, n0, n1, nf, hz1⟩ := after_call h hb1))
  refine bodyPost_ret (v := .tuple #[.agg #[.int .u8 (k.toNat : Int), .string ⟨#[]⟩], .int .i64 0, .bool false, .int .i64 0]) (by simp [results, Try.results36, n0, n1, go_sem]) rfl ⟨retn_stop _ _ _, by first | exact ((bel2 hb1).setCell (Nat.le_refl _) _).setCell (Nat.le_refl _) _ | exact ((((bel2 hb1).setCell (Nat.le_succ _) _).setCell (Nat.le_refl _) _).setCell (Nat.le_refl _) _) | exact ((((bel2 hb1).setCell (Nat.le_refl _) _).setCell (Nat.le_refl _) _).setCell (Nat.le_succ _) _)⟩

set_option maxHeartbeats 1000000 in
theorem next_klow_false (g : Nat) (l : List UInt8) (x : Int) (w : World) (h : RRd w g l false x) (hl : l.length ≤ 1099511627776) (hs : 5 ≤ l.length) (hk : (kindL l false).toNat < 33) :
    Calls Try.prog 36 #[.pointer (some ⟨g, 0, none⟩)] w fun e w' => RetN ((0, []), 0, 5) e ∧ Below w.heap.size w w' := by
  unfold RRd at h
  have r0 : w.cell? ⟨g, 0, none⟩ = some (.string (ba l)) := h.cell 0
  have r1 : w.cell? ⟨g, 1, none⟩ = some (.bool false) := h.cell 1
  have hlt := h.lt
  have hsz : 0 < (ba l).size := by rw [ba_size]; omega
  have hkd := ba_head l (by omega) hsz
  have d := fun w => num_ref l false w hs hl 1 rfl
  rw [show ((bodyN false : Nat) : Int) = 5 from rfl] at d
  have kc : decide (((kindL l false).toNat : Int) < 33) = true := by simp; omega
  clear hk
  generalize numL l false = z at *
  generalize kindL l false = k at *
  go_enter Try.func36, Try.ntmps36
  go_wp2_with (first | (go_at_call 56; refine (d _).mono ?_; rintro e w1 ⟨rfl, hb1⟩; obtain ⟨q0, q1, p0, p1, pf, n0, n1, nf, hz1⟩ := after_call h hb1))
  refine bodyPost_ret (v := .tuple #[.agg #[.int .u8 (k.toNat : Int), .string ⟨#[]⟩], .int .i64 0, .bool false, .int .i64 5]) (by simp [results, Try.results36, n0, n1, go_sem]) rfl ⟨retn_stop _ _ _, by first | exact ((bel2 hb1).setCell (Nat.le_refl _) _).setCell (Nat.le_refl _) _ | exact ((((bel2 hb1).setCell (Nat.le_succ _) _).setCell (Nat.le_refl _) _).setCell (Nat.le_refl _) _) | exact ((((bel2 hb1).setCell (Nat.le_refl _) _).setCell (Nat.le_refl _) _).setCell (Nat.le_succ _) _)⟩

set_option maxHeartbeats 1000000 in
theorem next_khigh_false (g : Nat) (l : List UInt8) (x : Int) (w : World) (h : RRd w g l false x) (hl : l.length ≤ 1099511627776) (hs : 5 ≤ l.length) (hk : 126 < (kindL l false).toNat) :
    Calls Try.prog 36 #[.pointer (some ⟨g, 0, none⟩)] w fun e w' => RetN ((0, []), 0, 5) e ∧ Below w.heap.size w w' := by
  unfold RRd at h
  have r0 : w.cell? ⟨g, 0, none⟩ = some (.string (ba l)) := h.cell 0
  have r1 : w.cell? ⟨g, 1, none⟩ = some (.bool false) := h.cell 1
  have hlt := h.lt
  have hsz : 0 < (ba l).size := by rw [ba_size]; omega
  have hkd := ba_head l (by omega) hsz
  have d := fun w => num_ref l false w hs hl 1 rfl
  rw [show ((bodyN false : Nat) : Int) = 5 from rfl] at d
  have kc : decide (((kindL l false).toNat : Int) < 33) = false := by simp; omega
  have kd : decide ((126 : Int) < ((kindL l false).toNat : Int)) = true := by simp; omega
  clear hk
  generalize numL l false = z at *
  generalize kindL l false = k at *
  go_enter Try.func36, Try.ntmps36
  go_wp2_with (first | (go_at_call 56; refine (d _).mono ?_; rintro e w1 ⟨rfl, hb1⟩; obtain ⟨q0, q1, p0, p1, pf, n0, n1, nf, hz1⟩ := after_call h hb1))
  refine bodyPost_ret (v := .tuple #[.agg #[.int .u8 (k.toNat : Int), .string ⟨#[]⟩], .int .i64 0, .bool false, .int .i64 5]) (by simp [results, Try.results36, n0, n1, go_sem]) rfl ⟨retn_stop _ _ _, by first | exact ((bel2 hb1).setCell (Nat.le_refl _) _).setCell (Nat.le_refl _) _ | exact ((((bel2 hb1).setCell (Nat.le_succ _) _).setCell (Nat.le_refl _) _).setCell (Nat.le_refl _) _) | exact ((((bel2 hb1).setCell (Nat.le_refl _) _).setCell (Nat.le_refl _) _).setCell (Nat.le_succ _) _)⟩

set_option maxHeartbeats 1000000 in
theorem next_small_false (g : Nat) (l : List UInt8) (x : Int) (w : World) (h : RRd w g l false x) (hl : l.length ≤ 1099511627776) (hs : 5 ≤ l.length) (hk : namedB (kindL l false) = true) (h1 : numL l false < 4) :
    Calls Try.prog 36 #[.pointer (some ⟨g, 0, none⟩)] w fun e w' => RetN ((0, []), 0, 4) e ∧ Below w.heap.size w w' := by
  unfold RRd at h
  have r0 : w.cell? ⟨g, 0, none⟩ = some (.string (ba l)) := h.cell 0
  have r1 : w.cell? ⟨g, 1, none⟩ = some (.bool false) := h.cell 1
  have hlt := h.lt
  have hsz : 0 < (ba l).size := by rw [ba_size]; omega
  have hkd := ba_head l (by omega) hsz
  have d := fun w => num_ref l false w hs hl 1 rfl
  rw [show ((bodyN false : Nat) : Int) = 5 from rfl] at d
  have hk2 : 33 ≤ (kindL l false).toNat ∧ (kindL l false).toNat ≤ 126 := by simpa [namedB] using hk
  obtain ⟨ka, kb⟩ := hk2
  have kc : decide (((kindL l false).toNat : Int) < 33) = false := by simp; omega
  have kd : decide ((126 : Int) < ((kindL l false).toNat : Int)) = false := by simp; omega
  clear hk
  generalize numL l false = z at *
  generalize kindL l false = k at *
  go_enter Try.func36, Try.ntmps36
  go_wp2_with (first | (go_at_call 56; refine (d _).mono ?_; rintro e w1 ⟨rfl, hb1⟩; obtain ⟨q0, q1, p0, p1, pf, n0, n1, nf, hz1⟩ := after_call h hb1))
  refine bodyPost_ret (v := .tuple #[.agg #[.int .u8 (k.toNat : Int), .string ⟨#[]⟩], .int .i64 0, .bool false, .int .i64 4]) (by simp [results, Try.results36, n0, n1, go_sem]) rfl ⟨retn_stop _ _ _, by first | exact ((bel2 hb1).setCell (Nat.le_refl _) _).setCell (Nat.le_refl _) _ | exact ((((bel2 hb1).setCell (Nat.le_succ _) _).setCell (Nat.le_refl _) _).setCell (Nat.le_refl _) _) | exact ((((bel2 hb1).setCell (Nat.le_refl _) _).setCell (Nat.le_refl _) _).setCell (Nat.le_succ _) _)⟩

set_option maxHeartbeats 1000000 in
theorem next_big_false (g : Nat) (l : List UInt8) (x : Int) (w : World) (h : RRd w g l false x) (hl : l.length ≤ 1099511627776) (hs : 5 ≤ l.length) (hk : namedB (kindL l false) = true) (h1 : 4096 < numL l false) :
    Calls Try.prog 36 #[.pointer (some ⟨g, 0, none⟩)] w fun e w' => RetN ((0, []), 0, 2) e ∧ Below w.heap.size w w' := by
  unfold RRd at h
  have r0 : w.cell? ⟨g, 0, none⟩ = some (.string (ba l)) := h.cell 0
  have r1 : w.cell? ⟨g, 1, none⟩ = some (.bool false) := h.cell 1
  have hlt := h.lt
  have hsz : 0 < (ba l).size := by rw [ba_size]; omega
  have hkd := ba_head l (by omega) hsz
  have d := fun w => num_ref l false w hs hl 1 rfl
  rw [show ((bodyN false : Nat) : Int) = 5 from rfl] at d
  have hk2 : 33 ≤ (kindL l false).toNat ∧ (kindL l false).toNat ≤ 126 := by simpa [namedB] using hk
  obtain ⟨ka, kb⟩ := hk2
  have kc : decide (((kindL l false).toNat : Int) < 33) = false := by simp; omega
  have kd : decide ((126 : Int) < ((kindL l false).toNat : Int)) = false := by simp; omega
  clear hk
  generalize numL l false = z at *
  generalize kindL l false = k at *
  go_enter Try.func36, Try.ntmps36
  go_wp2_with (first | (go_at_call 56; refine (d _).mono ?_; rintro e w1 ⟨rfl, hb1⟩; obtain ⟨q0, q1, p0, p1, pf, n0, n1, nf, hz1⟩ := after_call h hb1))
  refine bodyPost_ret (v := .tuple #[.agg #[.int .u8 (k.toNat : Int), .string ⟨#[]⟩], .int .i64 0, .bool false, .int .i64 2]) (by simp [results, Try.results36, n0, n1, go_sem]) rfl ⟨retn_stop _ _ _, by first | exact ((bel2 hb1).setCell (Nat.le_refl _) _).setCell (Nat.le_refl _) _ | exact ((((bel2 hb1).setCell (Nat.le_succ _) _).setCell (Nat.le_refl _) _).setCell (Nat.le_refl _) _) | exact ((((bel2 hb1).setCell (Nat.le_refl _) _).setCell (Nat.le_refl _) _).setCell (Nat.le_succ _) _)⟩

set_option maxHeartbeats 1000000 in
theorem next_wait_false (g : Nat) (l : List UInt8) (x : Int) (w : World) (h : RRd w g l false x) (hl : l.length ≤ 1099511627776) (hs : 5 ≤ l.length) (hk : namedB (kindL l false) = true) (h1 : 4 ≤ numL l false) (h2 : numL l false ≤ 4096) (h3 : (l.length : Int) < (bodyN false : Int) + (numL l false - 4)) :
    Calls Try.prog 36 #[.pointer (some ⟨g, 0, none⟩)] w fun e w' => RetN ((0, []), 0, 0) e ∧ Below w.heap.size w w' := by
  unfold RRd at h
  have r0 : w.cell? ⟨g, 0, none⟩ = some (.string (ba l)) := h.cell 0
  have r1 : w.cell? ⟨g, 1, none⟩ = some (.bool false) := h.cell 1
  have hlt := h.lt
  have hsz : 0 < (ba l).size := by rw [ba_size]; omega
  have hkd := ba_head l (by omega) hsz
  have d := fun w => num_ref l false w hs hl 1 rfl
  rw [show ((bodyN false : Nat) : Int) = 5 from rfl] at d
  have d2 := fun w => bytes_short l false w hl hs (numL l false) h1 h3
  rw [show ((bodyN false : Nat) : Int) = 5 from rfl] at d2 h3
  have hk2 : 33 ≤ (kindL l false).toNat ∧ (kindL l false).toNat ≤ 126 := by simpa [namedB] using hk
  obtain ⟨ka, kb⟩ := hk2
  have kc : decide (((kindL l false).toNat : Int) < 33) = false := by simp; omega
  have kd : decide ((126 : Int) < ((kindL l false).toNat : Int)) = false := by simp; omega
  clear hk
  generalize numL l false = z at *
  generalize kindL l false = k at *
  go_enter Try.func36, Try.ntmps36
  go_wp2_with (first | (go_at_call 56; refine (d _).mono ?_; rintro e w1 ⟨rfl, hb1⟩; obtain ⟨q0, q1, p0, p1, pf, n0, n1, nf, hz1⟩ := after_call h hb1) | (go_at_call 69; refine (d2 _).mono ?_; rintro e w2 ⟨rfl, rfl⟩))
  refine bodyPost_ret (v := .tuple #[.agg #[.int .u8 (k.toNat : Int), .string ⟨#[]⟩], .int .i64 0, .bool false, .int .i64 0]) (by simp [results, Try.results36, n0, n1, go_sem]) rfl ⟨retn_stop _ _ _, by first | exact ((bel2 hb1).setCell (Nat.le_refl _) _).setCell (Nat.le_refl _) _ | exact ((((bel2 hb1).setCell (Nat.le_succ _) _).setCell (Nat.le_refl _) _).setCell (Nat.le_refl _) _) | exact ((((bel2 hb1).setCell (Nat.le_refl _) _).setCell (Nat.le_refl _) _).setCell (Nat.le_succ _) _)⟩

set_option maxHeartbeats 1000000 in
theorem next_msg_false (g : Nat) (l : List UInt8) (x : Int) (w : World) (h : RRd w g l false x) (hl : l.length ≤ 1099511627776) (hs : 5 ≤ l.length) (hk : namedB (kindL l false) = true) (h1 : 4 ≤ numL l false) (h2 : numL l false ≤ 4096) (h3 : (bodyN false : Int) + (numL l false - 4) ≤ (l.length : Int)) :
    Calls Try.prog 36 #[.pointer (some ⟨g, 0, none⟩)] w fun e w' => RetN ((kindL l false, (l.drop 5).take ((numL l false).toNat - 4)), 5 - 4 + (numL l false).toNat, 0) e ∧ Below w.heap.size w w' := by
  unfold RRd at h
  have r0 : w.cell? ⟨g, 0, none⟩ = some (.string (ba l)) := h.cell 0
  have r1 : w.cell? ⟨g, 1, none⟩ = some (.bool false) := h.cell 1
  have hlt := h.lt
  have hsz : 0 < (ba l).size := by rw [ba_size]; omega
  have hkd := ba_head l (by omega) hsz
  have d := fun w => num_ref l false w hs hl 1 rfl
  rw [show ((bodyN false : Nat) : Int) = 5 from rfl] at d
  have d2 := fun w => bytes_ref l false w hl (numL l false) h1 h3
  rw [show ((bodyN false : Nat) : Int) = 5 from rfl] at d2 h3
  rw [show bodyN false = 5 from rfl] at d2
  have hk2 : 33 ≤ (kindL l false).toNat ∧ (kindL l false).toNat ≤ 126 := by simpa [namedB] using hk
  obtain ⟨ka, kb⟩ := hk2
  have kc : decide (((kindL l false).toNat : Int) < 33) = false := by simp; omega
  have kd : decide ((126 : Int) < ((kindL l false).toNat : Int)) = false := by simp; omega
  clear hk
  generalize numL l false = z at *
  have hE := Lib.hid (show ((5 - 4 + z.toNat : Nat) : Int) = 5 + (z - 4) by omega)
  have hE0 := Lib.hid (show 5 - 4 + z.toNat ≠ 0 by omega)
  obtain ⟨t, ht⟩ : ∃ t, (l.drop 5).take (z.toNat - 4) = t := ⟨_, rfl⟩
  rw [ht] at d2 ⊢
  clear ht
  generalize kindL l false = k at *
  go_enter Try.func36, Try.ntmps36
  go_wp2_with (first | (go_at_call 56; refine (d _).mono ?_; rintro e w1 ⟨rfl, hb1⟩; obtain ⟨q0, q1, p0, p1, pf, n0, n1, nf, hz1⟩ := after_call h hb1) | (go_at_call 69; refine (d2 _).mono ?_; rintro e w2 ⟨rfl, rfl⟩))
  refine bodyPost_ret (v := .tuple #[.agg #[.int .u8 (k.toNat : Int), .string (ba t)], .int .i64 (5 + (z - 4)), .bool true, .int .i64 0]) (by simp [results, Try.results36, n0, n1, go_sem]) rfl ⟨⟨fun e => absurd e hE0.out, fun _ => by show _ = Ending.returned (.tuple #[.agg #[u8 _, .string (ba t)], .int .i64 ((5 - 4 + z.toNat : Nat) : Int), .bool true, .int .i64 0]); rw [hE.out]; rfl⟩, by first | exact ((bel2 hb1).setCell (Nat.le_refl _) _).setCell (Nat.le_refl _) _ | exact ((((bel2 hb1).setCell (Nat.le_succ _) _).setCell (Nat.le_refl _) _).setCell (Nat.le_refl _) _) | exact ((((bel2 hb1).setCell (Nat.le_refl _) _).setCell (Nat.le_refl _) _).setCell (Nat.le_succ _) _)⟩

theorem next_any (g : Nat) (l : List UInt8) (f : Bool) (x : Int) (w : World) (h : RRd w g l f x) (hl : l.length ≤ 1099511627776) :
    Calls Try.prog 36 #[.pointer (some ⟨g, 0, none⟩)] w fun e w' => RetN (aheadL l f) e ∧ Below w.heap.size w w' := by
  have hb := bodyN_pos f
  by_cases h1 : l.length < bodyN f
  · have e : aheadL l f = ((0, []), 0, 0) := by unfold aheadL; rw [if_pos h1]
    rw [e]
    cases f
    · cases l with
      | nil => exact next_none g x w h
      | cons y l => exact next_short_false g (y :: l) x w h hl h1 (by simp)
    · exact next_short_true g l x w h hl h1
  · by_cases h2 : f = false ∧ namedB (kindL l f) = false
    · have e : aheadL l f = ((0, []), 0, 5) := by unfold aheadL; rw [if_neg h1, if_pos h2]
      rw [e]
      obtain ⟨rfl, hk⟩ := h2
      have hs : 5 ≤ l.length := by simp [bodyN] at h1; omega
      by_cases hlow : (kindL l false).toNat < 33
      · exact next_klow_false g l x w h hl hs hlow
      · exact next_khigh_false g l x w h hl hs (by simp [namedB] at hk; omega)
    · by_cases h3 : numL l f < 4
      · have e : aheadL l f = ((0, []), 0, 4) := by unfold aheadL; rw [if_neg h1, if_neg h2, if_pos h3]
        rw [e]
        cases f
        · exact next_small_false g l x w h hl (by simp [bodyN] at h1; omega) (by simpa using h2) h3
        · exact next_small_true g l x w h hl (by simp [bodyN] at h1; omega) h3
      · by_cases h4 : 4096 < numL l f
        · have e : aheadL l f = ((0, []), 0, 2) := by unfold aheadL; rw [if_neg h1, if_neg h2, if_neg h3, if_pos h4]
          rw [e]
          cases f
          · exact next_big_false g l x w h hl (by simp [bodyN] at h1; omega) (by simpa using h2) h4
          · exact next_big_true g l x w h hl (by simp [bodyN] at h1; omega) h4
        · by_cases h5 : l.length < bodyN f - 4 + (numL l f).toNat
          · have e : aheadL l f = ((0, []), 0, 0) := by unfold aheadL; rw [if_neg h1, if_neg h2, if_neg h3, if_neg h4, if_pos h5]
            rw [e]
            cases f
            · exact next_wait_false g l x w h hl (by simp [bodyN] at h1; omega) (by simpa using h2) (by omega) (by omega) (by omega)
            · exact next_wait_true g l x w h hl (by simp [bodyN] at h1; omega) (by omega) (by omega) (by omega)
          · have e : aheadL l f = ((kindL l f, (l.drop (bodyN f)).take ((numL l f).toNat - 4)), bodyN f - 4 + (numL l f).toNat, 0) := by unfold aheadL; rw [if_neg h1, if_neg h2, if_neg h3, if_neg h4, if_neg h5]
            rw [e]
            cases f
            · exact next_msg_false g l x w h hl (by simp [bodyN] at h1; omega) (by simpa using h2) (by omega) (by omega) (by omega)
            · exact next_msg_true g l x w h hl (by simp [bodyN] at h1; omega) (by omega) (by omega) (by omega)
end Go.Proofs.Ytnjifbgjglniaaa
