/- What the document's own reader at layer 2 tells of every text that it is fed: just what package frame tells. Condition: what waits and what is fed are together of at most 2^40 bytes. -/
import Derived.Test.YtnjifbgjglniaaaBkf2
namespace Go.Proofs.Ytnjifbgjglniaaa
open Go.ChangeShapes Go.WideShapes Go.ChangeAt Go.RowKit
set_option linter.unusedVariables false

def RFeedPost (g : Nat) (r : List Msg × List UInt8 × Bool × Int) (w : World) (e : Ending) (w' : World) : Prop :=
  ∃ v, e = .returned (.tuple #[v, .int .i64 r.2.2.2]) ∧ Msgs w' w.heap.size v r.1 ∧ RRd w' g r.2.1 r.2.2.1 r.2.2.2 ∧ w.grownBy w' (some g)

theorem rfeed_bad (g : Nat) (s : ByteArray) (w : World) (l : List UInt8) (f : Bool) (x : Int) (h : RRd w g l f x) (hx : x ≠ 0) :
    Calls Try.prog 19 #[.pointer (some ⟨g, 0, none⟩), .string s] w (RFeedPost g (fed l f x s.data.toList) w) := by
  have e : fed l f x s.data.toList = ([], l, f, x) := by unfold fed; rw [if_neg hx]
  rw [e]; clear e
  have h' := h
  unfold RRd at h'
  have hb : (x != 0) = true := by simpa using hx
  have r2 : w.cell? ⟨g, 2, none⟩ = some (.int .i64 x) := h'.cell 2
  clear hx h'
  go_enter Try.func19, Try.ntmps19
  go_wp2
  go_quiet (fail)
  go_wp2
  refine bodyPost_ret (v := .tuple #[.slice none 0 0, .int .i64 x]) (by simp [results, Try.results19, go_sem]) rfl ?_
  exact ⟨_, rfl, World.ownsRow_nil _ _ _ _, h, gb_below (gb_refl _ _) (below_drewN (Below.refl _ _) _)⟩

/-- what holds in the document's Feed, while it goes on: out is v6 -/
structure RInv (g : Nat) (w0 : World) (l : List UInt8) (ms : List Msg) (f : Bool) (v6 : Value) (wr : World) : Prop where
  whole : Msgs wr w0.heap.size v6 ms
  self : Blk wr g 44 #[.string (ba l), .bool f, .int .i64 0]
  grown : w0.grownBy wr (some g)
section
variable {g : Nat} {w0 w2 : World} {l : List UInt8} {ms : List Msg} {f : Bool} {v6 : Value} {wr : World}
theorem RInv.below (h : RInv g w0 l ms f v6 wr) (hb : Below wr.heap.size wr w2) : RInv g w0 l ms f v6 w2 :=
  ⟨h.whole.kept (row := none) ⟨hb.os, hb.tape, hb.output, hb.size, fun k hk _ => hb.block k hk⟩ (by cases hv : v6.ownBlock <;> simp),
   h.self.below hb h.self.lt, gb_below h.grown hb⟩
theorem RInv.alloc (h : RInv g w0 l ms f v6 wr) (o : Obj) : RInv g w0 l ms f v6 (wr.alloc o) := h.below ((Below.refl _ _).alloc (Nat.le_refl _) o)
theorem RInv.own_ne (h : RInv g w0 l ms f v6 wr) : v6.ownBlock ≠ some g := by
  rcases h.whole.2 with ⟨rfl, _⟩ | ⟨g', cap, cur, rfl, _, hh, _⟩
  · simp [Value.ownBlock]
  · intro he
    have : g' = g := by simpa [Value.ownBlock] using he
    subst this
    have hs := h.self
    unfold Blk at hs
    rw [hh] at hs
    injection hs with hs
    injection hs with _ ht
    exact absurd ht (by decide)
theorem RInv.more {v9 : Value} {k : UInt8} {b : List UInt8} (h : RInv g w0 l ms f v6 wr) (hg : wr.grownBy w2 v6.ownBlock)
    (hw : w2.ownsRow w0.heap.size 23 2 v9 (ms.length + 1) (allCells ms ++ [u8 k, .string (ba b)])) : RInv g w0 l (ms ++ [(k, b)]) f v9 w2 := by
  refine ⟨?_, h.self.grown hg (fun e => h.own_ne e.symm), gb_grown h.grown hg (fun i e => .inr ((h.whole.lt i e).1))⟩
  show w2.ownsRow _ _ _ _ (ms ++ [(k, b)]).length (allCells (ms ++ [(k, b)]))
  rw [allCells_snoc, List.length_append]
  exact hw
theorem RInv.next (h : RInv g w0 l ms f v6 wr) (size : Nat) : RInv g w0 (l.drop size) ms false v6 ((wr.setCell ⟨g, 0, none⟩ (.string ((ba l).extract size (ba l).size))).setCell ⟨g, 1, none⟩ (.bool false)) := by
  have e : (ba l).extract size (ba l).size = ba (l.drop size) := by
    rw [ba_extract, ba_size, List.take_of_length_le (by rw [List.length_drop]; omega)]
  rw [e]
  exact ⟨h.whole.kept (row := some g) (gb_set (gb_set (gb_refl _ _) _ _) _ _) (.inr h.own_ne), (h.self.set_ 0 _).set_ 1 _, gb_set (gb_set h.grown _ _) _ _⟩
theorem RInv.bad {er : Int} (h : RInv g w0 l ms f v6 wr) : RFeedPost g (ms, l, f, er) w0 (.returned (.tuple #[v6, .int .i64 er])) (wr.setCell ⟨g, 2, none⟩ (.int .i64 er)) :=
  ⟨v6, rfl, h.whole.kept (row := some g) (gb_set (gb_refl _ _) _ _) (.inr h.own_ne), h.self.set_ 2 _, gb_set h.grown _ _⟩
theorem RInv.done (h : RInv g w0 l ms f v6 wr) : RFeedPost g (ms, l, f, 0) w0 (.returned (.tuple #[v6, .int .i64 0])) wr := ⟨v6, rfl, h.whole, h.self, h.grown⟩
theorem RFeedPost.alloc {r : List Msg × List UInt8 × Bool × Int} {w w' : World} {e : Ending} (h : RFeedPost g r w e w') (o : Obj) : RFeedPost g r w e (w'.alloc o) := by
  obtain ⟨v, he, hm, hb, hg⟩ := h
  exact ⟨v, he, World.ownsRow.alloc hm o, Blk.alloc hb o, gb_alloc hg o⟩
end

def lenC (w : World) (g : Nat) : Nat := match w.cell? ⟨g, 0, none⟩ with | some (.string s) => s.size | _ => 0
theorem lenC_of {w : World} {g : Nat} {l : List UInt8} {t : TypeId} {a b : Value} (h : Blk w g t #[.string (ba l), a, b]) : lenC w g = l.length := by
  unfold lenC
  rw [h.cell 0]
  exact ba_size l

def RFeedRel (g : Nat) (w0 : World) (F : List Msg × List UInt8 × Bool × Int) (n : Nat) (v6 : Value) (wr : World) : Prop :=
  ∃ l ms f, RInv g w0 l ms f v6 wr ∧ F = (ms ++ (feedL l f).1, (feedL l f).2) ∧ l.length + ms.length * 4 ≤ n

theorem next_stop {w : World} {g : Nat} {r : Msg × Nat × Int} (h : Calls Try.prog 36 #[.pointer (some ⟨g, 0, none⟩)] w fun e w' => RetN r e ∧ Below w.heap.size w w') (hz : r.2.1 = 0) :
    Calls Try.prog 36 #[.pointer (some ⟨g, 0, none⟩)] w fun e w' => (∃ (k : Int) (b : ByteArray) (n : Int), e = .returned (.tuple #[.agg #[.int .u8 k, .string b], .int .i64 n, .bool false, .int .i64 r.2.2])) ∧ Below w.heap.size w w' :=
  h.mono (fun e w' ⟨h1, h2⟩ => ⟨h1.1 hz, h2⟩)
theorem next_msg {w : World} {g : Nat} {r : Msg × Nat × Int} (h : Calls Try.prog 36 #[.pointer (some ⟨g, 0, none⟩)] w fun e w' => RetN r e ∧ Below w.heap.size w w') (hz : r.2.1 ≠ 0) :
    Calls Try.prog 36 #[.pointer (some ⟨g, 0, none⟩)] w fun e w' => e = .returned (.tuple #[.agg #[.int .u8 (r.1.1.toNat : Int), .string (ba r.1.2)], .int .i64 (r.2.1 : Nat), .bool true, .int .i64 0]) ∧ Below w.heap.size w w' :=
  h.mono (fun e w' ⟨h1, h2⟩ => ⟨h1.2 hz, h2⟩)

set_option maxHeartbeats 2000000 in
theorem rfeed_ok (g : Nat) (s : ByteArray) (w : World) (l : List UInt8) (f : Bool) (h : RRd w g l f 0) (hl : l.length + s.size ≤ 1099511627776) :
    Calls Try.prog 19 #[.pointer (some ⟨g, 0, none⟩), .string s] w (RFeedPost g (feedL (l ++ s.data.toList) f) w) := by
  obtain ⟨iM, hiM, hzM, hsM, hbM⟩ := info_parts infoM
  have h' := h
  unfold RRd at h'
  have r0 : w.cell? ⟨g, 0, none⟩ = some (.string (ba l)) := h'.cell 0
  have r2 : w.cell? ⟨g, 2, none⟩ = some (.int .i64 0) := h'.cell 2
  have fz := fun i => h'.frozen i
  have hlt := h'.lt
  have hsz : (ba l).size + s.size ≤ 1099511627776 := by rw [ba_size]; exact hl
  go_enter Try.func19, Try.ntmps19
  go_wp2
  go_loopw [6] (RFeedRel g w (feedL (l ++ s.data.toList) f) (l.length + s.size)) (fun _ wr => lenC wr g)
  case atStart =>
    refine ⟨l ++ s.data.toList, [], f, ⟨World.ownsRow_nil _ _ _ _, ?_, gb_set (gb_refl _ _) _ _⟩, rfl, ?_⟩
    · have := h'.set_ 0 (.string (ba l ++ s))
      rw [show ba l ++ s = ba (l ++ s.data.toList) by rw [← ba_append, ba_of]] at this
      exact this
    · rw [List.length_append, ← Lib.size_eq]; simp
  case round =>
    obtain ⟨l2, ms, f2, hI, hF, hn⟩ := hrel
    obtain ⟨a6, cap6, rfl⟩ := msgs_form hI.whole
    have hlr := hI.self.lt
    have ha := next_any g l2 f2 0 wr hI.self (by omega)
    clear h h' r0 r2 fz hsz
    by_cases hz : (aheadL l2 f2).2.1 = 0
    · have hst := feedL_stop hz
      rw [hst] at hF
      have hd := next_stop ha hz
      obtain ⟨er, he⟩ : ∃ er, (aheadL l2 f2).2.2 = er := ⟨_, rfl⟩
      rw [he] at hd hF
      rw [List.append_nil] at hF
      have HF := Lib.hid hF
      clear hF hst he hz ha
      by_cases her : er = 0
      · subst her
        go_wp2_with (go_at_call 36; refine hd.mono ?_; rintro e w2 ⟨⟨k, b, n, rfl⟩, hb2⟩; have hI2 := hI.below hb2; have e2 : w2.cell? ⟨g, 2, none⟩ = some (.int .i64 0) := hI2.self.cell 2; have fz2 := fun i => hI2.self.frozen i; have hg2 := hI2.self.lt)
        refine bodyPost_ret (v := .tuple #[.slice a6 ms.length cap6, .int .i64 0]) (by simp [results, Try.results19, go_sem]) rfl ?_
        rw [HF.out]
        exact hI2.done.alloc _
      · have herb : (er != 0) = true := by simpa using her
        clear her
        go_wp2_with (go_at_call 36; refine hd.mono ?_; rintro e w2 ⟨⟨k, b, n, rfl⟩, hb2⟩; have hI2 := hI.below hb2; have e2 : w2.cell? ⟨g, 2, none⟩ = some (.int .i64 0) := hI2.self.cell 2; have fz2 := fun i => hI2.self.frozen i; have hg2 := hI2.self.lt)
        refine bodyPost_ret (v := .tuple #[.slice a6 ms.length cap6, .int .i64 er]) (by simp [results, Try.results19, go_sem]) rfl ?_
        rw [HF.out]
        exact hI2.bad.alloc _
    · have hp := ahead_pos hz
      have hst := feedL_step hz
      have hd := next_msg ha hz
      obtain ⟨size, hsz⟩ : ∃ n, (aheadL l2 f2).2.1 = n := ⟨_, rfl⟩
      obtain ⟨k, b, hm⟩ : ∃ k b, (aheadL l2 f2).1 = (k, b) := ⟨_, _, rfl⟩
      rw [hm, hsz] at hd hst
      rw [hst] at hF
      have hs4 : 4 ≤ size := by rw [← hsz]; exact hp.1
      have hsl : size ≤ (ba l2).size := by rw [← hsz, ba_size]; exact hp.2.2.1
      have HF := Lib.hid hF
      have HL := Lib.hid (lenC_of hI.self)
      have hsl2 : size ≤ l2.length := by rw [ba_size] at hsl; exact hsl
      clear hF hst hp hm hz hsz ha
      go_wp2_with (first
        | (go_at_call 36; refine hd.mono ?_; rintro e w2 ⟨rfl, hb2⟩; have hI2 := hI.below hb2)
        | (at_builtin; go_must (
           refine wpList_append_own _ rfl (.tmp 47) (.tmp 49) _ rfl w.heap.size 23 iM _ 2 24 Try.underlying45 hiM hzM hsM hbM rfl (by decide) _ ms.length (allCells ms) rfl ((hI2.alloc _).alloc _).whole ⟨w2.heap.size + 1, 0, none⟩ 1 1 [.int .u8 (k.toNat : Int), .string (ba b)] rfl rfl ?c1 ?c2 ?c3 ?c4 ?c5 ?_
           case c1 => exact cells2 w2 _ _ _ _
           case c2 => intro u hu; simp only [List.mem_cons, List.not_mem_nil, or_false] at hu; rcases hu with rfl | rfl <;> rfl
           case c3 => unfold maxLen; omega
           case c4 => omega
           case c5 => have := hI2.grown.size; simp; omega
           intro v9 w4 hown4 hgr4 _
           have hI4 := ((hI2.alloc _).alloc _).more hgr4 hown4
           have d0 : w4.cell? ⟨g, 0, none⟩ = some (.string (ba l2)) := hI4.self.cell 0
           have d1 : w4.cell? ⟨g, 1, none⟩ = some (.bool f2) := hI4.self.cell 1
           have fz4 := fun i => hI4.self.frozen i)))
      go_roundw
      case rel => exact ⟨_, _, _, hI4.next size, by rw [HF.out, List.append_assoc]; rfl, by rw [List.length_drop, List.length_append, List.length_singleton]; omega⟩
      case measure =>
        rw [HL.out]
        show lenC _ g < l2.length
        rw [lenC_of (hI4.next size).self, List.length_drop]; omega
end Go.Proofs.Ytnjifbgjglniaaa
