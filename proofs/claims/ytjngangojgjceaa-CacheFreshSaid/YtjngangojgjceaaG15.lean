/- Package expiry: Copy; a queue that is not there. Conditions: how many.
   A queue of package expiry as plain items, beside what it told. Conditions: how long keys are, how many sets there were.
   Layer 11's known is true. No condition.
   ExpiryNil: its walk. No condition.
   ExpirySame: its argument opened; its walk. No condition.
   Layer 11's lists of operations opened; a queue's copy beside it; two queues side by side. No condition.
   What is due and what stays, as plain lists: how many, each once. No program.
   The document's queue for expiry: items that the call owns; At, Next, Keys, Drop. Conditions: how many.
   The document's queue for expiry: Drop, Due. Conditions: how many.
   The document's queue for expiry: Set. Conditions: how many; by rising deadlines.
   Two queues side by side, the code's and the document's. No condition.
   The cache's state as plain data: what is put, used, dropped, ticked. No program; no condition.
   Package cache's map of entries: keys that are structs. Conditions: how long the parts of a key are.
   A cache beside what it told, as plain data: its blocks; what a step of its store, its queue, its map makes. Conditions: how long keys are, how many puts there were. -/
import Derived.Test.YtjngangojgjceaaG14
import Derived.Shelf.SlMaps.Clone
import Derived.Test.YtjngangojgjceaaG12
import Derived.Test.YtjngangojgjceaaG1
import Derived.Test.YtjngangojgjceaaG11
import Derived.Maps.Keyed
import Derived.DeepKeys4
import Derived.Maps.OwnSet
set_option linter.unusedSimpArgs false
set_option linter.unusedVariables false
namespace Go.Proofs.Ytjngangojgjceaa.EX
open Go.ChangeShapes Go.WideShapes Go.ChangeAt Go.RowKit Go.Maps Go.ChangeMaps
open Go.Proofs.Ytjngangojgjceaa.SL Go.Proofs.Ytjngangojgjceaa.RW
set_option maxRecDepth 100000
set_option linter.unusedVariables false
set_option linter.unusedSimpArgs false

def CopQ (B n : Nat) (x : Qx) (w : World) (e : Ending) (w' : World) : Prop := ∃ g' x', e = .returned (ptr g') ∧ QT B w' g' n x' ∧ x'.L = x.L ∧ (∀ b, x'.own g' b → w.heap.size ≤ b) ∧ Below w.heap.size w w'
set_option maxHeartbeats 2000000 in
theorem find_nil (w : World) (k : ByteArray) :
    Calls Try.prog 61 #[.pointer none, .string k] w (FinP none w) := by
  go_enter Try.func61, Try.ntmps61
  go_wp2_with fail
  refine (given_nil _).mono ?_
  rintro e w' ⟨rfl, rfl⟩
  go_wp2_with fail
  have hk : Bk (w.alloc (.cells #[.string ⟨#[]⟩, .int .i64 0, .int .i64 0] 118)) w.heap.size 118 #[.string ⟨#[]⟩, .int .i64 0, .int .i64 0] := Bk.new _ _ _
  have hb : Below w.heap.size w (w.alloc (.cells #[.string ⟨#[]⟩, .int .i64 0, .int .i64 0] 118)) := (Below.refl _ _).alloc (Nat.le_refl _) _
  obtain ⟨W, hW⟩ : ∃ W, w.alloc (.cells #[.string ⟨#[]⟩, .int .i64 0, .int .i64 0] 118) = W := ⟨_, rfl⟩
  rw [hW] at hk hb ⊢
  have e0 : W.cell? ⟨w.heap.size, 0, none⟩ = some (.string ⟨#[]⟩) := hk.cell 0
  have e1 : W.cell? ⟨w.heap.size, 1, none⟩ = some (.int .i64 0) := hk.cell 1
  have e2 : W.cell? ⟨w.heap.size, 2, none⟩ = some (.int .i64 0) := hk.cell 2
  exact bodyPost_ret (v := .tuple #[eV zE, .bool false]) (by simp [results, Try.results61, go_sem, e0, e1, e2]; exact ⟨rfl, rfl, rfl⟩) rfl ⟨rfl, hb⟩
set_option maxHeartbeats 2000000 in
theorem drop_nil (w : World) (k : ByteArray) :
    Calls Try.prog 58 #[.pointer none, .string k] w fun e w' => e = .returned (.bool false) ∧ Below w.heap.size w w' := by
  have HF := Lib.hid (find_nil w k)
  unfold FinP at HF
  go_enter Try.func58, Try.ntmps58
  go_wp2_with fail
  refine HF.out.mono ?_
  rintro e w2 ⟨rfl, hb2⟩
  have HB2 := Lib.hid hb2
  clear hb2
  go_wp2
  go_ret
  exact ⟨rfl, HB2.out.alloc HB2.out.size _⟩
set_option maxHeartbeats 2000000 in
theorem at_nil (w : World) (k : ByteArray) :
    Calls Try.prog 38 #[.pointer none, .string k] w fun e w' => e = .returned (.tuple #[.int .i64 0, .bool false]) ∧ Below w.heap.size w w' := by
  have HF := Lib.hid (find_nil w k)
  unfold FinP at HF
  go_enter Try.func38, Try.ntmps38
  go_wp2_with fail
  refine HF.out.mono ?_
  rintro e w2 ⟨rfl, hb2⟩
  have HB2 := Lib.hid hb2
  clear hb2
  go_wp2
  go_ret2
  exact ⟨rfl, HB2.out.alloc HB2.out.size _⟩
set_option maxHeartbeats 2000000 in
theorem find_zero (w : World) (k : ByteArray) (g : Nat) (h : w.cell? ⟨g, 0, none⟩ = some (.pointer none)) :
    Calls Try.prog 61 #[ptr g, .string k] w (FinP none w) := by
  have hz : (w.alloc (.cells #[.string ⟨#[]⟩, .int .i64 0, .int .i64 0] 118)).cell? ⟨g, 0, none⟩ = some (.pointer none) := ((show Below w.heap.size w _ from (Below.refl _ _).alloc (Nat.le_refl _) _).cell (p := ⟨g, 0, none⟩) (World.block_lt_of_cell? _ _ h)).trans h
  go_enter Try.func61, Try.ntmps61
  go_wp2_with fail
  refine (given_zero _ g hz).mono ?_
  rintro e w' ⟨rfl, rfl⟩
  go_wp2_with fail
  have hk : Bk (w.alloc (.cells #[.string ⟨#[]⟩, .int .i64 0, .int .i64 0] 118)) w.heap.size 118 #[.string ⟨#[]⟩, .int .i64 0, .int .i64 0] := Bk.new _ _ _
  have hb : Below w.heap.size w (w.alloc (.cells #[.string ⟨#[]⟩, .int .i64 0, .int .i64 0] 118)) := (Below.refl _ _).alloc (Nat.le_refl _) _
  obtain ⟨W, hW⟩ : ∃ W, w.alloc (.cells #[.string ⟨#[]⟩, .int .i64 0, .int .i64 0] 118) = W := ⟨_, rfl⟩
  rw [hW] at hk hb ⊢
  have e0 : W.cell? ⟨w.heap.size, 0, none⟩ = some (.string ⟨#[]⟩) := hk.cell 0
  have e1 : W.cell? ⟨w.heap.size, 1, none⟩ = some (.int .i64 0) := hk.cell 1
  have e2 : W.cell? ⟨w.heap.size, 2, none⟩ = some (.int .i64 0) := hk.cell 2
  exact bodyPost_ret (v := .tuple #[eV zE, .bool false]) (by simp [results, Try.results61, go_sem, e0, e1, e2]; exact ⟨rfl, rfl, rfl⟩) rfl ⟨rfl, hb⟩
set_option maxHeartbeats 2000000 in
theorem drop_zero (w : World) (k : ByteArray) (g : Nat) (h : w.cell? ⟨g, 0, none⟩ = some (.pointer none)) :
    Calls Try.prog 58 #[ptr g, .string k] w fun e w' => e = .returned (.bool false) ∧ Below w.heap.size w w' := by
  have HF := Lib.hid (find_zero w k g h)
  unfold FinP at HF
  go_enter Try.func58, Try.ntmps58
  go_wp2_with fail
  refine HF.out.mono ?_
  rintro e w2 ⟨rfl, hb2⟩
  have HB2 := Lib.hid hb2
  clear hb2
  go_wp2
  go_ret
  exact ⟨rfl, HB2.out.alloc HB2.out.size _⟩
set_option maxHeartbeats 2000000 in
theorem at_zero (w : World) (k : ByteArray) (g : Nat) (h : w.cell? ⟨g, 0, none⟩ = some (.pointer none)) :
    Calls Try.prog 38 #[ptr g, .string k] w fun e w' => e = .returned (.tuple #[.int .i64 0, .bool false]) ∧ Below w.heap.size w w' := by
  have HF := Lib.hid (find_zero w k g h)
  unfold FinP at HF
  go_enter Try.func38, Try.ntmps38
  go_wp2_with fail
  refine HF.out.mono ?_
  rintro e w2 ⟨rfl, hb2⟩
  have HB2 := Lib.hid hb2
  clear hb2
  go_wp2
  go_ret2
  exact ⟨rfl, HB2.out.alloc HB2.out.size _⟩
end Go.Proofs.Ytjngangojgjceaa.EX
namespace Go.Proofs.Ytjngangojgjceaa.EX
open Go.ChangeShapes Go.WideShapes Go.ChangeAt Go.RowKit Go.Maps Go.ChangeMaps
open Go.Proofs.Ytjngangojgjceaa.SL Go.Proofs.Ytjngangojgjceaa.RW
set_option maxRecDepth 100000
set_option linter.unusedVariables false
set_option linter.unusedSimpArgs false

theorem bel_drew {w w' : World} {m : Nat} (h : w' = w.drewN m) : Below w.heap.size w w' := by rw [h]; exact SL.below_drewN _ _ _
/-- at block g stands a queue with these items, made since w0, of so many sets; what O names lies apart -/
def LQ (w0 w : World) (g n : Nat) (I : List It) (O : List Kp) : Prop :=
  ∃ x, QT w0.heap.size w g n x ∧ x.L.map it = I ∧ Below w0.heap.size w0 w ∧ ∀ p ∈ O, p.ok w0.heap.size w (x.own g)
theorem fnd_atI (k : ByteArray) (L : List Et) : atI k (L.map it) = (fnd k L).map (·.2.1) := by
  unfold atI fnd
  rw [List.find?_map, Option.map_map]
  rfl
def AtI (o : Option Int) : Value := .tuple #[.int .i64 (o.getD 0), .bool o.isSome]
theorem at_I (k : ByteArray) (L : List Et) : AtV (fnd k L) = AtI (atI k (L.map it)) := by
  rw [fnd_atI]
  cases fnd k L with
  | none => rfl
  | some e => rfl
def NexI (o : Option It) : Value := .tuple #[.int .i64 (match o with | some e => e.2 | none => 0), .bool o.isSome]
theorem next_I (L : List Et) : NexV L.head? = NexI (L.map it).head? := by
  cases L with
  | nil => rfl
  | cons e L => rfl
section
variable {w0 w w' : World} {g n : Nat} {I : List It} {O : List Kp}
theorem LQ.bel (h : LQ w0 w g n I O) : Below w0.heap.size w0 w := by obtain ⟨x, _, _, h, _⟩ := h; exact h
theorem LQ.below (h : LQ w0 w g n I O) (hb : Below w.heap.size w w') : LQ w0 w' g n I O := by
  obtain ⟨x, h1, h2, h3, h4⟩ := h
  exact ⟨x, h1.below hb, h2, h3.trans (hb.mono h3.size), fun p hp => (h4 p hp).below hb⟩
theorem LQ.told (h : LQ w0 w g n I O) {v : Value} {d : List ByteArray} (hp : Kp.txt v d ∈ O) : OT w0.heap.size w v d := by obtain ⟨x, h1, h2, h3, h4⟩ := h; exact (h4 _ hp).1
theorem LQ.blk (h : LQ w0 w g n I O) {b : Nat} {t : TypeId} {cs : Array Value} (hp : Kp.blk b t cs ∈ O) : Bk w b t cs := by obtain ⟨x, h1, h2, h3, h4⟩ := h; exact (h4 _ hp).1
theorem LQ.forget (h : LQ w0 w g n I O) {O' : List Kp} (hO : ∀ p ∈ O', p ∈ O) : LQ w0 w g n I O' := by
  obtain ⟨x, h1, h2, h3, h4⟩ := h
  exact ⟨x, h1, h2, h3, fun p hp => h4 p (hO p hp)⟩
theorem LQ.nil (h : LQ w0 w g n I O) : LQ w0 w g n I [] := h.forget fun p hp => by cases hp
theorem LQ.box (h : LQ w0 w g n I O) (t : TypeId) (cs : Array Value) : LQ w0 (w.alloc (.cells cs t)) g n I (.blk w.heap.size t cs :: O) := by
  obtain ⟨x, h1, h2, h3, h4⟩ := h
  have hb : Below w.heap.size w (w.alloc (.cells cs t)) := (Below.refl _ _).alloc (Nat.le_refl _) _
  refine ⟨x, h1.below hb, h2, h3.trans (hb.mono h3.size), fun p hp => ?_⟩
  rcases List.mem_cons.1 hp with rfl | hp
  · exact ⟨Bk.new _ _ _, fun hx => by have := h1.lt hx; omega⟩
  · exact (h4 p hp).below hb
theorem LQ.add (h : LQ w0 w g n I O) (hb : Below w.heap.size w w') {v : Value} {d : List ByteArray} (hv : OT w.heap.size w' v d) : LQ w0 w' g n I (.txt v d :: O) := by
  obtain ⟨x, h1, h2, h3, h4⟩ := h
  refine ⟨x, h1.below hb, h2, h3.trans (hb.mono h3.size), fun p hp => ?_⟩
  rcases List.mem_cons.1 hp with rfl | hp
  · exact ⟨OT.mono hv h3.size, (h1.below hb).offT hv⟩
  · exact (h4 p hp).below hb
theorem LQ.si (h : LQ w0 w g n I O) : I.Pairwise (fun a b => a.2 ≤ b.2) ∧ (keysI I).Nodup ∧ I.length ≤ n := by
  obtain ⟨x, h1, rfl, _, _⟩ := h
  refine ⟨?_, ?_, by rw [List.length_map]; exact h1.le⟩
  · rw [List.pairwise_map]
    exact h1.sr.ord.imp fun {a b} hab => by
      show a.2.1 ≤ b.2.1
      unfold ltE at hab
      omega
  · have := h1.sr.uq
    unfold keysI
    rw [List.map_map]; exact this
theorem lq_step {x : Qx} {n' : Nat} {I' : List It} (h1 : QT w0.heap.size w g n x) (h3 : Below w0.heap.size w0 w) (h4 : ∀ p ∈ O, p.ok w0.heap.size w (x.own g)) (hs : StepQ w0.heap.size g n' x I' w w') : LQ w0 w' g n' I' O := by
  obtain ⟨x', q1, q2, q3, q4⟩ := hs
  refine ⟨x', q1, q2, below_chg h3 q4 (fun b hb => h1.ge hb), fun p hp => (h4 p hp).chg q4 fun b hb ho => (q3 b ho).elim id fun h => absurd hb (Nat.not_lt.2 h)⟩
theorem lq_new (w0 w : World) (h0 : Below w0.heap.size w0 w) : Calls Try.prog 31 #[] w fun e w' => ∃ g, e = .returned (ptr g) ∧ LQ w0 w' g 0 [] [] ∧ Below w.heap.size w w' := by
  refine (new_any w w0.heap.size h0.size).mono ?_
  rintro e w' ⟨g, x, rfl, h1, h2, h3, h4⟩
  exact ⟨g, rfl, ⟨x, h1, by rw [h2]; rfl, h0.trans (h4.mono h0.size), fun p hp => by cases hp⟩, h4⟩
theorem lq_set (h : LQ w0 w g n I O) (k : ByteArray) (hk : k.size ≤ 281474976710656) (t : Int) (ht : 0 ≤ t ∧ t ≤ 1099511627776) (hn : n ≤ 490) (I' : List It) (hI : setI k t I = I') :
    Calls Try.prog 35 #[ptr g, .string k, .int .i64 t] w fun e w' => e = .returned (.int .i64 0) ∧ LQ w0 w' g (n + 1) I' O := by
  obtain ⟨x, h1, rfl, h3, h4⟩ := h
  subst hI
  refine (set_any w w0.heap.size g n x h1 k hk t ht hn h3.size).mono ?_
  rintro e w' ⟨rfl, hs⟩
  exact ⟨rfl, lq_step h1 h3 h4 hs⟩
theorem lq_err (h : LQ w0 w g n I O) (k : ByteArray) (t : Int) (ht : ¬ (0 ≤ t ∧ t ≤ 1099511627776)) :
    Calls Try.prog 35 #[ptr g, .string k, .int .i64 t] w fun e w' => e = .returned (.int .i64 1) ∧ w = w' := by
  obtain ⟨x, h1, _⟩ := h
  exact set_err w w0.heap.size g n x h1 k t ht
theorem lq_drop (h : LQ w0 w g n I O) (k : ByteArray) (hk : k.size ≤ 281474976710656) (hn : n ≤ 500) (I' : List It) (hI : dropI k I = I') (b : Bool) (hb : (atI k I).isSome = b) :
    Calls Try.prog 58 #[ptr g, .string k] w fun e w' => e = .returned (.bool b) ∧ LQ w0 w' g n I' O := by
  obtain ⟨x, h1, rfl, h3, h4⟩ := h
  subst hI hb
  refine (drop_any w w0.heap.size g n x h1 k hk hn h3.size).mono ?_
  rintro e w' ⟨rfl, hs⟩
  refine ⟨?_, lq_step h1 h3 h4 hs⟩
  rw [fnd_atI, Option.isSome_map]
theorem lq_at (h : LQ w0 w g n I O) (k : ByteArray) (hk : k.size ≤ 281474976710656) (v : Value) (hv : AtI (atI k I) = v) :
    Calls Try.prog 38 #[ptr g, .string k] w fun e w' => e = .returned v ∧ Below w.heap.size w w' := by
  obtain ⟨x, h1, rfl, h3, h4⟩ := h
  exact at_any w w0.heap.size g n x h1 k hk v (by rw [at_I]; exact hv)
end
end Go.Proofs.Ytjngangojgjceaa.EX
namespace Go.Proofs.Ytjngangojgjceaa.EX
open Go.ChangeShapes Go.WideShapes Go.ChangeAt Go.RowKit Go.Maps Go.ChangeMaps
open Go.Proofs.Ytjngangojgjceaa.SL Go.Proofs.Ytjngangojgjceaa.RW
set_option maxRecDepth 100000
set_option linter.unusedVariables false
set_option linter.unusedSimpArgs false

theorem two_ts {w : World} {b : Nat} {k l : ByteArray} (h : Bk w b 9 #[.string k, .string l]) : TS w (.slice (some ⟨b, 0, none⟩) 2 2) [k, l] :=
  .inr ⟨b, 0, 2, rfl, Nat.le_refl _, fun i x hi => by
    match i, hi with
    | 0, hi => simp at hi; subst hi; exact h.cell 0
    | 1, hi => simp at hi; subst hi; exact h.cell 1⟩
theorem x1 : setI ka 5 [] = [(ka, 5)] := by kernel_rfl
theorem x2 : setI kb 3 [(ka, 5)] = [(kb, 3), (ka, 5)] := by kernel_rfl
theorem x3 : setI kc 5 [(kb, 3), (ka, 5)] = [(kb, 3), (ka, 5), (kc, 5)] := by kernel_rfl
theorem x4 : gtI 4 [(kb, 3), (ka, 5), (kc, 5)] = [(ka, 5), (kc, 5)] := by kernel_rfl
theorem x5 : keysI (leI 4 [(kb, 3), (ka, 5), (kc, 5)]) = [kb] := by kernel_rfl
theorem x6 : setI ka 5 [(ka, 5), (kc, 5)] = [(kc, 5), (ka, 5)] := by kernel_rfl
theorem x7 : AtI (atI kc [(kc, 5), (ka, 5)]) = .tuple #[.int .i64 5, .bool true] := by kernel_rfl
theorem x8 : dropI kc [(kc, 5), (ka, 5)] = [(ka, 5)] := by kernel_rfl
theorem x9 : dropI kc [(ka, 5)] = [(ka, 5)] := by kernel_rfl
theorem x10 : (atI kc [(kc, 5), (ka, 5)]).isSome = true := by kernel_rfl
theorem x11 : (atI kc [(ka, 5)]).isSome = false := by kernel_rfl
theorem iLe {l : List It} (h : l.all (fun y => decide (y.1.size ≤ 281474976710656)) = true) : ∀ y ∈ l, y.1.size ≤ 281474976710656 := fun y hy => of_decide_eq_true (List.all_eq_true.1 h y hy)
end Go.Proofs.Ytjngangojgjceaa.EX
namespace Go.Proofs.Ytjngangojgjceaa.EX
open Go.ChangeShapes Go.WideShapes Go.ChangeAt Go.RowKit Go.Maps Go.ChangeMaps
open Go.Proofs.Ytjngangojgjceaa.SL Go.Proofs.Ytjngangojgjceaa.RW
set_option maxRecDepth 100000
set_option linter.unusedVariables false
set_option linter.unusedSimpArgs false

theorem qzero (w : World) : Bk (w.alloc (.cells #[.pointer none, .int .i64 0, .map none, .slice none 0 0] 116)) w.heap.size 116 #[.pointer none, .int .i64 0, .map none, .slice none 0 0] := Bk.new _ _ _
end Go.Proofs.Ytjngangojgjceaa.EX
namespace Go.Proofs.Ytjngangojgjceaa.EX
open Go.ChangeShapes Go.WideShapes Go.ChangeAt Go.RowKit Go.Maps Go.ChangeMaps
open Go.Proofs.Ytjngangojgjceaa.SL Go.Proofs.Ytjngangojgjceaa.RW
set_option maxRecDepth 100000
set_option linter.unusedVariables false
set_option linter.unusedSimpArgs false

section
variable {H : Type} {enc : TypeId × Value → H} {W : World}
theorem one_txt {n : Nat} {cs : List Value} {x : DataW H × List MemPlace} (ht : DataW.trod enc Try.prog W 0 (fun _ => true) true n 9 cs = some x) : ∃ k : ByteArray, cs = [.string k] := by
  obtain ⟨x1, e1, _, _⟩ := DataW.trod_string Try.underlying9 ht
  exact ⟨x1, e1⟩
def FitsK (W : World) (v : Value) : Prop := ∃ l, TS W v l
theorem openedK {base : Nat} {v : Value} {d : DataW H} {p : List MemPlace} (hv : Value.okWide Try.prog W .any base 66 v)
    (h : DataW.Trod enc Try.prog W 0 (fun _ => true) true 66 v d p) (hz : (DataW.weights Try.prog 66 d).all (· ≤ reachBytes) = true) : FitsK W v := by
  obtain ⟨a, ln, cp, rfl⟩ := okWide_slice Try.underlying66 hv
  obtain ⟨fuel, hf⟩ := h
  rcases slice_any (α := ByteArray) (m := 1) (Q := fun k cs => cs = [.string k]) Try.underlying66 (by kernel_rfl) (fun ht => one_txt ht) hf with e | ⟨l, ad, cap, e, hc, h2⟩
  · rw [e]; exact ⟨[], .inl ⟨_, _, rfl, rfl⟩⟩
  · rw [e]
    refine ⟨l, ?_⟩
    by_cases h0 : l = []
    · subst h0; exact .inl ⟨_, _, rfl, rfl⟩
    · obtain ⟨x, hx0⟩ : ∃ x, l[0]? = some x := ⟨l[0]'(by cases l; exact absurd rfl h0; simp), List.getElem?_eq_getElem _⟩
      obtain ⟨cs, rfl, _, hat⟩ := h2 0 x hx0
      have c0 := hat 0 (by omega)
      have e0 : (ad.add (0 * 1)).add 0 = ad := by simp [Addr.add]
      rw [e0] at c0
      have hsp := spot_none (x := .string x) c0
      obtain ⟨bl, of, sp⟩ := ad
      simp only at hsp
      subst hsp
      refine .inr ⟨bl, of, cap, rfl, hc, fun i y hy => ?_⟩
      obtain ⟨cs, rfl, _, hat⟩ := h2 i y hy
      have a0 := hat 0 (by omega)
      simp only [Addr.add_lit, Nat.add_zero, Nat.mul_one] at a0
      exact a0
end
theorem ts_cell {w : World} {b o n c : Nat} {d : List ByteArray} (h : TS w (.slice (some ⟨b, o, none⟩) n c) d) {i : Nat} {x : ByteArray} (hi : d[i]? = some x) : w.cell? ⟨b, o + i, none⟩ = some (.string x) := by
  rcases h with ⟨_, _, _, rfl⟩ | ⟨g, off, cap, e, _, hx⟩
  · cases hi
  · injection e with e1 _ e3
    injection e1 with e1
    injection e1 with e1 e2
    subst e1 e2
    exact hx i x hi
/-- keys with one deadline -/
def sm (t : Int) (M : List ByteArray) : List It := M.map fun x => (x, t)
def upM (k : ByteArray) (M : List ByteArray) : List ByteArray := M.filter (fun x => decide (x ≠ k))
theorem keys_sm (t : Int) (M : List ByteArray) : keysI (sm t M) = M := by unfold keysI sm; rw [List.map_map]; exact List.map_id _
theorem le_sm {s t : Int} (h : t ≤ s) (M : List ByteArray) : leI s (sm t M) = sm t M := by
  unfold leI; rw [List.filter_eq_self]; intro y hy
  obtain ⟨x, _, rfl⟩ := List.mem_map.1 hy
  simp; omega
theorem gt_sm {s t : Int} (h : t ≤ s) (M : List ByteArray) : gtI s (sm t M) = [] := by
  unfold gtI; rw [List.filter_eq_nil_iff]; intro y hy
  obtain ⟨x, _, rfl⟩ := List.mem_map.1 hy
  simp; omega
theorem le_sm1 {s t : Int} (h : s < t) (M : List ByteArray) : leI s (sm t M) = [] := by
  unfold leI; rw [List.filter_eq_nil_iff]; intro y hy
  obtain ⟨x, _, rfl⟩ := List.mem_map.1 hy
  simp; omega
theorem gt_sm1 {s t : Int} (h : s < t) (M : List ByteArray) : gtI s (sm t M) = sm t M := by
  unfold gtI; rw [List.filter_eq_self]; intro y hy
  obtain ⟨x, _, rfl⟩ := List.mem_map.1 hy
  simp; omega
theorem drop_sm (k : ByteArray) (t : Int) (M : List ByteArray) : dropI k (sm t M) = sm t (upM k M) := by unfold dropI sm upM; rw [List.filter_map]; rfl
theorem set_sm (k : ByteArray) (t : Int) (M : List ByteArray) : setI k t (sm t M) = sm t (upM k M ++ [k]) := by
  unfold setI
  rw [drop_sm, le_sm (Int.le_refl _), gt_sm (Int.le_refl _)]
  unfold sm
  rw [List.map_append]; rfl
theorem up_len (k : ByteArray) (M : List ByteArray) : (upM k M).length ≤ M.length := List.length_filter_le _ _
theorem up_take_ne {k y : ByteArray} {M : List ByteArray} {j : Nat} (h : M[j]? = some y) (hy : y ≠ k) : upM k (M.take (j + 1)) = upM k (M.take j) ++ [y] := by
  unfold upM
  rw [List.take_add_one, h, List.filter_append]
  congr 1
  simp [hy]
theorem up_take_eq {k y : ByteArray} {M : List ByteArray} {j : Nat} (h : M[j]? = some y) (hy : y = k) : upM k (M.take (j + 1)) = upM k (M.take j) := by
  unfold upM
  rw [List.take_add_one, h, List.filter_append]
  simp [hy]
end Go.Proofs.Ytjngangojgjceaa.EX
namespace Go.Proofs.Ytjngangojgjceaa.EX
open Go.ChangeShapes Go.WideShapes Go.ChangeAt Go.RowKit Go.Maps Go.ChangeMaps
open Go.Proofs.Ytjngangojgjceaa.SL Go.Proofs.Ytjngangojgjceaa.RW
set_option maxRecDepth 100000
set_option linter.unusedVariables false
set_option linter.unusedSimpArgs false

section
variable {H : Type} {enc : TypeId × Value → H} {W : World}
end
def Kq (B g n : Nat) (y : Qx) : Kp := .keep (fun w => QT B w g n y) (y.own g)
section
variable {w0 w w' : World} {g n : Nat} {I : List It} {O : List Kp}
theorem LQ.turn {g2 n2 : Nat} {y : Qx} {J : List It} (h : LQ w0 w g n I O) (hm : Kq w0.heap.size g2 n2 y ∈ O) (hJ : y.L.map it = J) : ∃ x, x.L.map it = I ∧ LQ w0 w g2 n2 J [Kq w0.heap.size g n x] := by
  obtain ⟨x, h1, rfl, h3, h4⟩ := h
  obtain ⟨qy, hlt, _⟩ := h4 _ hm
  refine ⟨x, rfl, y, qy, hJ, h3, fun p hp => ?_⟩
  rw [List.mem_singleton] at hp
  subst hp
  exact ⟨h1, fun b hb => ⟨h1.lt hb, fun ho => (hlt b ho).2 hb⟩, fun w1 w2 p1 hk => p1.keep hk⟩
theorem LQ.other {g2 n2 : Nat} {y : Qx} {J : List It} (h : LQ w0 w g n I O) (hm : Kq w0.heap.size g2 n2 y ∈ O) (hJ : y.L.map it = J) : LQ w0 w g2 n2 J [] := by
  obtain ⟨x, _, h⟩ := h.turn hm hJ
  exact h.nil
open Classical in
noncomputable def setA (k : ByteArray) (t : Int) (I : List It) : List It := if 0 ≤ t ∧ t ≤ 1099511627776 then setI k t I else I
open Classical in
noncomputable def setC (t : Int) : Int := if 0 ≤ t ∧ t ≤ 1099511627776 then 0 else 1
def SetP (w0 : World) (g n : Nat) (k : ByteArray) (t : Int) (I : List It) (O : List Kp) (e : Ending) (w' : World) : Prop := e = .returned (.int .i64 (setC t)) ∧ ∃ n', n' ≤ n + 1 ∧ LQ w0 w' g n' (setA k t I) O
theorem lq_seta (h : LQ w0 w g n I O) (k : ByteArray) (hk : k.size ≤ 281474976710656) (t : Int) (hn : n ≤ 490) :
    Calls Try.prog 35 #[ptr g, .string k, .int .i64 t] w (SetP w0 g n k t I O) := by
  by_cases ht : 0 ≤ t ∧ t ≤ 1099511627776
  · refine (lq_set h k hk t ht hn _ rfl).mono ?_
    rintro e w' ⟨rfl, h2⟩
    exact ⟨by unfold setC; rw [if_pos ht], n + 1, Nat.le_refl _, by unfold setA; rw [if_pos ht]; exact h2⟩
  · refine (lq_err h k t ht).mono ?_
    rintro e w' ⟨rfl, rfl⟩
    exact ⟨by unfold setC; rw [if_neg ht], n, Nat.le_succ _, by unfold setA; rw [if_neg ht]; exact h⟩
end
theorem mem_setI {k : ByteArray} {t : Int} {I : List It} {e : It} (h : e ∈ setI k t I) : e = (k, t) ∨ e ∈ I := by
  unfold setI at h
  rcases List.mem_append.1 h with h | h
  · exact .inr (List.mem_filter.1 (List.mem_filter.1 h).1).1
  · rcases List.mem_cons.1 h with h | h
    · exact .inl h
    · exact .inr (List.mem_filter.1 (List.mem_filter.1 h).1).1
theorem mem_setA {k : ByteArray} {t : Int} {I : List It} {e : It} (h : e ∈ setA k t I) : e = (k, t) ∨ e ∈ I := by
  unfold setA at h
  split at h
  · exact mem_setI h
  · exact .inr h
def Short (I : List It) : Prop := ∀ y ∈ I, y.1.size ≤ 100
theorem Short.setA {k : ByteArray} {I : List It} (h : Short I) (hk : k.size ≤ 100) (t : Int) : Short (setA k t I) := fun y hy => by
  rcases mem_setA hy with rfl | hy
  · exact hk
  · exact h y hy
theorem Short.setI {k : ByteArray} {I : List It} (h : Short I) (hk : k.size ≤ 100) (t : Int) : Short (setI k t I) := fun y hy => by
  rcases mem_setI hy with rfl | hy
  · exact hk
  · exact h y hy
theorem Short.sub {I J : List It} (h : Short I) (hs : ∀ y ∈ J, y ∈ I) : Short J := fun y hy => h y (hs y hy)
theorem Short.dropI {I : List It} (h : Short I) (k : ByteArray) : Short (dropI k I) := h.sub fun y hy => (List.mem_filter.1 hy).1
theorem Short.gtI {I : List It} (h : Short I) (t : Int) : Short (gtI t I) := h.sub fun y hy => (List.mem_filter.1 hy).1
theorem Short.le {I : List It} (h : Short I) : ∀ y ∈ I, y.1.size ≤ 281474976710656 := fun y hy => by have := h y hy; omega
theorem atI_none {k : ByteArray} {I : List It} (h : ∀ e ∈ I, e.1 ≠ k) : atI k I = none := by
  unfold atI
  rw [List.find?_eq_none.2 (fun e he => by simpa using h e he)]; rfl
theorem no_drop {k : ByteArray} {I : List It} : ∀ e ∈ dropI k I, e.1 ≠ k := fun e he => by simpa using (List.mem_filter.1 he).2
theorem no_sub {k : ByteArray} {I J : List It} (h : ∀ e ∈ I, e.1 ≠ k) (hs : ∀ y ∈ J, y ∈ I) : ∀ e ∈ J, e.1 ≠ k := fun e he => h e (hs e he)
theorem atI_mid {k : ByteArray} {t : Int} {A B : List It} (h : ∀ e ∈ A, e.1 ≠ k) : atI k (A ++ (k, t) :: B) = some t := by
  unfold atI
  rw [List.find?_append, List.find?_eq_none.2 (fun e he => by simpa using h e he)]
  simp
theorem at_early (k : ByteArray) (t : Int) (I : List It) : atI k (gtI (t - 1) (setI k t I)) = some t := by
  unfold setI
  have e : gtI (t - 1) (leI t (dropI k I) ++ (k, t) :: gtI t (dropI k I)) = gtI (t - 1) (leI t (dropI k I)) ++ (k, t) :: gtI (t - 1) (gtI t (dropI k I)) := by
    unfold gtI
    rw [List.filter_append, List.filter_cons, if_pos (by simp; omega)]
  rw [e]
  exact atI_mid (no_sub no_drop fun y hy => (List.mem_filter.1 (List.mem_filter.1 hy).1).1)
theorem at_gone (k : ByteArray) (t : Int) (I : List It) : atI k (gtI t (setI k t I)) = none := by
  refine atI_none fun e he => ?_
  obtain ⟨h1, h2⟩ := List.mem_filter.1 he
  unfold setI at h1
  rcases List.mem_append.1 h1 with h1 | h1
  · exact no_drop e (List.mem_filter.1 h1).1
  · rcases List.mem_cons.1 h1 with h1 | h1
    · subst h1; simp at h2
    · exact no_drop e (List.mem_filter.1 h1).1
end Go.Proofs.Ytjngangojgjceaa.EX
namespace Go.Proofs.Ytjngangojgjceaa.EX
open Go.ChangeShapes Go.WideShapes Go.ChangeAt Go.RowKit Go.Maps Go.ChangeMaps
open Go.Proofs.Ytjngangojgjceaa.SL Go.Proofs.Ytjngangojgjceaa.RW
set_option maxRecDepth 100000
set_option linter.unusedVariables false
set_option linter.unusedSimpArgs false

def Rng (I : List It) : Prop := ∀ e ∈ I, 0 ≤ e.2 ∧ e.2 ≤ 1099511627776
theorem Rng.setI {k : ByteArray} {t : Int} {I : List It} (h : Rng I) (ht : 0 ≤ t ∧ t ≤ 1099511627776) : Rng (setI k t I) := fun y hy => by
  rcases mem_setI hy with rfl | hy
  · exact ht
  · exact h y hy
theorem drop_len (k : ByteArray) : ∀ I : List It, (keysI I).Nodup → (dropI k I).length + (if (atI k I).isSome then 1 else 0) = I.length
  | [], _ => rfl
  | e :: I, h => by
    obtain ⟨h1, h2⟩ := List.nodup_cons.1 h
    have ih := drop_len k I h2
    by_cases hk : e.1 = k
    · have e1 : dropI k (e :: I) = I := by
        unfold dropI
        rw [List.filter_cons, if_neg (by simp [hk]), List.filter_eq_self]
        intro y hy
        exact decide_eq_true fun hy2 => h1 (by show e.1 ∈ _; rw [hk, ← hy2]; exact List.mem_map_of_mem (f := (·.1)) hy)
      have e2 : atI k (e :: I) = some e.2 := by unfold atI; simp [hk]
      rw [e1, e2]; rfl
    · have e1 : dropI k (e :: I) = e :: dropI k I := by unfold dropI; rw [List.filter_cons, if_pos (by simp [hk])]
      have e2 : atI k (e :: I) = atI k I := by unfold atI; rw [List.find?_cons, decide_eq_false hk]
      rw [e1, e2, List.length_cons, List.length_cons]; omega
theorem le_gt_len (t : Int) : ∀ I : List It, (leI t I).length + (gtI t I).length = I.length
  | [] => rfl
  | e :: I => by
    have ih := le_gt_len t I
    unfold leI gtI at ih ⊢
    rw [List.filter_cons, List.filter_cons]
    by_cases hx : t < e.2 <;> simp [hx] <;> omega
theorem set_len {k : ByteArray} {I : List It} (h : (keysI I).Nodup) (t : Int) : (setI k t I).length + (if (atI k I).isSome then 1 else 0) = I.length + 1 := by
  have h1 := drop_len k I h
  have h2 := le_gt_len t (dropI k I)
  unfold setI
  rw [List.length_append, List.length_cons]; omega
theorem atI_of : ∀ {I : List It}, (keysI I).Nodup → ∀ {e : It}, e ∈ I → atI e.1 I = some e.2
  | f :: I, h, e, he => by
    obtain ⟨h1, h2⟩ := List.nodup_cons.1 h
    rcases List.mem_cons.1 he with rfl | he
    · unfold atI; simp
    · have hne : f.1 ≠ e.1 := fun hy2 => h1 (by show f.1 ∈ _; rw [hy2]; exact List.mem_map_of_mem (f := (·.1)) he)
      have e2 : atI e.1 (f :: I) = atI e.1 I := by unfold atI; rw [List.find?_cons, decide_eq_false hne]
      rw [e2]; exact atI_of h2 he
theorem at_le_gt {I : List It} (h : (keysI I).Nodup) {now : Int} {e : It} (he : e ∈ leI now I) : atI e.1 I = some e.2 ∧ atI e.1 (gtI now I) = none ∧ ¬ now < e.2 := by
  obtain ⟨h1, h2⟩ := List.mem_filter.1 he
  have h3 : ¬ now < e.2 := by simpa using h2
  refine ⟨atI_of h h1, atI_none fun f hf hfe => ?_, h3⟩
  obtain ⟨f1, f2⟩ := List.mem_filter.1 hf
  have a1 := atI_of h h1
  have a2 := atI_of h f1
  rw [hfe, a1] at a2
  injection a2 with a2
  have f3 : now < f.2 := by simpa using f2
  omega
theorem gt_gt (now : Int) (I : List It) : gtI now (gtI now I) = gtI now I := by unfold gtI; rw [List.filter_filter]; simp
theorem le_gt (now : Int) (I : List It) : leI now (gtI now I) = [] := by
  unfold leI; rw [List.filter_eq_nil_iff]; intro y hy
  have := (List.mem_filter.1 hy).2
  simpa using this
theorem Rng.le {I : List It} (h : Rng I) : leI 1099511627776 I = I := by
  unfold leI; rw [List.filter_eq_self]; intro y hy
  have := h y hy
  simp; omega
theorem Rng.gt {I : List It} (h : Rng I) : gtI 1099511627776 I = [] := by
  unfold gtI; rw [List.filter_eq_nil_iff]; intro y hy
  have := h y hy
  simp; omega
end Go.Proofs.Ytjngangojgjceaa.EX
namespace Go.Proofs.Ytjngangojgjceaa.EX
open Go.ChangeShapes Go.WideShapes Go.ChangeAt Go.RowKit Go.Maps Go.ChangeMaps
open Go.Proofs.Ytjngangojgjceaa.SL Go.Proofs.Ytjngangojgjceaa.RW
set_option maxRecDepth 100000
set_option linter.unusedVariables false
set_option linter.unusedSimpArgs false

theorem at_found {k : ByteArray} {t : Int} {I : List It} {i : Nat} (h : I[i]? = some (k, t)) (hn : ∀ e ∈ I.take i, e.1 ≠ k) : atI k I = some t := by
  have hlt := (List.getElem?_eq_some_iff.1 h).1
  have e1 : I = I.take i ++ (k, t) :: I.drop (i + 1) := by
    have h2 := List.drop_eq_getElem_cons hlt
    have h3 : I[i] = (k, t) := by have := List.getElem?_eq_getElem hlt; rw [this] at h; injection h
    rw [h3] at h2
    rw [← h2, List.take_append_drop]
  rw [e1]
  exact atI_mid hn
section
variable {B : Nat} {w : World} {r : Nat} {I : List It}
end
end Go.Proofs.Ytjngangojgjceaa.EX
namespace Go.Proofs.Ytjngangojgjceaa.EX
open Go.ChangeShapes Go.WideShapes Go.ChangeAt Go.RowKit Go.Maps Go.ChangeMaps
open Go.Proofs.Ytjngangojgjceaa.SL Go.Proofs.Ytjngangojgjceaa.RW
set_option maxRecDepth 100000
set_option linter.unusedVariables false
set_option linter.unusedSimpArgs false

theorem ot_far {B : Nat} {w : World} {v : Value} {d : List ByteArray} (h : OT B w v d) {p : Addr} (hp : p.block < B) (u : Value) : OT B (w.setCell p u) v d := h.keep fun b hb => Below.heap_setCell w p u b (by have := (World.ownsRow.lt h b hb).1; omega)
theorem chg_stored {w w' : World} {r : Nat} (h : Below w.heap.size w w') (u : Value) : Chg (fun b => b = r) w (w'.setCell ⟨r, 0, none⟩ u) := (Chg.of_below (S := fun b => b = r) h).setCell (p := ⟨r, 0, none⟩) rfl u
theorem gt_take {now : Int} {I : List It} {i : Nat} {y : It} (h : I[i]? = some y) : gtI now (I.take (i + 1)) = if now < y.2 then gtI now (I.take i) ++ [y] else gtI now (I.take i) := by
  rw [List.take_add_one, h]; unfold gtI; rw [List.filter_append]
  by_cases e : now < y.2
  · rw [if_pos e]; simp [e]
  · rw [if_neg e]; simp [e]
theorem le_take {now : Int} {I : List It} {i : Nat} {y : It} (h : I[i]? = some y) : keysI (leI now (I.take (i + 1))) = if now < y.2 then keysI (leI now (I.take i)) else keysI (leI now (I.take i)) ++ [y.1] := by
  rw [List.take_add_one, h]; unfold leI keysI; rw [List.filter_append, List.map_append]
  by_cases e : now < y.2
  · rw [if_pos e]; simp [e]
  · rw [if_neg e]; simp [e]
section
variable {B : Nat} {w : World} {r : Nat} {I : List It}
end
end Go.Proofs.Ytjngangojgjceaa.EX
namespace Go.Proofs.Ytjngangojgjceaa.EX
open Go.ChangeShapes Go.WideShapes Go.ChangeAt Go.RowKit Go.Maps Go.ChangeMaps
open Go.Proofs.Ytjngangojgjceaa.SL Go.Proofs.Ytjngangojgjceaa.RW
set_option maxRecDepth 100000
set_option linter.unusedVariables false
set_option linter.unusedSimpArgs false

theorem rise_split (t : Int) : ∀ L : List It, L.Pairwise (fun a b => a.2 ≤ b.2) → L = leI t L ++ gtI t L
  | [], _ => rfl
  | x :: L, hp => by
    obtain ⟨h1, h2⟩ := List.pairwise_cons.1 hp
    have ih := rise_split t L h2
    by_cases hx : t < x.2
    · have hall : ∀ y ∈ L, t < y.2 := fun y hy => by have := h1 y hy; omega
      have e1 : leI t (x :: L) = [] := by
        unfold leI; rw [List.filter_eq_nil_iff]; intro y hy
        rcases List.mem_cons.1 hy with rfl | hy
        · simp [hx]
        · simp [hall y hy]
      have e2 : gtI t (x :: L) = x :: L := by
        unfold gtI; rw [List.filter_eq_self]; intro y hy
        rcases List.mem_cons.1 hy with rfl | hy
        · simp [hx]
        · simp [hall y hy]
      rw [e1, e2]; rfl
    · have e1 : leI t (x :: L) = x :: leI t L := by unfold leI; rw [List.filter_cons, if_pos (by simp [hx])]
      have e2 : gtI t (x :: L) = gtI t L := by unfold gtI; rw [List.filter_cons, if_neg (by simp [hx])]
      rw [e1, e2]
      exact congrArg (x :: ·) ih
theorem er_cell {w : World} {b n c : Nat} {d : List It} (h : ER w (.slice (some ⟨b, 0, none⟩) n c) d) {i : Nat} {x : It} (hi : d[i]? = some x) : w.cell? ⟨b, i * 2, none⟩ = some (.string x.1) ∧ w.cell? ⟨b, i * 2 + 1, none⟩ = some (.int .i64 x.2) := by
  rcases h with ⟨_, _, _, rfl⟩ | ⟨g, off, cap, e, _, hx⟩
  · cases hi
  · injection e with e1 _ e3
    injection e1 with e1
    injection e1 with e1 e2
    subst e1 e2
    have := hx i x hi
    rw [Nat.zero_add] at this
    exact this
theorem er_tail {w : World} {b c : Nat} {d : List It} (h : ER w (.slice (some ⟨b, 0, none⟩) d.length c) d) (i : Nat) (hi : i ≤ d.length) (hc : d.length ≤ c) : ER w (.slice (some ⟨b, i * 2, none⟩) (d.length - i) (c - i)) (d.drop i) := by
  refine .inr ⟨b, i * 2, c - i, by rw [List.length_drop], by rw [List.length_drop]; omega, fun j y hj => ?_⟩
  rw [List.getElem?_drop] at hj
  have := er_cell h hj
  rw [Nat.add_mul] at this
  exact this
section
variable {B : Nat} {w : World} {r : Nat} {I : List It}
end
end Go.Proofs.Ytjngangojgjceaa.EX
namespace Go.Proofs.Ytjngangojgjceaa.EX
open Go.ChangeShapes Go.WideShapes Go.ChangeAt Go.RowKit Go.Maps Go.ChangeMaps
open Go.Proofs.Ytjngangojgjceaa.SL Go.Proofs.Ytjngangojgjceaa.RW
set_option maxRecDepth 100000
set_option linter.unusedVariables false
set_option linter.unusedSimpArgs false

theorem bk_ne {w : World} {b : Nat} {t t' : TypeId} {cs cur : Array Value} {fz : Nat × Nat} (h : Bk w b t cs) (hb : w.heap[b]? = some (.cells cur t' fz)) (hn : t' ≠ t) : False := by
  have h2 : w.heap[b]? = some (.cells cs t (0, 0)) := h
  rw [h2] at hb
  injection hb with hb
  injection hb with _ e2 _
  exact hn e2.symm
theorem QT.otherB {B : Nat} {w : World} {g n : Nat} {x : Qx} (h : QT B w g n x) {b : Nat} {cur : Array Value} {t : TypeId} {fz : Nat × Nat} (hb : w.heap[b]? = some (.cells cur t fz)) (h1 : t ≠ 116) (h2 : t ≠ 136) (h3 : t ≠ 118) : ¬ x.own g b := by
  rintro (rfl | rfl | rfl | ho)
  · exact bk_ne h.bk hb h1
  · obtain ⟨D, ⟨es, clock, hm, _⟩, _⟩ := h.mp
    rw [hm] at hb
    cases hb
  · exact bk_ne h.ko hb h2
  · obtain ⟨_, cur2, fz2, h4⟩ := h.eq.ty b ho
    rw [h4] at hb
    injection hb with hb
    injection hb with _ e2 _
    exact h3 e2.symm
section
variable {w0 w w' : World} {g n r : Nat} {I J : List It} {O : List Kp}
end
end Go.Proofs.Ytjngangojgjceaa.EX
namespace Go.Proofs.Ytjngangojgjceaa.CA
open Go.ChangeShapes Go.WideShapes Go.ChangeAt Go.RowKit
open Go.Proofs.Ytjngangojgjceaa.SL Go.Proofs.Ytjngangojgjceaa.EX
set_option maxRecDepth 100000
set_option linter.unusedVariables false
set_option linter.unusedSimpArgs false

noncomputable instance decMem (x : ByteArray) (l : List ByteArray) : Decidable (x ∈ l) := Classical.propDecidable _
abbrev Vm : Type := ByteArray → Option ByteArray
/-- a cache's state: the tried segment, the kept one, the deadlines, the values -/
structure Sg where
  T : List En
  K : List En
  I : List It
  V : Vm
def delV (t : ByteArray) (V : Vm) : Vm := fun x => if x = t then none else V x
def setV (t v : ByteArray) (V : Vm) : Vm := fun x => if x = t then some v else V x
def dropS (t : ByteArray) (s : Sg) : Sg := ⟨delE t s.T, delE t s.K, dropI t s.I, delV t s.V⟩
def dropsS (l : List ByteArray) (s : Sg) : Sg := l.foldl (fun s t => dropS t s) s
/-- the map of entries -/
def fV (V : Vm) : Ky → Option (ByteArray × ByteArray) := fun k => if rightK k = true then (V (textK k)).map fun v => (textK k, v) else none
theorem fV_del {k : Ky} (h : rightK k = true) (V : Vm) (x : Ky) : fV (delV (textK k) V) x = if x = k then none else fV V x := by
  unfold fV delV
  by_cases hx : x = k
  · subst hx; rw [if_pos h, if_pos rfl, if_pos rfl]; rfl
  · rw [if_neg hx]
    by_cases hr : rightK x = true
    · rw [if_pos hr, if_pos hr, if_neg (fun e => hx (text_inj hr h e))]
    · rw [if_neg hr, if_neg hr]
theorem fV_set {k : Ky} (h : rightK k = true) (v : ByteArray) (V : Vm) (x : Ky) : fV (setV (textK k) v V) x = if x = k then some (textK k, v) else fV V x := by
  unfold fV setV
  by_cases hx : x = k
  · subst hx; rw [if_pos h, if_pos rfl, if_pos rfl]; rfl
  · rw [if_neg hx]
    by_cases hr : rightK x = true
    · rw [if_pos hr, if_pos hr, if_neg (fun e => hx (text_inj hr h e))]
    · rw [if_neg hr, if_neg hr]
theorem fV_some {V : Vm} {k : Ky} {e : ByteArray × ByteArray} (h : fV V k = some e) : rightK k = true ∧ e.1 = textK k ∧ V (textK k) = some e.2 := by
  unfold fV at h
  by_cases hr : rightK k = true
  · rw [if_pos hr] at h
    cases hv : V (textK k) with
    | none => rw [hv] at h; cases h
    | some v => rw [hv] at h; injection h with h; subst h; exact ⟨hr, rfl, rfl⟩
  · rw [if_neg hr] at h; cases h
theorem fV_none {V : Vm} {k : Ky} (h : fV V k = none) : rightK k = false ∨ V (textK k) = none := by
  unfold fV at h
  by_cases hr : rightK k = true
  · rw [if_pos hr] at h
    right
    cases hv : V (textK k) with
    | none => rfl
    | some v => rw [hv] at h; cases h
  · left; simpa using hr
theorem dropsS_T (l : List ByteArray) : ∀ s, (dropsS l s).T = s.T.filter (fun y => decide (y.1 ∉ l)) := by
  induction l with
  | nil => intro s; show s.T = _; symm; rw [List.filter_eq_self]; intro y _; simp
  | cons t l ih =>
    intro s
    rw [show dropsS (t :: l) s = dropsS l (dropS t s) from rfl, ih]
    show List.filter _ (delE t s.T) = _
    unfold delE
    rw [List.filter_filter]
    congr 1; funext y; by_cases h1 : y.1 = t <;> by_cases h2 : y.1 ∈ l <;> simp [h1, h2]
theorem dropsS_K (l : List ByteArray) : ∀ s, (dropsS l s).K = s.K.filter (fun y => decide (y.1 ∉ l)) := by
  induction l with
  | nil => intro s; show s.K = _; symm; rw [List.filter_eq_self]; intro y _; simp
  | cons t l ih =>
    intro s
    rw [show dropsS (t :: l) s = dropsS l (dropS t s) from rfl, ih]
    show List.filter _ (delE t s.K) = _
    unfold delE
    rw [List.filter_filter]
    congr 1; funext y; by_cases h1 : y.1 = t <;> by_cases h2 : y.1 ∈ l <;> simp [h1, h2]
theorem dropsS_I (l : List ByteArray) : ∀ s, (dropsS l s).I = s.I.filter (fun y => decide (y.1 ∉ l)) := by
  induction l with
  | nil => intro s; show s.I = _; symm; rw [List.filter_eq_self]; intro y _; simp
  | cons t l ih =>
    intro s
    rw [show dropsS (t :: l) s = dropsS l (dropS t s) from rfl, ih]
    show List.filter _ (dropI t s.I) = _
    unfold dropI
    rw [List.filter_filter]
    congr 1; funext y; by_cases h1 : y.1 = t <;> by_cases h2 : y.1 ∈ l <;> simp [h1, h2]
theorem dropsS_V (l : List ByteArray) : ∀ s, (dropsS l s).V = fun x => if x ∈ l then none else s.V x := by
  induction l with
  | nil => intro s; funext x; show s.V x = _; rw [if_neg (by simp)]
  | cons t l ih =>
    intro s
    rw [show dropsS (t :: l) s = dropsS l (dropS t s) from rfl, ih]
    funext x
    show (if x ∈ l then none else delV t s.V x) = _
    unfold delV
    by_cases h1 : x = t <;> by_cases h2 : x ∈ l <;> simp [h1, h2]
theorem Sg.ext' {a b : Sg} (h1 : a.T = b.T) (h2 : a.K = b.K) (h3 : a.I = b.I) (h4 : a.V = b.V) : a = b := by
  cases a; cases b; simp only at h1 h2 h3 h4; subst h1 h2 h3 h4; rfl
/-- the times of a store and of a key that does not go change places -/
theorem set_drops (t v : ByteArray) (a : Int) (l : List ByteArray) (h : t ∉ l) (s : Sg) :
    (⟨(dropsS l s).T, (dropsS l s).K, setI t a (dropsS l s).I, setV t v (dropsS l s).V⟩ : Sg) = dropsS l ⟨s.T, s.K, setI t a s.I, setV t v s.V⟩ := by
  refine Sg.ext' ?_ ?_ ?_ ?_
  · rw [dropsS_T, dropsS_T]
  · rw [dropsS_K, dropsS_K]
  · rw [dropsS_I, dropsS_I]
    show setI t a (s.I.filter _) = (setI t a s.I).filter _
    unfold setI leI gtI dropI
    rw [List.filter_append, List.filter_cons, if_pos (by simpa using h)]
    simp only [List.filter_filter]
    congr 1
    · congr 1; funext y; cases decide (y.1 ≠ t) <;> cases decide (y.1 ∉ l) <;> cases (!decide (a < y.2)) <;> rfl
    · congr 2; funext y; cases decide (y.1 ≠ t) <;> cases decide (y.1 ∉ l) <;> cases (decide (a < y.2)) <;> rfl
  · rw [dropsS_V, dropsS_V]
    funext x
    show setV t v (fun x => if x ∈ l then none else s.V x) x = if x ∈ l then none else setV t v s.V x
    unfold setV
    by_cases h1 : x = t
    · subst h1; simp [h]
    · simp [h1]
theorem mem_keysE {x : ByteArray} {l : List En} : x ∈ keysE l ↔ ∃ y ∈ l, y.1 = x := by unfold keysE; exact List.mem_map
theorem mem_keysI {x : ByteArray} {l : List It} : x ∈ keysI l ↔ ∃ y ∈ l, y.1 = x := by unfold keysI; exact List.mem_map
theorem mem_delE {x t : ByteArray} {l : List En} : x ∈ keysE (delE t l) ↔ x ∈ keysE l ∧ x ≠ t := by
  rw [mem_keysE, mem_keysE]
  unfold delE
  constructor
  · rintro ⟨y, hy, rfl⟩
    have := List.mem_filter.1 hy
    exact ⟨⟨y, this.1, rfl⟩, by simpa using this.2⟩
  · rintro ⟨⟨y, hy, rfl⟩, hn⟩
    exact ⟨y, List.mem_filter.2 ⟨hy, by simpa using hn⟩, rfl⟩
theorem mem_dropI {x t : ByteArray} {l : List It} : x ∈ keysI (dropI t l) ↔ x ∈ keysI l ∧ x ≠ t := by
  rw [mem_keysI, mem_keysI]
  unfold dropI
  constructor
  · rintro ⟨y, hy, rfl⟩
    have := List.mem_filter.1 hy
    exact ⟨⟨y, this.1, rfl⟩, by simpa using this.2⟩
  · rintro ⟨⟨y, hy, rfl⟩, hn⟩
    exact ⟨y, List.mem_filter.2 ⟨hy, by simpa using hn⟩, rfl⟩
theorem mem_setI_ {x t : ByteArray} {a : Int} {l : List It} : x ∈ keysI (setI t a l) ↔ x = t ∨ x ∈ keysI l := by
  have key : x ∈ keysI (setI t a l) ↔ x = t ∨ x ∈ keysI (dropI t l) := by
    rw [mem_keysI, mem_keysI]
    unfold setI leI gtI
    constructor
    · rintro ⟨y, hy, rfl⟩
      rcases List.mem_append.1 hy with hy | hy
      · exact .inr ⟨y, (List.mem_filter.1 hy).1, rfl⟩
      · rcases List.mem_cons.1 hy with rfl | hy
        · exact .inl rfl
        · exact .inr ⟨y, (List.mem_filter.1 hy).1, rfl⟩
    · rintro (rfl | ⟨y, hy, rfl⟩)
      · exact ⟨(x, a), List.mem_append_right _ (List.mem_cons_self ..), rfl⟩
      · by_cases hc : a < y.2
        · exact ⟨y, List.mem_append_right _ (List.mem_cons_of_mem _ (List.mem_filter.2 ⟨hy, by simpa using hc⟩)), rfl⟩
        · exact ⟨y, List.mem_append_left _ (List.mem_filter.2 ⟨hy, by simpa using hc⟩), rfl⟩
  rw [key, mem_dropI]
  by_cases h : x = t <;> simp [h]
theorem has_iff {k : ByteArray} {T K : List En} : (hasS k T K).isSome = true ↔ k ∈ keysE T ∨ k ∈ keysE K := by
  constructor
  · intro h
    unfold hasS at h
    cases h1 : hasE k T with
    | some z => obtain ⟨y, hy, e, _⟩ := has_key h1; exact .inl (mem_keysE.2 ⟨y, hy, e⟩)
    | none =>
      rw [h1] at h
      cases h2 : hasE k K with
      | some z => obtain ⟨y, hy, e, _⟩ := has_key h2; exact .inr (mem_keysE.2 ⟨y, hy, e⟩)
      | none => rw [h2] at h; cases h
  · intro h
    refine has_mk ?_
    rcases h with h | h
    · obtain ⟨y, hy, e⟩ := mem_keysE.1 h; exact ⟨y, .inl hy, e⟩
    · obtain ⟨y, hy, e⟩ := mem_keysE.1 h; exact ⟨y, .inr hy, e⟩
theorem at_iff {k : ByteArray} {I : List It} : (atI k I).isSome = true ↔ k ∈ keysI I := by
  unfold atI
  rw [Option.isSome_map, List.find?_isSome, mem_keysI]
  constructor
  · rintro ⟨y, hy, h⟩; exact ⟨y, hy, by simpa using h⟩
  · rintro ⟨y, hy, h⟩; exact ⟨y, hy, by simpa using h⟩
/-- which keys go for room -/
structure RoomK (T K : List En) (R : List En × List En × List ByteArray) : Prop where
  all : ∀ x, (x ∈ keysE T ∨ x ∈ keysE K) ↔ (x ∈ keysE R.1 ∨ x ∈ keysE R.2.1) ∨ x ∈ R.2.2
  ap : ∀ x, x ∈ R.2.2 → ¬ (x ∈ keysE R.1 ∨ x ∈ keysE R.2.1)
  nd : R.2.2.Nodup
theorem keys_last {l : List En} {y : En} (h : l.getLast? = some y) (x : ByteArray) : x ∈ keysE l ↔ x ∈ keysE l.dropLast ∨ x = y.1 := by
  have := last_app h
  constructor
  · intro hx
    rw [this] at hx
    rw [SL.keysE_app] at hx
    rcases List.mem_append.1 hx with hx | hx
    · exact .inl hx
    · exact .inr (by simpa [keysE] using hx)
  · intro hx
    rw [this, SL.keysE_app]
    rcases hx with hx | hx
    · exact List.mem_append_left _ hx
    · exact List.mem_append_right _ (by simp [keysE, hx])
theorem del_gone {k : ByteArray} {l : List En} : k ∉ keysE (delE k l) := fun h => (mem_delE.1 h).2 rfl
theorem room_keys {al z : Int} : ∀ (n : Nat) (T K : List En), UK T K → RoomK T K (roomE al z n T K)
  | 0, T, K, _ => ⟨fun x => by show _ ↔ (_ ∨ _) ∨ x ∈ []; simp [roomE], fun x hx => by simp [roomE] at hx, List.nodup_nil⟩
  | n + 1, T, K, hu => by
    have none_ : RoomK T K (T, K, []) := ⟨fun x => by simp, fun x hx => by simp at hx, List.nodup_nil⟩
    unfold roomE
    split
    · split
      · rename_i y hy
        obtain ⟨u1, u2, u3⟩ := hu.last hy
        obtain ⟨a1, a2, a3⟩ := room_keys (al := al) (z := z) n T.dropLast K u3
        have hy1 : ¬ (y.1 ∈ keysE T.dropLast ∨ y.1 ∈ keysE K) := by
          rintro (h | h)
          · rw [← u1] at h; exact del_gone h
          · rw [← u2] at h; exact del_gone h
        refine ⟨fun x => ?_, fun x hx => ?_, ?_⟩
        · simp only [List.mem_cons]
          rw [keys_last hy x]
          have := a1 x
          constructor
          · rintro ((h | h) | h)
            · rcases this.1 (.inl h) with h | h
              · exact .inl h
              · exact .inr (.inr h)
            · exact .inr (.inl h)
            · rcases this.1 (.inr h) with h | h
              · exact .inl h
              · exact .inr (.inr h)
          · rintro (h | h | h)
            · rcases this.2 (.inl h) with h | h
              · exact .inl (.inl h)
              · exact .inr h
            · exact .inl (.inr h)
            · rcases this.2 (.inr h) with h | h
              · exact .inl (.inl h)
              · exact .inr h
        · simp only [List.mem_cons] at hx
          rcases hx with rfl | hx
          · exact fun h => hy1 ((a1 _).2 (.inl h))
          · exact a2 x hx
        · exact List.nodup_cons.2 ⟨fun h => hy1 ((a1 _).2 (.inr h)), a3⟩
      · split
        · rename_i y hy
          obtain ⟨u1, u2, u3⟩ := hu.lastK hy
          obtain ⟨a1, a2, a3⟩ := room_keys (al := al) (z := z) n T K.dropLast u3
          have hy1 : ¬ (y.1 ∈ keysE T ∨ y.1 ∈ keysE K.dropLast) := by
            rintro (h | h)
            · rw [← u2] at h; exact del_gone h
            · rw [← u1] at h; exact del_gone h
          refine ⟨fun x => ?_, fun x hx => ?_, ?_⟩
          · simp only [List.mem_cons]
            rw [keys_last hy x]
            have := a1 x
            constructor
            · rintro (h | h | h)
              · rcases this.1 (.inl h) with h | h
                · exact .inl h
                · exact .inr (.inr h)
              · rcases this.1 (.inr h) with h | h
                · exact .inl h
                · exact .inr (.inr h)
              · exact .inr (.inl h)
            · rintro (h | h | h)
              · rcases this.2 (.inl h) with h | h
                · exact .inl h
                · exact .inr (.inl h)
              · exact .inr (.inr h)
              · rcases this.2 (.inr h) with h | h
                · exact .inl h
                · exact .inr (.inl h)
          · simp only [List.mem_cons] at hx
            rcases hx with rfl | hx
            · exact fun h => hy1 ((a1 _).2 (.inl h))
            · exact a2 x hx
          · exact List.nodup_cons.2 ⟨fun h => hy1 ((a1 _).2 (.inr h)), a3⟩
        · exact none_
    · exact none_
theorem put_keys {al z : Int} {k : ByteArray} {T K : List En} (hu : UK T K) {R : List En × List En × List ByteArray} (hR : putE al k z T K = R) :
    (∀ x, (x ∈ keysE R.1 ∨ x ∈ keysE R.2.1) ↔ x = k ∨ ((x ∈ keysE T ∨ x ∈ keysE K) ∧ x ∉ R.2.2)) ∧ (∀ x, x ∈ R.2.2 → (x ∈ keysE T ∨ x ∈ keysE K) ∧ x ≠ k ∧ ¬ (x ∈ keysE R.1 ∨ x ∈ keysE R.2.1)) ∧ R.2.2.Nodup := by
  subst hR
  obtain ⟨a1, a2, a3⟩ := room_keys (al := al) (z := z) ((delE k T).length + (delE k K).length) _ _ (hu.del k)
  unfold putE
  simp only
  generalize roomE al z ((delE k T).length + (delE k K).length) (delE k T) (delE k K) = R at *
  have mem : ∀ x, (x ∈ keysE (delE k T) ∨ x ∈ keysE (delE k K)) ↔ ((x ∈ keysE T ∨ x ∈ keysE K) ∧ x ≠ k) := fun x => by rw [mem_delE, mem_delE]; exact or_and_right.symm
  have hkc : ∀ x, x ∈ keysE ((k, z) :: R.1) ↔ x = k ∨ x ∈ keysE R.1 := fun x => by unfold keysE; rw [List.map_cons, List.mem_cons]
  refine ⟨fun x => ?_, fun x hx => ?_, a3⟩
  · rw [hkc]
    have h1 := a1 x
    rw [mem x] at h1
    constructor
    · rintro ((h | h) | h)
      · exact .inl h
      · exact .inr ⟨(h1.2 (.inl (.inl h))).1, fun hg => a2 x hg (.inl h)⟩
      · exact .inr ⟨(h1.2 (.inl (.inr h))).1, fun hg => a2 x hg (.inr h)⟩
    · rintro (h | ⟨h, hn⟩)
      · exact .inl (.inl h)
      · by_cases hk : x = k
        · exact .inl (.inl hk)
        · rcases h1.1 ⟨h, hk⟩ with h | h
          · exact h.elim (fun h => .inl (.inr h)) .inr
          · exact absurd h hn
  · have h1 := (mem x).1 ((a1 x).2 (.inr hx))
    refine ⟨h1.1, h1.2, ?_⟩
    rw [hkc]
    rintro ((h | h) | h)
    · exact h1.2 h
    · exact a2 x hx (.inl h)
    · exact a2 x hx (.inr h)
theorem put_sums {al ke z : Int} {k : ByteArray} {T K : List En} (hT : posE T) (hK : posE K) (hz : z ≤ al) (hk : sumE K ≤ ke) {R : List En × List En × List ByteArray} (hR : putE al k z T K = R) :
    sumE R.1 + sumE R.2.1 ≤ al ∧ sumE R.2.1 ≤ ke := by
  subst hR
  have h1 := room_le (al := al) (z := z) ((delE k T).length + (delE k K).length) _ _ (hT.del k) (hK.del k)
  have h2 := room_fit (al := al) hz ((delE k T).length + (delE k K).length) (delE k T) (delE k K) rfl
  have h3 := (sum_del_has (k := k) hK).2
  unfold putE
  simp only [sumE]
  omega
theorem touch_keys {ke z : Int} {k : ByteArray} {T K : List En} (hke : 0 ≤ ke) (hT : posE T) (hK : posE K) (hz : hasS k T K = some z) {R : List En × List En × List ByteArray} (hR : touchE ke k z T K = R) :
    (∀ x, (x ∈ keysE R.1 ∨ x ∈ keysE R.2.1) ↔ x ∈ keysE T ∨ x ∈ keysE K) := by
  subst hR
  have hkin : k ∈ keysE T ∨ k ∈ keysE K := has_iff.1 (by rw [hz]; rfl)
  have hzp : 1 ≤ z := by
    unfold hasS at hz
    cases h0 : hasE k T with
    | some y =>
      rw [h0] at hz
      have : y = z := by simpa using hz
      subst this
      exact has_pos hT h0
    | none =>
      rw [h0] at hz
      exact has_pos hK (by simpa using hz)
  have mem : ∀ x, (x ∈ keysE (delE k T) ∨ x ∈ keysE (delE k K)) ↔ ((x ∈ keysE T ∨ x ∈ keysE K) ∧ x ≠ k) := fun x => by rw [mem_delE, mem_delE]; exact or_and_right.symm
  intro x
  unfold touchE
  split
  · obtain ⟨_, _, c3⟩ := shr_ok hke ((delE k K).length + 1) (delE k T) ((k, z) :: delE k K) (by simp) (hT.del k) (fun y hy => (List.mem_cons.1 hy).elim (fun e => by rw [e]; exact hzp) (hK.del k y))
    have c4 := fun y => shr_all (ke := ke) ((delE k K).length + 1) (delE k T) ((k, z) :: delE k K) y
    generalize shrE ke ((delE k K).length + 1) (delE k T) ((k, z) :: delE k K) = R at *
    constructor
    · intro h
      have : ∃ y, (y ∈ R.1 ∨ y ∈ R.2.1) ∧ y.1 = x := by
        rcases h with h | h
        · obtain ⟨y, hy, e⟩ := mem_keysE.1 h; exact ⟨y, .inl hy, e⟩
        · obtain ⟨y, hy, e⟩ := mem_keysE.1 h; exact ⟨y, .inr hy, e⟩
      obtain ⟨y, hy, rfl⟩ := this
      rcases c3 y hy with h | h
      · exact ((mem _).1 (.inl (mem_keysE.2 ⟨y, h, rfl⟩))).1
      · rcases List.mem_cons.1 h with rfl | h
        · exact hkin
        · exact ((mem _).1 (.inr (mem_keysE.2 ⟨y, h, rfl⟩))).1
    · intro h
      have : ∃ y, (y ∈ delE k T ∨ y ∈ (k, z) :: delE k K) ∧ y.1 = x := by
        by_cases hx : x = k
        · subst hx; exact ⟨(x, z), .inr (List.mem_cons_self ..), rfl⟩
        · rcases (mem x).2 ⟨h, hx⟩ with h | h
          · obtain ⟨y, hy, e⟩ := mem_keysE.1 h; exact ⟨y, .inl hy, e⟩
          · obtain ⟨y, hy, e⟩ := mem_keysE.1 h; exact ⟨y, .inr (List.mem_cons_of_mem _ hy), e⟩
      obtain ⟨y, hy, rfl⟩ := this
      rcases c4 y hy with h | h
      · exact .inl (mem_keysE.2 ⟨y, h, rfl⟩)
      · exact .inr (mem_keysE.2 ⟨y, h, rfl⟩)
  · simp only
    have hkc : x ∈ keysE ((k, z) :: delE k T) ↔ x = k ∨ x ∈ keysE (delE k T) := by unfold keysE; rw [List.map_cons, List.mem_cons]
    rw [hkc]
    constructor
    · rintro ((rfl | h) | h)
      · exact hkin
      · exact ((mem x).1 (.inl h)).1
      · exact ((mem x).1 (.inr h)).1
    · intro h
      by_cases hx : x = k
      · exact .inl (.inl hx)
      · rcases (mem x).2 ⟨h, hx⟩ with h | h
        · exact .inl (.inr h)
        · exact .inr h
theorem touch_sums {ke z : Int} {k : ByteArray} {T K : List En} (hke : 0 ≤ ke) (hT : posE T) (hK : posE K) (hs : sumE K ≤ ke) (hz : hasS k T K = some z) {R : List En × List En × List ByteArray} (hR : touchE ke k z T K = R) :
    sumE R.1 + sumE R.2.1 ≤ sumE T + sumE K ∧ sumE R.2.1 ≤ ke := by
  subst hR
  obtain ⟨a1, a2⟩ := sum_del_has (k := k) hT
  obtain ⟨b1, b2⟩ := sum_del_has (k := k) hK
  have hsum : sumE (delE k T) + z + sumE (delE k K) ≤ sumE T + sumE K ∧ 1 ≤ z := by
    unfold hasS at hz
    cases h0 : hasE k T with
    | some y =>
      rw [h0] at hz
      have : y = z := by simpa using hz
      subst this
      have := a1 y h0
      exact ⟨by omega, has_pos hT h0⟩
    | none =>
      rw [h0] at hz
      have h1 : hasE k K = some z := by simpa using hz
      have := b1 z h1
      exact ⟨by omega, has_pos hK h1⟩
  unfold touchE
  split
  · obtain ⟨c1, c2, c3⟩ := shr_ok hke ((delE k K).length + 1) (delE k T) ((k, z) :: delE k K) (by simp) (hT.del k) (fun y hy => (List.mem_cons.1 hy).elim (fun e => by rw [e]; exact hsum.2) (hK.del k y))
    exact ⟨by rw [c1, sumE]; simp only; omega, c2⟩
  · exact ⟨by simp only [sumE]; omega, by simp only; omega⟩
/-- what holds of a cache between two calls -/
structure InvS (al ke : Int) (s : Sg) : Prop where
  st : ∀ t, (t ∈ keysE s.T ∨ t ∈ keysE s.K) ↔ (s.V t).isSome = true
  qu : ∀ t, t ∈ keysI s.I ↔ (s.V t).isSome = true
  ok : ∀ t, (s.V t).isSome = true → okP t = true ∧ t.size ≤ 4000
  sk : sumE s.K ≤ ke
  sa : sumE s.T + sumE s.K ≤ al
theorem InvS.nil {al ke : Int} (h : 0 ≤ ke ∧ 0 ≤ al) : InvS al ke ⟨[], [], [], fun _ => none⟩ :=
  ⟨fun t => by simp [keysE], fun t => by simp [keysI], fun t h => (by cases h), h.1, h.2⟩
theorem filter_sum {p : En → Bool} : ∀ {l : List En}, posE l → sumE (l.filter p) ≤ sumE l
  | [], _ => Int.le_refl _
  | x :: l, h => by
    have hx := h x (by simp)
    have := filter_sum (p := p) (l := l) fun y hy => h y (by simp [hy])
    rw [List.filter_cons]
    split <;> simp only [sumE] <;> omega
theorem InvS.drops {al ke : Int} {s : Sg} (h : InvS al ke s) (hT : posE s.T) (hK : posE s.K) (l : List ByteArray) : InvS al ke (dropsS l s) := by
  have hV : ∀ t, ((dropsS l s).V t).isSome = true ↔ (s.V t).isSome = true ∧ t ∉ l := fun t => by
    rw [dropsS_V]
    by_cases ht : t ∈ l <;> simp [ht]
  refine ⟨fun t => ?_, fun t => ?_, fun t ht => h.ok t ((hV t).1 ht).1, ?_, ?_⟩
  · rw [hV t, ← h.st t, dropsS_T, dropsS_K, mem_keysE, mem_keysE, mem_keysE, mem_keysE]
    constructor
    · rintro (⟨y, hy, rfl⟩ | ⟨y, hy, rfl⟩)
      · have := List.mem_filter.1 hy; exact ⟨.inl ⟨y, this.1, rfl⟩, by simpa using this.2⟩
      · have := List.mem_filter.1 hy; exact ⟨.inr ⟨y, this.1, rfl⟩, by simpa using this.2⟩
    · rintro ⟨⟨y, hy, rfl⟩ | ⟨y, hy, rfl⟩, hn⟩
      · exact .inl ⟨y, List.mem_filter.2 ⟨hy, by simpa using hn⟩, rfl⟩
      · exact .inr ⟨y, List.mem_filter.2 ⟨hy, by simpa using hn⟩, rfl⟩
  · rw [hV t, ← h.qu t, dropsS_I, mem_keysI, mem_keysI]
    constructor
    · rintro ⟨y, hy, rfl⟩
      have := List.mem_filter.1 hy; exact ⟨⟨y, this.1, rfl⟩, by simpa using this.2⟩
    · rintro ⟨⟨y, hy, rfl⟩, hn⟩
      exact ⟨y, List.mem_filter.2 ⟨hy, by simpa using hn⟩, rfl⟩
  · rw [dropsS_K]; exact Int.le_trans (filter_sum hK) h.sk
  · rw [dropsS_K, dropsS_T]; have := filter_sum (p := fun y => decide (y.1 ∉ l)) hK; have := filter_sum (p := fun y => decide (y.1 ∉ l)) hT; have := h.sa; omega
theorem InvS.drop {al ke : Int} {s : Sg} (h : InvS al ke s) (hT : posE s.T) (hK : posE s.K) (t : ByteArray) : InvS al ke (dropS t s) := h.drops hT hK [t]
/-- what a Tick makes -/
def tickS (now : Int) (s : Sg) : Sg := dropsS (keysI (leI now s.I)) ⟨s.T, s.K, gtI now s.I, s.V⟩
theorem tick_is {now : Int} {s : Sg} (hn : (keysI s.I).Nodup) : tickS now s = dropsS (keysI (leI now s.I)) s := by
  unfold tickS
  refine Sg.ext' ?_ ?_ ?_ ?_
  · rw [dropsS_T, dropsS_T]
  · rw [dropsS_K, dropsS_K]
  · rw [dropsS_I, dropsS_I]
    show (gtI now s.I).filter _ = s.I.filter _
    unfold gtI
    rw [List.filter_filter]
    apply List.filter_congr
    intro y hy
    by_cases hc : now < y.2
    · simp [hc]
    · have : y.1 ∈ keysI (leI now s.I) := mem_keysI.2 ⟨y, List.mem_filter.2 ⟨hy, by simpa using hc⟩, rfl⟩
      simp [hc, this]
  · rw [dropsS_V, dropsS_V]
/-- what a Put makes, where it is right -/
def putS (al : Int) (t v : ByteArray) (z a : Int) (s : Sg) : Sg × List ByteArray :=
  (dropsS (putE al t z s.T s.K).2.2 ⟨(putE al t z s.T s.K).1, (putE al t z s.T s.K).2.1, setI t a s.I, setV t v s.V⟩, (putE al t z s.T s.K).2.2)
theorem InvS.put {al ke : Int} {s : Sg} (h : InvS al ke s) (hu : UK s.T s.K) (hT : posE s.T) (hK : posE s.K) {t v : ByteArray} (ht : okP t = true ∧ t.size ≤ 4000) {z a : Int} (hz : z ≤ al) : InvS al ke (putS al t v z a s).1 := by
  unfold putS
  obtain ⟨R, hR⟩ : ∃ R, putE al t z s.T s.K = R := ⟨_, rfl⟩
  obtain ⟨p1, p2, p3⟩ := put_keys hu hR
  obtain ⟨q1, q2⟩ := put_sums hT hK hz h.sk hR
  rw [hR]
  simp only
  have hV : ∀ x, ((dropsS R.2.2 ⟨R.1, R.2.1, setI t a s.I, setV t v s.V⟩).V x).isSome = true ↔ x = t ∨ ((s.V x).isSome = true ∧ x ∉ R.2.2) := fun x => by
    rw [dropsS_V]
    show (if x ∈ R.2.2 then none else setV t v s.V x).isSome = true ↔ _
    unfold setV
    by_cases hx : x = t
    · subst hx
      have : x ∉ R.2.2 := fun hg => (p2 x hg).2.1 rfl
      simp [this]
    · by_cases hg : x ∈ R.2.2 <;> simp [hg, hx]
  have keepT : (dropsS R.2.2 ⟨R.1, R.2.1, setI t a s.I, setV t v s.V⟩).T = R.1 := by
    rw [dropsS_T, List.filter_eq_self]
    intro y hy
    have : y.1 ∉ R.2.2 := fun hg => (p2 _ hg).2.2 (.inl (mem_keysE.2 ⟨y, hy, rfl⟩))
    simpa using this
  have keepK : (dropsS R.2.2 ⟨R.1, R.2.1, setI t a s.I, setV t v s.V⟩).K = R.2.1 := by
    rw [dropsS_K, List.filter_eq_self]
    intro y hy
    have : y.1 ∉ R.2.2 := fun hg => (p2 _ hg).2.2 (.inr (mem_keysE.2 ⟨y, hy, rfl⟩))
    simpa using this
  refine ⟨fun x => ?_, fun x => ?_, fun x hx => ?_, ?_, ?_⟩
  · rw [hV x, keepT, keepK, p1 x, h.st x]
  · rw [hV x, dropsS_I, mem_keysI]
    have e : (∃ y ∈ List.filter (fun y => decide (y.1 ∉ R.2.2)) (setI t a s.I), y.1 = x) ↔ x ∈ keysI (setI t a s.I) ∧ x ∉ R.2.2 := by
      rw [mem_keysI]
      constructor
      · rintro ⟨y, hy, rfl⟩
        have := List.mem_filter.1 hy; exact ⟨⟨y, this.1, rfl⟩, by simpa using this.2⟩
      · rintro ⟨⟨y, hy, rfl⟩, hn⟩
        exact ⟨y, List.mem_filter.2 ⟨hy, by simpa using hn⟩, rfl⟩
    rw [e, mem_setI_, h.qu x]
    constructor
    · rintro ⟨h1 | h1, h2⟩
      · exact .inl h1
      · exact .inr ⟨h1, h2⟩
    · rintro (h1 | ⟨h1, h2⟩)
      · subst h1; exact ⟨.inl rfl, fun hg => (p2 x hg).2.1 rfl⟩
      · exact ⟨.inr h1, h2⟩
  · rcases (hV x).1 hx with rfl | ⟨h1, _⟩
    · exact ht
    · exact h.ok x h1
  · rw [keepK]; exact q2
  · rw [keepT, keepK]; exact q1
def touchS (ke : Int) (t : ByteArray) (z : Int) (s : Sg) : Sg := ⟨(touchE ke t z s.T s.K).1, (touchE ke t z s.T s.K).2.1, s.I, s.V⟩
theorem InvS.touch {al ke : Int} {s : Sg} (h : InvS al ke s) (hke : 0 ≤ ke) (hT : posE s.T) (hK : posE s.K) {t : ByteArray} {z : Int} (hz : hasS t s.T s.K = some z) : InvS al ke (touchS ke t z s) := by
  have p1 := touch_keys hke hT hK hz rfl
  obtain ⟨q1, q2⟩ := touch_sums hke hT hK h.sk hz rfl
  refine ⟨fun x => (p1 x).trans (h.st x), h.qu, h.ok, q2, ?_⟩
  have := h.sa
  show sumE _ + sumE _ ≤ al
  unfold touchS
  simp only
  omega
end Go.Proofs.Ytjngangojgjceaa.CA
namespace Go.Proofs.Ytjngangojgjceaa.CA
open Go.ChangeShapes Go.WideShapes Go.ChangeAt Go.RowKit Go.Maps Go.ChangeMaps
open Go.Proofs.Ytjngangojgjceaa.SL Go.Proofs.Ytjngangojgjceaa.EX
set_option maxRecDepth 100000
set_option linter.unusedVariables false
set_option linter.unusedSimpArgs false

theorem laidK : laidOutB Try.prog = true := by kernel_rfl
theorem kK : Keyed Try.prog 23 := Keyed.of_law (deep_law_laid laidK (m := 2) (by omega) (of_decide_eq_true (by kernel_rfl)) (by kernel_rfl) (by kernel_rfl))
/-- how a key is told -/
def kyL (k : Ky) : Lit := .string (keyBytes [.string k.1.data.toList, .string k.2.1.data.toList, .int .i64 k.2.2.1, .string k.2.2.2.data.toList])
theorem cellsS : Try.prog.cellsOf 9 = 1 := by kernel_rfl
theorem cellsI : Try.prog.cellsOf 3 = 1 := by kernel_rfl
theorem cellsK : Try.prog.cellsOf 23 = 4 := by kernel_rfl
theorem keyK (k : Ky) (h : FitK k) : keyOf Try.prog 23 (kyV k) = some (kyL k) := by
  obtain ⟨db, ro, fm, no⟩ := k
  obtain ⟨h1, h2, h3, h4, h5⟩ := h
  simp only at h1 h2 h3 h4 h5
  obtain ⟨d, hd⟩ : ∃ d, Try.prog.types.size = d + 1 := ⟨Try.prog.types.size - 1, by kernel_rfl⟩
  have ht : (Try.prog.keyType 23 && (kyV (db, ro, fm, no)).formed Try.prog 23) = true := by
    rw [show Try.prog.keyType 23 = true by kernel_rfl]
    unfold Value.formed
    simp [Try.underlying23, cellsK]
  have hw : (Lit.int IntKind.i64 fm).wf = true := by
    simp [Lit.wf, IntKind.min, IntKind.max, IntKind.signed, IntKind.bits]; omega
  have m1 : db.size ≤ maxLen := by unfold maxLen; omega
  have m2 : ro.size ≤ maxLen := by unfold maxLen; omega
  have m3 : no.size ≤ maxLen := by unfold maxLen; omega
  have hk : Try.prog.keyLits (Try.prog.types.size + 1) 23 (kyV (db, ro, fm, no)).cells.toList = some [.string db.data.toList, .string ro.data.toList, .int .i64 fm, .string no.data.toList] := by
    rw [hd]
    simp [Program.keyLits, Try.underlying23, Try.underlying9, Try.underlying3, cellsS, cellsI, cellsK, Value.cells, hw, m1, m2, m3]
  unfold keyOf
  rw [Try.underlying23]
  simp only
  rw [if_pos ht, hk]
  rfl
theorem kyL_inj {j k : Ky} (hj : FitK j) (hk : FitK k) (h : kyL j = kyL k) : j = k := by
  have h1 := keyK j hj
  have h2 := keyK k hk
  rw [h] at h1
  have := kK.inj h1 h2
  obtain ⟨a, b, c, d⟩ := j
  obtain ⟨a', b', c', d'⟩ := k
  simp [kyV, kC] at this
  obtain ⟨rfl, rfl, rfl, rfl⟩ := this
  rfl
theorem kyL_key (k : Ky) : WideAt.IsKeyLit (kyL k) := trivial
/-- an entry: its key's text, its value -/
abbrev Ce : Type := ByteArray × ByteArray
abbrev ceV (e : Ce) : Value := .agg #[.string e.1, .string e.2]
def zCe : Ce := (ByteArray.empty, ByteArray.empty)
def ceE : Value → Option (DataW Unit × List MemPlace)
  | .agg cs => match cs.toList with
    | [.string k, .string a] => some (.agg [.lit (.string k.data.toList), .lit (.string a.data.toList)], [])
    | _ => none
  | _ => none
def ceD1 (e : Ce) : DataW Unit := .agg [.lit (.string e.1.data.toList), .lit (.string e.2.data.toList)]
def ceD (o : Option Ce) : DataW Unit := ceD1 (o.getD zCe)
theorem ceE_mk (e : Ce) : ceE (ceV e) = some (ceD1 e, []) := rfl
theorem ba_of {a b : ByteArray} (h : a.data.toList = b.data.toList) : a = b := by
  obtain ⟨⟨x⟩⟩ := a
  obtain ⟨⟨y⟩⟩ := b
  simp only at h
  rw [h]
theorem ceE_inv {v : Value} {e : Ce} {ps : List MemPlace} (h : ceE v = some (ceD1 e, ps)) : v = ceV e := by
  unfold ceE at h
  split at h
  · rename_i cs
    split at h
    · rename_i k a hcs
      simp only [ceD1, Option.some.injEq, Prod.mk.injEq, DataW.agg.injEq, List.cons.injEq, DataW.lit.injEq, Lit.string.injEq, true_and, and_true] at h
      obtain ⟨⟨h1, h2⟩, _⟩ := h
      obtain ⟨ek, ea⟩ := e
      simp only at h1 h2
      rw [ba_of h1, ba_of h2] at hcs
      obtain ⟨cl⟩ := cs
      simp only at hcs
      rw [hcs]
    · cases h
  · cases h
theorem iCe : ∃ i, Try.prog.info? 75 = some i ∧ i.zero = some (ceV zCe) := by
  have h : (Try.prog.info? 75).bind (fun i => i.zero) = some (ceV zCe) := by kernel_rfl
  cases hi : Try.prog.info? 75 with
  | none => rw [hi] at h; cases h
  | some j => rw [hi] at h; exact ⟨j, rfl, h⟩
/-- the block is a map from keys to entries, of at most n of them -/
def MapC (w : World) (b n : Nat) (f : Ky → Option Ce) : Prop :=
  ∃ D, w.ownsMap Try.prog 23 ceE b n D ∧ (∀ k : Ky, FitK k → D.atKey (kyL k) (ceD none) = ceD (f k)) ∧ ∀ k : Ky, FitK k → Maps.has D (kyL k) = (f k).isSome
section
variable {w w' : World} {b n : Nat} {f : Ky → Option Ce}
theorem MapC.lt (h : MapC w b n f) : b < w.heap.size := by
  obtain ⟨D, h, _⟩ := h; exact h.lt
theorem MapC.made (w : World) : MapC (w.alloc (.map #[] 0)) w.heap.size 0 (fun _ => none) := ⟨.map [], World.ownsMap_made _ _ _ _, fun k _ => rfl, fun k _ => rfl⟩
theorem MapC.keep (h : MapC w b n f) (e : w'.heap[b]? = w.heap[b]?) : MapC w' b n f := by
  obtain ⟨D, ⟨es, clock, hb, r⟩, hf⟩ := h
  exact ⟨D, ⟨es, clock, e.trans hb, r⟩, hf⟩
theorem MapC.below (h : MapC w b n f) (hb : Below w.heap.size w w') : MapC w' b n f := h.keep (hb.block b h.lt)
theorem MapC.congr {f' : Ky → Option Ce} (h : MapC w b n f) (e : ∀ k, f k = f' k) : MapC w b n f' := by
  have : f = f' := funext e
  rw [← this]; exact h
theorem keyC_ne {x k : Ky} (hx : FitK x) (hk : FitK k) (h : x ≠ k) : kyL x ≠ kyL k := fun e => h (kyL_inj hx hk e)
theorem MapC.put {m : Nat} {D : DataW Unit} (h : w.ownsMap Try.prog 23 ceE b n D) (h1 : ∀ k : Ky, FitK k → D.atKey (kyL k) (ceD none) = ceD (f k)) (h2 : ∀ k : Ky, FitK k → Maps.has D (kyL k) = (f k).isSome) {k : Ky} (hk : FitK k) {e : Ce}
    (h' : w'.ownsMap Try.prog 23 ceE b m (D.put (kyL k) (ceD1 e))) : MapC w' b m (fun x => if x = k then some e else f x) := by
  refine ⟨_, h', fun x hx => ?_, fun x hx => ?_⟩
  · show _ = ceD (if x = k then some e else f x)
    by_cases hxk : x = k
    · subst hxk; rw [if_pos rfl]; exact atKey_put_same (h.isMap) (kyL_key _) _ _
    · rw [if_neg hxk, atKey_put_other (keyC_ne hx hk hxk)]; exact h1 x hx
  · show _ = (if x = k then some e else f x).isSome
    by_cases hxk : x = k
    · subst hxk; rw [if_pos rfl]; exact has_put_same h.isMap (kyL_key _) _
    · rw [if_neg hxk, has_put_other (keyC_ne hx hk hxk)]; exact h2 x hx
theorem MapC.del {D : DataW Unit} (h1 : ∀ k : Ky, FitK k → D.atKey (kyL k) (ceD none) = ceD (f k)) (h2 : ∀ k : Ky, FitK k → Maps.has D (kyL k) = (f k).isSome) {k : Ky} (hk : FitK k)
    (h' : w'.ownsMap Try.prog 23 ceE b n (D.del (kyL k))) : MapC w' b n (fun x => if x = k then none else f x) := by
  refine ⟨_, h', fun x hx => ?_, fun x hx => ?_⟩
  · show _ = ceD (if x = k then none else f x)
    by_cases hxk : x = k
    · subst hxk; rw [if_pos rfl]; exact atKey_del_same _
    · rw [if_neg hxk, atKey_del_other (keyC_ne hx hk hxk)]; exact h1 x hx
  · show _ = (if x = k then none else f x).isSome
    by_cases hxk : x = k
    · subst hxk; rw [if_pos rfl]; exact has_del_same
    · rw [if_neg hxk, has_del_other (keyC_ne hx hk hxk)]; exact h2 x hx
/-- 'e, ok := m[k]' -/
theorem MapC.look (h : MapC w b n f) (k : Ky) (hk : FitK k) :
    (Instr.lookup 63 (.map (some b)) (kyV k) true).run Try.prog w = .ok (.tuple #[ceV ((f k).getD zCe), .bool (f k).isSome]) w := by
  obtain ⟨D, hm, h1, h2⟩ := h
  have hz : (zeroValue 75).run Try.prog w = .ok (ceV zCe) w := by
    obtain ⟨i, hi, hz⟩ := iCe
    simp [zeroValue, typeInfo, hi, hz]
  obtain ⟨v, ps, hr, hv⟩ := hm.look_ok kK Try.underlying63 hz (zd := ceD none) (zp := []) (ceE_mk zCe) (keyK k hk)
  rw [h1 k hk] at hv
  rw [hr, h2 k hk, ceE_inv (e := (f k).getD zCe) hv]
end
end Go.Proofs.Ytjngangojgjceaa.CA
namespace Go.Proofs.Ytjngangojgjceaa.CA
open Go.ChangeShapes Go.WideShapes Go.ChangeAt Go.RowKit Go.Maps Go.ChangeMaps
open Go.Proofs.Ytjngangojgjceaa.SL Go.Proofs.Ytjngangojgjceaa.EX
set_option maxRecDepth 100000
set_option linter.unusedVariables false
set_option linter.unusedSimpArgs false

/-- where a cache's parts stand, and what it was made of -/
structure Cb where
  g : Nat
  s : Nat
  q : Nat
  m : Nat
  al : Int
  ke : Int
  mo : Int
  ttl : Int
abbrev cC (C : Cb) : Array Value := #[ptr C.g, .int .i64 C.ttl, .map (some C.m), ptr C.s, ptr C.q]
structure Cw where
  n : Nat
  nq : Nat
  nm : Nat
  x : Sx
  y : Qx
def Cw.own (c : Cw) (C : Cb) (b : Nat) : Prop := b = C.g ∨ b = C.m ∨ c.x.own C.s b ∨ c.y.own C.q b
structure CT (B : Nat) (w : World) (C : Cb) (N : Nat) (c : Cw) (σ : Sg) : Prop where
  bk : Bk w C.g 69 (cC C)
  st : St w C.s c.n C.al C.ke C.mo c.x
  qt : QT B w C.q c.nq c.y
  mp : MapC w C.m c.nm (fV σ.V)
  eT : c.x.tE = σ.T
  eK : c.x.kE = σ.K
  eI : c.y.L.map it = σ.I
  n1 : c.n ≤ 2000000000 + N
  n2 : c.nq ≤ N
  n3 : c.nm ≤ N
  bg : B ≤ C.g ∧ B ≤ C.m
  bx : ∀ b, c.x.own C.s b → B ≤ b
  gm : C.g ≠ C.m
  gx : ¬ c.x.own C.s C.g
  gy : ¬ c.y.own C.q C.g
  mx : ¬ c.x.own C.s C.m
  my : ¬ c.y.own C.q C.m
  xy : ∀ b, c.x.own C.s b → ¬ c.y.own C.q b
section
variable {B : Nat} {w w' : World} {C : Cb} {N : Nat} {c : Cw} {σ : Sg}
theorem CT.lt (h : CT B w C N c σ) {b : Nat} (hb : c.own C b) : b < w.heap.size := by
  rcases hb with rfl | rfl | hb | hb
  · exact h.bk.lt
  · exact h.mp.lt
  · exact h.st.lt hb
  · exact h.qt.lt hb
theorem CT.ge (h : CT B w C N c σ) {b : Nat} (hb : c.own C b) : B ≤ b := by
  rcases hb with rfl | rfl | hb | hb
  · exact h.bg.1
  · exact h.bg.2
  · exact h.bx b hb
  · exact h.qt.ge hb
theorem CT.keep (h : CT B w C N c σ) (hk : ∀ b, c.own C b → w'.heap[b]? = w.heap[b]?) : CT B w' C N c σ :=
  { h with
    bk := h.bk.heap (hk _ (.inl rfl))
    st := h.st.keep fun b hb => hk b (.inr (.inr (.inl hb)))
    qt := h.qt.keep fun b hb => hk b (.inr (.inr (.inr hb)))
    mp := h.mp.keep (hk _ (.inr (.inl rfl))) }
theorem CT.below (h : CT B w C N c σ) (hb : Below w.heap.size w w') : CT B w' C N c σ := h.keep fun b ho => hb.block b (h.lt ho)
theorem CT.mono (h : CT B w C N c σ) {N' : Nat} (hN : N ≤ N') : CT B w C N' c σ := { h with n1 := by have := h.n1; omega, n2 := Nat.le_trans h.n2 hN, n3 := Nat.le_trans h.n3 hN }
/-- a step of the store -/
theorem CT.sStep (h : CT B w C N c σ) (hB : B ≤ w.heap.size) {x' : Sx} {n' : Nat} (hs : St w' C.s n' C.al C.ke C.mo x') (ho : ∀ b, x'.own C.s b → c.x.own C.s b ∨ w.heap.size ≤ b) (hc : Chg (c.x.own C.s) w w') (hn : n' ≤ 2000000000 + N) {T' K' : List En} (eT : x'.tE = T') (eK : x'.kE = K') :
    CT B w' C N { c with n := n', x := x' } ⟨T', K', σ.I, σ.V⟩ where
  bk := h.bk.chg hc h.gx
  st := hs
  qt := h.qt.chg hc fun b hb hx => h.xy b hx hb
  mp := h.mp.keep (hc.block _ h.mp.lt h.mx)
  eT := eT
  eK := eK
  eI := h.eI
  n1 := hn
  n2 := h.n2
  n3 := h.n3
  bg := h.bg
  bx := fun b hb => (ho b hb).elim (h.bx b) (fun h2 => Nat.le_trans hB h2)
  gm := h.gm
  gx := fun hb => (ho _ hb).elim h.gx (fun h2 => by have := h.bk.lt; omega)
  gy := h.gy
  mx := fun hb => (ho _ hb).elim h.mx (fun h2 => by have := h.mp.lt; omega)
  my := h.my
  xy := fun b hb hy => (ho b hb).elim (fun h2 => h.xy b h2 hy) (fun h2 => by have := h.qt.lt hy; omega)
/-- a step of the queue -/
theorem CT.qStep (h : CT B w C N c σ) {y' : Qx} {n' : Nat} (hs : QT B w' C.q n' y') (ho : ∀ b, y'.own C.q b → c.y.own C.q b ∨ w.heap.size ≤ b) (hc : Chg (c.y.own C.q) w w') (hn : n' ≤ N) {I' : List It} (eI : y'.L.map it = I') :
    CT B w' C N { c with nq := n', y := y' } ⟨σ.T, σ.K, I', σ.V⟩ where
  bk := h.bk.chg hc h.gy
  st := h.st.chg hc fun b hb hx => h.xy b hb hx
  qt := hs
  mp := h.mp.keep (hc.block _ h.mp.lt h.my)
  eT := h.eT
  eK := h.eK
  eI := eI
  n1 := h.n1
  n2 := hn
  n3 := h.n3
  bg := h.bg
  bx := h.bx
  gm := h.gm
  gx := h.gx
  gy := fun hb => (ho _ hb).elim h.gy (fun h2 => by have := h.bk.lt; omega)
  mx := h.mx
  my := fun hb => (ho _ hb).elim h.my (fun h2 => by have := h.mp.lt; omega)
  xy := fun b hb hy => (ho b hy).elim (fun h2 => h.xy b hb h2) (fun h2 => by have := h.st.lt hb; omega)
/-- a step of the map -/
theorem CT.mStep (h : CT B w C N c σ) {n' : Nat} {V' : Vm} (hs : MapC w' C.m n' (fV V')) (hg : w.grownBy w' (some C.m)) (hn : n' ≤ N) : CT B w' C N { c with nm := n' } ⟨σ.T, σ.K, σ.I, V'⟩ where
  bk := EX.Bk.grown h.bk hg fun q hq => by injection hq with hq; rw [← hq]; exact h.gm
  st := h.st.keep fun b hb => hg.block b (h.st.lt hb) (fun e => by injection e with e; rw [e] at hb; exact h.mx hb)
  qt := h.qt.keep fun b hb => hg.block b (h.qt.lt hb) (fun e => by injection e with e; rw [e] at hb; exact h.my hb)
  mp := hs
  eT := h.eT
  eK := h.eK
  eI := h.eI
  n1 := h.n1
  n2 := h.n2
  n3 := hn
  bg := h.bg
  bx := h.bx
  gm := h.gm
  gx := h.gx
  gy := h.gy
  mx := h.mx
  my := h.my
  xy := h.xy
theorem CT.cells (h : CT B w C N c σ) : w.cell? ⟨C.g, 0, none⟩ = some (ptr C.g) ∧ w.cell? ⟨C.g, 1, none⟩ = some (.int .i64 C.ttl) ∧ w.cell? ⟨C.g, 2, none⟩ = some (.map (some C.m)) ∧ w.cell? ⟨C.g, 3, none⟩ = some (ptr C.s) ∧ w.cell? ⟨C.g, 4, none⟩ = some (ptr C.q) :=
  ⟨h.bk.cell 0, h.bk.cell 1, h.bk.cell 2, h.bk.cell 3, h.bk.cell 4⟩
end
/-- a cache made since w0, and what lies apart from it -/
def LC (w0 w : World) (C : Cb) (N : Nat) (σ : Sg) (O : List Kp) : Prop := ∃ c, CT w0.heap.size w C N c σ ∧ Below w0.heap.size w0 w ∧ ∀ p ∈ O, p.ok w0.heap.size w (c.own C)
section
variable {w0 w w' : World} {C : Cb} {N : Nat} {σ : Sg} {O : List Kp}
theorem LC.bel (h : LC w0 w C N σ O) : Below w0.heap.size w0 w := by obtain ⟨c, _, h, _⟩ := h; exact h
theorem LC.below (h : LC w0 w C N σ O) (hb : Below w.heap.size w w') : LC w0 w' C N σ O := by
  obtain ⟨c, h1, h2, h3⟩ := h
  exact ⟨c, h1.below hb, h2.trans (hb.mono h2.size), fun p hp => (h3 p hp).below hb⟩
theorem LC.mono (h : LC w0 w C N σ O) {N' : Nat} (hN : N ≤ N') : LC w0 w C N' σ O := by
  obtain ⟨c, h1, h2, h3⟩ := h
  exact ⟨c, h1.mono hN, h2, h3⟩
theorem LC.told (h : LC w0 w C N σ O) {v : Value} {d : List ByteArray} (hp : Kp.txt v d ∈ O) : OT w0.heap.size w v d := by obtain ⟨c, h1, h2, h3⟩ := h; exact (h3 _ hp).1
theorem LC.blk (h : LC w0 w C N σ O) {b : Nat} {t : TypeId} {cs : Array Value} (hp : Kp.blk b t cs ∈ O) : Bk w b t cs := by obtain ⟨c, h1, h2, h3⟩ := h; exact (h3 _ hp).1
theorem LC.kp (h : LC w0 w C N σ O) {P : World → Prop} {S : Nat → Prop} (hp : Kp.keep P S ∈ O) : P w := by obtain ⟨c, h1, h2, h3⟩ := h; exact (h3 _ hp).1
theorem LC.forget (h : LC w0 w C N σ O) {O' : List Kp} (hO : ∀ p ∈ O', p ∈ O) : LC w0 w C N σ O' := by
  obtain ⟨c, h1, h2, h3⟩ := h
  exact ⟨c, h1, h2, fun p hp => h3 p (hO p hp)⟩
theorem LC.nil (h : LC w0 w C N σ O) : LC w0 w C N σ [] := h.forget fun p hp => by cases hp
theorem LC.cells (h : LC w0 w C N σ O) : w.cell? ⟨C.g, 0, none⟩ = some (ptr C.g) ∧ w.cell? ⟨C.g, 1, none⟩ = some (.int .i64 C.ttl) ∧ w.cell? ⟨C.g, 2, none⟩ = some (.map (some C.m)) ∧ w.cell? ⟨C.g, 3, none⟩ = some (ptr C.s) ∧ w.cell? ⟨C.g, 4, none⟩ = some (ptr C.q) := by
  obtain ⟨c, h1, _⟩ := h; exact h1.cells
theorem LC.glt (h : LC w0 w C N σ O) : C.g < w.heap.size := by obtain ⟨c, h1, _⟩ := h; exact h1.bk.lt
theorem LC.blkO (h : LC w0 w C N σ O) (hb : Below w.heap.size w w') {b : Nat} {t : TypeId} {cs : Array Value} (hn : w.heap.size ≤ b) (hk : Bk w' b t cs) : LC w0 w' C N σ (.blk b t cs :: O) := by
  obtain ⟨c, h1, h2, h3⟩ := h
  refine ⟨c, h1.below hb, h2.trans (hb.mono h2.size), fun p hp => ?_⟩
  rcases List.mem_cons.1 hp with rfl | hp
  · exact ⟨hk, fun ho => by have := h1.lt ho; omega⟩
  · exact (h3 p hp).below hb
theorem LC.addO (h : LC w0 w C N σ O) (hb : Below w.heap.size w w') {P : World → Prop} {S : Nat → Prop} (hP : P w') (hS : ∀ b, S b → w.heap.size ≤ b ∧ b < w'.heap.size) (hk : ∀ w1 w2, P w1 → (∀ b, S b → w2.heap[b]? = w1.heap[b]?) → P w2) : LC w0 w' C N σ (.keep P S :: O) := by
  obtain ⟨c, h1, h2, h3⟩ := h
  refine ⟨c, h1.below hb, h2.trans (hb.mono h2.size), fun p hp => ?_⟩
  rcases List.mem_cons.1 hp with rfl | hp
  · exact ⟨hP, fun b hb2 => ⟨(hS b hb2).2, fun ho => by have := h1.lt ho; have := (hS b hb2).1; omega⟩, hk⟩
  · exact (h3 p hp).below hb
theorem LC.facts (h : LC w0 w C N σ O) : UK σ.T σ.K ∧ posE σ.T ∧ posE σ.K ∧ (keysI σ.I).Nodup ∧ σ.I.Pairwise (fun a b => a.2 ≤ b.2) ∧ σ.I.length ≤ N ∧ σ.T.length + σ.K.length ≤ 1073741824 ∧ sumE σ.T + sumE σ.K ≤ 1073741824 := by
  obtain ⟨c, h1, h2, h3⟩ := h
  have r2 := h1.st.ring2
  have pos := h1.st.gg.en_pos
  have ln := h1.st.len
  have lim := h1.st.lim
  have hL : LQ w0 w C.q c.nq σ.I [] := ⟨c.y, h1.qt, h1.eI, h2, fun p hp => by cases hp⟩
  have si := hL.si
  have := h1.n2
  rw [← h1.eT, ← h1.eK]
  exact ⟨⟨r2.1, r2.2.1, r2.2.2⟩, pos.1, pos.2, si.2.1, si.1, Nat.le_trans si.2.2 this, ln, lim⟩
theorem lc_s {c : Cw} (h1 : CT w0.heap.size w C N c σ) (h2 : Below w0.heap.size w0 w) (h3 : ∀ p ∈ O, p.ok w0.heap.size w (c.own C)) {N' : Nat} (hN : N ≤ N') {x' : Sx} {n' : Nat} (hs : St w' C.s n' C.al C.ke C.mo x') (ho : ∀ b, x'.own C.s b → c.x.own C.s b ∨ w.heap.size ≤ b) (hc : Chg (c.x.own C.s) w w') (hn : n' ≤ 2000000000 + N') {T' K' : List En} (eT : x'.tE = T') (eK : x'.kE = K') :
    CT w0.heap.size w' C N' { c with n := n', x := x' } ⟨T', K', σ.I, σ.V⟩ ∧ Below w0.heap.size w0 w' ∧ (∀ p ∈ O, p.ok w0.heap.size w' (({ c with n := n', x := x' } : Cw).own C)) := by
  refine ⟨(h1.mono hN).sStep h2.size hs ho hc hn eT eK, below_chg h2 hc h1.bx, fun p hp => ?_⟩
  refine (h3 p hp).chg (hc.mono fun b _ hb => .inr (.inr (.inl hb))) fun b hb hx => ?_
  rcases hx with hx | hx | hx | hx
  · exact .inl hx
  · exact .inr (.inl hx)
  · exact (ho b hx).elim (fun h => .inr (.inr (.inl h))) (fun h => by omega)
  · exact .inr (.inr (.inr hx))
theorem lc_q {c : Cw} (h1 : CT w0.heap.size w C N c σ) (h2 : Below w0.heap.size w0 w) (h3 : ∀ p ∈ O, p.ok w0.heap.size w (c.own C)) {N' : Nat} (hN : N ≤ N') {y' : Qx} {n' : Nat} (hs : QT w0.heap.size w' C.q n' y') (ho : ∀ b, y'.own C.q b → c.y.own C.q b ∨ w.heap.size ≤ b) (hc : Chg (c.y.own C.q) w w') (hn : n' ≤ N') {I' : List It} (eI : y'.L.map it = I') :
    CT w0.heap.size w' C N' { c with nq := n', y := y' } ⟨σ.T, σ.K, I', σ.V⟩ ∧ Below w0.heap.size w0 w' ∧ (∀ p ∈ O, p.ok w0.heap.size w' (({ c with nq := n', y := y' } : Cw).own C)) := by
  refine ⟨(h1.mono hN).qStep hs ho hc hn eI, below_chg h2 hc (fun b hb => h1.qt.ge hb), fun p hp => ?_⟩
  refine (h3 p hp).chg (hc.mono fun b _ hb => .inr (.inr (.inr hb))) fun b hb hx => ?_
  rcases hx with hx | hx | hx | hx
  · exact .inl hx
  · exact .inr (.inl hx)
  · exact .inr (.inr (.inl hx))
  · exact (ho b hx).elim (fun h => .inr (.inr (.inr h))) (fun h => by omega)
/-- what a call tells of texts, and makes -/
def TxtP (w0 : World) (C : Cb) (N : Nat) (σ : Sg) (O : List Kp) (f : Value → Value) (G : List ByteArray) (e : Ending) (w' : World) : Prop :=
  ∃ v c, e = .returned (f (.slice v G.length c)) ∧ LC w0 w' C N σ (.txt (.slice v G.length c) G :: O)
abbrev two (a v : Value) : Value := .tuple #[v, a]
theorem lc_tell {c : Cw} (h1 : CT w0.heap.size w C N c σ) (h2 : Below w0.heap.size w0 w) (h3 : ∀ p ∈ O, p.ok w0.heap.size w (c.own C)) {N' n' : Nat} (hN : N ≤ N') (hn : n' ≤ 2000000000 + N') {R : List En × List En × List ByteArray} {a : Value} {e : Ending}
    (t : TellP C.s c.n n' C.al C.ke C.mo c.x R a w e w') : TxtP w0 C N' ⟨R.1, R.2.1, σ.I, σ.V⟩ O (two a) R.2.2 e w' := by
  obtain ⟨v, x', t1, t2, t3, t4, t5, t6, t7⟩ := t
  obtain ⟨va, vc, rfl⟩ := SL.OT.form t2
  obtain ⟨k1, k2, k3⟩ := lc_s h1 h2 h3 hN t3 (fun b hb => (t6 b hb).imp id (·.1)) t7 hn t4 t5
  refine ⟨va, vc, t1, _, k1, k2, fun p hp => ?_⟩
  rcases List.mem_cons.1 hp with rfl | hp
  · refine ⟨OT.mono t2 h2.size, fun q hq hx => ?_⟩
    have hq1 := (World.ownsRow.lt t2 q hq).1
    rcases hx with hx | hx | hx | hx
    · have := h1.bk.lt; omega
    · have := h1.mp.lt; omega
    · rcases t6 q hx with h | h
      · have := h1.st.lt h; omega
      · exact h.2 hq
    · have := h1.qt.lt hx; omega
  · exact k3 p hp
theorem lc_sput (h : LC w0 w C N σ O) (hal : C.mo ≤ C.al ∧ C.al ≤ 1073741824) (hN : N ≤ 1000000) (hT : kLe σ.T) (hK : kLe σ.K) (t : ByteArray) (ht : t.size ≤ 281474976710656) (z : Int) (hz : 1 ≤ z) (hm : z ≤ C.mo) (T' K' : List En) (G : List ByteArray) (hR : putE C.al t z σ.T σ.K = (T', K', G)) :
    Calls Try.prog 33 #[ptr C.s, .string t, .int .i64 z] w (TxtP w0 C (N + 1) ⟨T', K', σ.I, σ.V⟩ O (two (.int .i64 0)) G) := by
  obtain ⟨c, h1, h2, h3⟩ := h
  have hn := h1.n1
  refine (put_ok w C.s c.n C.al C.ke C.mo c.x h1.st hal (by omega) (fun y hy => (List.mem_append.1 hy).elim (fun e => hT y (by rw [← h1.eT]; exact e)) (fun e => hK y (by rw [← h1.eK]; exact e))) t ht z hz hm (T', K', G) (by rw [h1.eT, h1.eK]; exact hR)).mono ?_
  intro e w' tt
  exact lc_tell h1 h2 h3 (Nat.le_succ _) (by omega) tt
theorem lc_slow (h : LC w0 w C N σ O) (t : ByteArray) (z : Int) (hz : z < 1) :
    Calls Try.prog 33 #[ptr C.s, .string t, .int .i64 z] w fun e w' => e = .returned (.tuple #[.slice none 0 0, .int .i64 1]) ∧ w = w' := by
  obtain ⟨c, h1, _⟩ := h
  exact put_low w C.s c.n _ _ _ c.x h1.st t z hz
theorem lc_sbig (h : LC w0 w C N σ O) (t : ByteArray) (z : Int) (hz : 1 ≤ z) (hm : C.mo < z) :
    Calls Try.prog 33 #[ptr C.s, .string t, .int .i64 z] w fun e w' => e = .returned (.tuple #[.slice none 0 0, .int .i64 2]) ∧ w = w' := by
  obtain ⟨c, h1, _⟩ := h
  exact put_big w C.s c.n _ _ _ c.x h1.st t z hz hm
theorem lc_stouch (h : LC w0 w C N σ O) (hke : 0 ≤ C.ke) (hsk : sumE σ.K ≤ C.ke) (t : ByteArray) (ht : t.size ≤ 281474976710656) (z : Int) (hz : hasS t σ.T σ.K = some z) (T' K' : List En) (G : List ByteArray) (hR : touchE C.ke t z σ.T σ.K = (T', K', G)) :
    Calls Try.prog 40 #[ptr C.s, .string t] w (TxtP w0 C N ⟨T', K', σ.I, σ.V⟩ O (two (.bool true)) G) := by
  obtain ⟨c, h1, h2, h3⟩ := h
  refine (touch_yes w C.s c.n C.al C.ke C.mo c.x h1.st hke (by rw [h1.eK]; exact hsk) t ht z (by rw [h1.eT, h1.eK]; exact hz)).mono ?_
  intro e w' tt
  rw [h1.eT, h1.eK, hR] at tt
  exact lc_tell h1 h2 h3 (Nat.le_refl _) h1.n1 tt
def RetC (w0 : World) (C : Cb) (N : Nat) (σ : Sg) (O : List Kp) (v : Value) (e : Ending) (w' : World) : Prop := e = .returned v ∧ LC w0 w' C N σ O
theorem lc_sdrop (h : LC w0 w C N σ O) (t : ByteArray) (ht : t.size ≤ 281474976710656) (T' K' : List En) (hT : delE t σ.T = T') (hK : delE t σ.K = K') :
    Calls Try.prog 53 #[ptr C.s, .string t] w (fun e w' => (∃ b, e = .returned (.bool b)) ∧ LC w0 w' C N ⟨T', K', σ.I, σ.V⟩ O) := by
  obtain ⟨c, h1, h2, h3⟩ := h
  refine (SL.drop_any w C.s c.n C.al C.ke C.mo c.x h1.st t ht).mono ?_
  rintro e w' ⟨he, x', s1, s2, s3, s4, s5, s6⟩
  rw [h1.eT, hT] at s2
  rw [h1.eK, hK] at s3
  exact ⟨⟨_, he⟩, _, lc_s h1 h2 h3 (Nat.le_refl _) s1 (fun b hb => .inl (s4 b hb)) s5 h1.n1 s2 s3⟩
theorem lc_sbytesT (h : LC w0 w C N σ O) (z : Int) (hz : sumE σ.T = z) : Calls Try.prog 41 #[ptr C.s, .bool false] w (fun e w' => e = .returned (.int .i64 z) ∧ ∃ m, w' = w.drewN m) := by
  obtain ⟨c, h1, h2, h3⟩ := h
  rw [← hz, ← h1.eT]
  exact bytes_false w C.s c.n _ _ _ c.x h1.st
theorem lc_sbytesK (h : LC w0 w C N σ O) (z : Int) (hz : sumE σ.K = z) : Calls Try.prog 41 #[ptr C.s, .bool true] w (fun e w' => e = .returned (.int .i64 z) ∧ ∃ m, w' = w.drewN m) := by
  obtain ⟨c, h1, h2, h3⟩ := h
  rw [← hz, ← h1.eK]
  exact bytes_true w C.s c.n _ _ _ c.x h1.st
theorem lc_qset (h : LC w0 w C N σ O) (t : ByteArray) (ht : t.size ≤ 281474976710656) (a : Int) (ha : 0 ≤ a ∧ a ≤ 1099511627776) (hN : N ≤ 480) (I' : List It) (hI : setI t a σ.I = I') :
    Calls Try.prog 35 #[ptr C.q, .string t, .int .i64 a] w (RetC w0 C (N + 1) ⟨σ.T, σ.K, I', σ.V⟩ O (.int .i64 0)) := by
  obtain ⟨c, h1, h2, h3⟩ := h
  have := h1.n2
  refine (EX.set_any w w0.heap.size C.q c.nq c.y h1.qt t ht a ha (by omega) h2.size).mono ?_
  rintro e w' ⟨rfl, y', q1, q2, q3, q4⟩
  rw [h1.eI, hI] at q2
  exact ⟨rfl, _, lc_q h1 h2 h3 (Nat.le_succ _) q1 q3 q4 (by omega) q2⟩
theorem lc_qdrop (h : LC w0 w C N σ O) (t : ByteArray) (ht : t.size ≤ 281474976710656) (hN : N ≤ 490) (I' : List It) (hI : dropI t σ.I = I') :
    Calls Try.prog 58 #[ptr C.q, .string t] w (fun e w' => (∃ b, e = .returned (.bool b)) ∧ LC w0 w' C N ⟨σ.T, σ.K, I', σ.V⟩ O) := by
  obtain ⟨c, h1, h2, h3⟩ := h
  have := h1.n2
  refine (EX.drop_any w w0.heap.size C.q c.nq c.y h1.qt t ht (by omega) h2.size).mono ?_
  rintro e w' ⟨rfl, y', q1, q2, q3, q4⟩
  rw [h1.eI, hI] at q2
  exact ⟨⟨_, rfl⟩, _, lc_q h1 h2 h3 (Nat.le_refl _) q1 q3 q4 h1.n2 q2⟩
theorem lc_qat (h : LC w0 w C N σ O) (t : ByteArray) (ht : t.size ≤ 281474976710656) (v : Value) (hv : AtI (atI t σ.I) = v) :
    Calls Try.prog 38 #[ptr C.q, .string t] w fun e w' => e = .returned v ∧ Below w.heap.size w w' := by
  obtain ⟨c, h1, h2, h3⟩ := h
  exact EX.at_any w w0.heap.size C.q c.nq c.y h1.qt t ht v (by rw [at_I, h1.eI]; exact hv)
/-- 'e, ok := c.entries[k]' -/
theorem lc_look (h : LC w0 w C N σ O) (k : Ky) (hk : FitK k) :
    (Instr.lookup 63 (.map (some C.m)) (kyV k) true).run Try.prog w = .ok (.tuple #[ceV ((fV σ.V k).getD zCe), .bool (fV σ.V k).isSome]) w := by
  obtain ⟨c, h1, _⟩ := h
  exact h1.mp.look k hk
theorem lc_m {c : Cw} (h1 : CT w0.heap.size w C N c σ) (h2 : Below w0.heap.size w0 w) (h3 : ∀ p ∈ O, p.ok w0.heap.size w (c.own C)) {N' : Nat} (hN : N ≤ N') {n' : Nat} {V' : Vm} (hs : MapC w' C.m n' (fV V')) (hg : w.grownBy w' (some C.m)) (hn : n' ≤ N') : LC w0 w' C N' ⟨σ.T, σ.K, σ.I, V'⟩ O := by
  have hc : Chg (fun b => b = C.m) w w' := (Chg.refl _ w).grown hg fun k hk _ => by injection hk with hk; exact hk.symm
  refine ⟨_, (h1.mono hN).mStep hs hg hn, below_chg h2 hc (fun b hb => by rw [hb]; exact h1.bg.2), fun p hp => ?_⟩
  exact (h3 p hp).chg (hc.mono fun b _ hb => .inr (.inl hb)) fun b _ hx => hx
theorem lc_mput (h : LC w0 w C N σ O) (hN : N ≤ 1000000) (k : Ky) (hk : FitK k) (hr : rightK k = true) (v : ByteArray) :
    ∃ w', (Instr.mapUpdate 63 (.map (some C.m)) (kyV k) (ceV (textK k, v))).run Try.prog w = .ok () w' ∧ LC w0 w' C (N + 1) ⟨σ.T, σ.K, σ.I, setV (textK k) v σ.V⟩ O := by
  obtain ⟨c, h1, h2, h3⟩ := h
  obtain ⟨D, hm, d1, d2⟩ := h1.mp
  have hn3 := h1.n3
  obtain ⟨w', hrun, ho, hg⟩ := hm.update kK Try.underlying63 (by unfold maxLen; omega) (keyK k hk) (val := ceV (textK k, v)) (ceE_mk (textK k, v))
  have hM := (MapC.put (e := (textK k, v)) hm d1 d2 hk ho).congr (f' := fV (setV (textK k) v σ.V)) (fun x => (fV_set hr v σ.V x).symm)
  exact ⟨w', hrun, lc_m h1 h2 h3 (Nat.le_succ _) hM hg (by omega)⟩
theorem lc_mdel (h : LC w0 w C N σ O) (k : Ky) (hk : FitK k) (hr : rightK k = true) (ty : TypeId) :
    ∃ w', (Builtin.delete_ #[63, 23] ty #[.map (some C.m), kyV k]).run Try.prog w = .ok (.tuple #[]) w' ∧ LC w0 w' C N ⟨σ.T, σ.K, σ.I, delV (textK k) σ.V⟩ O := by
  obtain ⟨c, h1, h2, h3⟩ := h
  obtain ⟨D, hm, d1, d2⟩ := h1.mp
  obtain ⟨w', hrun, ho, ht⟩ := hm.drop kK Try.underlying63 (keyK k hk) ty
  have hM := (MapC.del d1 d2 hk ho).congr (f' := fV (delV (textK k) σ.V)) (fun x => (fV_del hr σ.V x).symm)
  exact ⟨w', hrun, lc_m h1 h2 h3 (Nat.le_refl _) hM ht.grown h1.n3⟩
end
end Go.Proofs.Ytjngangojgjceaa.CA
