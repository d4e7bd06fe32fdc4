/- A queue of package expiry as plain items, beside what it told. Conditions: how long keys are, how many sets there were. -/
import Derived.Test.YtfilmbeoggmglaaExr
namespace Go.Proofs.Ytfilmbeoggmglaa.EX
open Go.ChangeShapes Go.WideShapes Go.ChangeAt Go.RowKit Go.Maps Go.ChangeMaps
open Go.Proofs.Ytfilmbeoggmglaa.SL Go.Proofs.Ytfilmbeoggmglaa.RW
set_option maxRecDepth 100000
set_option linter.unusedVariables false
set_option linter.unusedSimpArgs false

theorem bel_drew {w w' : World} {m : Nat} (h : w' = w.drewN m) : Below w.heap.size w w' := by rw [h]; exact below_drewN _ _ _
/-- at block g stands a queue with these items, made since w0, of so many sets; what O names lies apart -/
def LQ (w0 w : World) (g n : Nat) (I : List It) (O : List Kp) : Prop :=
  ∃ x, QT w0.heap.size w g n x ∧ x.L.map it = I ∧ Below w0.heap.size w0 w ∧ ∀ p ∈ O, p.ok w0.heap.size w (x.own g)
theorem fnd_atI (k : ByteArray) (L : List Et) : atI k (L.map it) = (fnd k L).map (·.2.1) := by
  unfold atI fnd
  rw [List.find?_map, Option.map_map]
  rfl
def AtI (o : Option Int) : Value := .tuple #[.int .i64 (o.getD 0), .bool o.isSome]
theorem at_I (k : ByteArray) (L : List Et) : AtV (fnd k L) = AtI (atI k (L.map it)) := by
  rw [fnd_atI]
  cases fnd k L with
  | none => rfl
  | some e => rfl
def NexI (o : Option It) : Value := .tuple #[.int .i64 (match o with | some e => e.2 | none => 0), .bool o.isSome]
theorem next_I (L : List Et) : NexV L.head? = NexI (L.map it).head? := by
  cases L with
  | nil => rfl
  | cons e L => rfl
section
variable {w0 w w' : World} {g n : Nat} {I : List It} {O : List Kp}
theorem LQ.bel (h : LQ w0 w g n I O) : Below w0.heap.size w0 w := by obtain ⟨x, _, _, h, _⟩ := h; exact h
theorem LQ.below (h : LQ w0 w g n I O) (hb : Below w.heap.size w w') : LQ w0 w' g n I O := by
  obtain ⟨x, h1, h2, h3, h4⟩ := h
  exact ⟨x, h1.below hb, h2, h3.trans (hb.mono h3.size), fun p hp => (h4 p hp).below hb⟩
theorem LQ.told (h : LQ w0 w g n I O) {v : Value} {d : List ByteArray} (hp : Kp.txt v d ∈ O) : OT w0.heap.size w v d := by obtain ⟨x, h1, h2, h3, h4⟩ := h; exact (h4 _ hp).1
theorem LQ.blk (h : LQ w0 w g n I O) {b : Nat} {t : TypeId} {cs : Array Value} (hp : Kp.blk b t cs ∈ O) : Bk w b t cs := by obtain ⟨x, h1, h2, h3, h4⟩ := h; exact (h4 _ hp).1
theorem LQ.forget (h : LQ w0 w g n I O) {O' : List Kp} (hO : ∀ p ∈ O', p ∈ O) : LQ w0 w g n I O' := by
  obtain ⟨x, h1, h2, h3, h4⟩ := h
  exact ⟨x, h1, h2, h3, fun p hp => h4 p (hO p hp)⟩
theorem LQ.nil (h : LQ w0 w g n I O) : LQ w0 w g n I [] := h.forget fun p hp => by cases hp
theorem LQ.box (h : LQ w0 w g n I O) (t : TypeId) (cs : Array Value) : LQ w0 (w.alloc (.cells cs t)) g n I (.blk w.heap.size t cs :: O) := by
  obtain ⟨x, h1, h2, h3, h4⟩ := h
  have hb : Below w.heap.size w (w.alloc (.cells cs t)) := (Below.refl _ _).alloc (Nat.le_refl _) _
  refine ⟨x, h1.below hb, h2, h3.trans (hb.mono h3.size), fun p hp => ?_⟩
  rcases List.mem_cons.1 hp with rfl | hp
  · exact ⟨Bk.new _ _ _, fun hx => by have := h1.lt hx; omega⟩
  · exact (h4 p hp).below hb
theorem LQ.add (h : LQ w0 w g n I O) (hb : Below w.heap.size w w') {v : Value} {d : List ByteArray} (hv : OT w.heap.size w' v d) : LQ w0 w' g n I (.txt v d :: O) := by
  obtain ⟨x, h1, h2, h3, h4⟩ := h
  refine ⟨x, h1.below hb, h2, h3.trans (hb.mono h3.size), fun p hp => ?_⟩
  rcases List.mem_cons.1 hp with rfl | hp
  · exact ⟨OT.mono hv h3.size, (h1.below hb).offT hv⟩
  · exact (h4 p hp).below hb
theorem LQ.si (h : LQ w0 w g n I O) : I.Pairwise (fun a b => a.2 ≤ b.2) ∧ (keysI I).Nodup ∧ I.length ≤ n := by
  obtain ⟨x, h1, rfl, _, _⟩ := h
  refine ⟨?_, ?_, by rw [List.length_map]; exact h1.le⟩
  · rw [List.pairwise_map]
    exact h1.sr.ord.imp fun {a b} hab => by
      show a.2.1 ≤ b.2.1
      unfold ltE at hab
      omega
  · have := h1.sr.uq
    unfold keysI
    rw [List.map_map]; exact this
theorem lq_step {x : Qx} {n' : Nat} {I' : List It} (h1 : QT w0.heap.size w g n x) (h3 : Below w0.heap.size w0 w) (h4 : ∀ p ∈ O, p.ok w0.heap.size w (x.own g)) (hs : StepQ w0.heap.size g n' x I' w w') : LQ w0 w' g n' I' O := by
  obtain ⟨x', q1, q2, q3, q4⟩ := hs
  refine ⟨x', q1, q2, below_chg h3 q4 (fun b hb => h1.ge hb), fun p hp => (h4 p hp).chg q4 fun b hb ho => (q3 b ho).elim id fun h => absurd hb (Nat.not_lt.2 h)⟩
theorem lq_new (w0 w : World) (h0 : Below w0.heap.size w0 w) : Calls Try.prog 26 #[] w fun e w' => ∃ g, e = .returned (ptr g) ∧ LQ w0 w' g 0 [] [] ∧ Below w.heap.size w w' := by
  refine (new_any w w0.heap.size h0.size).mono ?_
  rintro e w' ⟨g, x, rfl, h1, h2, h3, h4⟩
  exact ⟨g, rfl, ⟨x, h1, by rw [h2]; rfl, h0.trans (h4.mono h0.size), fun p hp => by cases hp⟩, h4⟩
theorem lq_set (h : LQ w0 w g n I O) (k : ByteArray) (hk : k.size ≤ 281474976710656) (t : Int) (ht : 0 ≤ t ∧ t ≤ 1099511627776) (hn : n ≤ 490) (I' : List It) (hI : setI k t I = I') :
    Calls Try.prog 27 #[ptr g, .string k, .int .i64 t] w fun e w' => e = .returned (.int .i64 0) ∧ LQ w0 w' g (n + 1) I' O := by
  obtain ⟨x, h1, rfl, h3, h4⟩ := h
  subst hI
  refine (set_any w w0.heap.size g n x h1 k hk t ht hn h3.size).mono ?_
  rintro e w' ⟨rfl, hs⟩
  exact ⟨rfl, lq_step h1 h3 h4 hs⟩
theorem lq_err (h : LQ w0 w g n I O) (k : ByteArray) (t : Int) (ht : ¬ (0 ≤ t ∧ t ≤ 1099511627776)) :
    Calls Try.prog 27 #[ptr g, .string k, .int .i64 t] w fun e w' => e = .returned (.int .i64 1) ∧ w = w' := by
  obtain ⟨x, h1, _⟩ := h
  exact set_err w w0.heap.size g n x h1 k t ht
theorem lq_drop (h : LQ w0 w g n I O) (k : ByteArray) (hk : k.size ≤ 281474976710656) (hn : n ≤ 500) (I' : List It) (hI : dropI k I = I') (b : Bool) (hb : (atI k I).isSome = b) :
    Calls Try.prog 29 #[ptr g, .string k] w fun e w' => e = .returned (.bool b) ∧ LQ w0 w' g n I' O := by
  obtain ⟨x, h1, rfl, h3, h4⟩ := h
  subst hI hb
  refine (drop_any w w0.heap.size g n x h1 k hk hn h3.size).mono ?_
  rintro e w' ⟨rfl, hs⟩
  refine ⟨?_, lq_step h1 h3 h4 hs⟩
  rw [fnd_atI, Option.isSome_map]
theorem lq_due (h : LQ w0 w g n I O) (now : Int) (hk : ∀ y ∈ I, y.1.size ≤ 281474976710656) (hn : n ≤ 500) (I' : List It) (hI : gtI now I = I') (d : List ByteArray) (hd : keysI (leI now I) = d) :
    Calls Try.prog 31 #[ptr g, .int .i64 now] w fun e w' => ∃ v c, e = .returned (.slice v d.length c) ∧ LQ w0 w' g n I' (.txt (.slice v d.length c) d :: O) := by
  obtain ⟨x, h1, rfl, h3, h4⟩ := h
  subst hI
  refine (due_any w w0.heap.size g n x h1 now (fun e he => hk (it e) (List.mem_map_of_mem he)) hn h3.size).mono ?_
  rintro e w' ⟨u, rfl, ou, hs⟩
  have he : keysT (leL now x.L) = d := by rw [← hd, ← it_leL]; unfold keysT keysI; rw [List.map_map]; rfl
  rw [he] at ou
  obtain ⟨va, vc, rfl⟩ := ou.form
  obtain ⟨x', q1, q2, q3, q4⟩ := hs
  refine ⟨va, vc, rfl, x', q1, q2, below_chg h3 q4 (fun b hb => h1.ge hb), fun p hp => ?_⟩
  rcases List.mem_cons.1 hp with rfl | hp
  · exact ⟨OT.mono ou h3.size, q1.offT ou⟩
  · exact (h4 p hp).chg q4 fun b hb ho => (q3 b ho).elim id fun h => absurd hb (Nat.not_lt.2 h)
theorem lq_keys (h : LQ w0 w g n I O) (hn : n ≤ 1000000) (d : List ByteArray) (hd : keysI I = d) :
    Calls Try.prog 38 #[ptr g] w fun e w' => ∃ v c, e = .returned (.slice v d.length c) ∧ Below w.heap.size w w' ∧ LQ w0 w' g n I (.txt (.slice v d.length c) d :: O) := by
  have h0 := h
  obtain ⟨x, h1, rfl, h3, h4⟩ := h
  refine (keys_any w w0.heap.size g n x h1 hn).mono ?_
  rintro e w' ⟨u, rfl, ou, hb⟩
  have he : keysT x.L = d := by rw [← hd]; unfold keysT keysI; rw [List.map_map]; rfl
  rw [he] at ou
  obtain ⟨va, vc, rfl⟩ := ou.form
  exact ⟨va, vc, rfl, hb, h0.add hb ou⟩
theorem lq_at (h : LQ w0 w g n I O) (k : ByteArray) (hk : k.size ≤ 281474976710656) (v : Value) (hv : AtI (atI k I) = v) :
    Calls Try.prog 34 #[ptr g, .string k] w fun e w' => e = .returned v ∧ Below w.heap.size w w' := by
  obtain ⟨x, h1, rfl, h3, h4⟩ := h
  exact at_any w w0.heap.size g n x h1 k hk v (by rw [at_I]; exact hv)
theorem lq_next (h : LQ w0 w g n I O) (v : Value) (hv : NexI I.head? = v) :
    Calls Try.prog 36 #[ptr g] w fun e w' => e = .returned v ∧ w = w' := by
  obtain ⟨x, h1, rfl, h3, h4⟩ := h
  exact next_any w w0.heap.size g n x h1 v (by rw [next_I]; exact hv)
/-- two told lists of texts held against each other -/
theorem lq_texts (h : LQ w0 w g n I O) {v1 v2 : Value} {d e : List ByteArray} (h1 : TS w v1 d) (h2 : TS w v2 e) (hl : d.length ≤ 2000000000) (hl2 : e.length ≤ 2000000000) (B : Bool) (hB : decide (d = e) = B) :
    Calls Try.prog 13 #[v1, v2] w fun r' w' => r' = .returned (.bool B) ∧ ∃ m, w' = w.drewN m := by
  subst hB
  exact texts_any v1 v2 d e w h1 h2 hl hl2
end
end Go.Proofs.Ytfilmbeoggmglaa.EX
