/- A store of package slru beside what it told, as plain lists: what each call tells and makes. Conditions: how long keys are, how many puts there were. -/
import Derived.Test.YtfilmbeoggmglaaSly
namespace Go.Proofs.Ytfilmbeoggmglaa.SL
open Go.ChangeShapes Go.WideShapes Go.ChangeAt Go.RowKit Go.Maps Go.ChangeMaps
set_option maxRecDepth 100000
set_option linter.unusedVariables false
set_option linter.unusedSimpArgs false

/-- what lies beside a store: a list of texts that was told; a block known whole -/
inductive Kp where
  | txt (v : Value) (d : List ByteArray)
  | blk (b : Nat) (t : TypeId) (cs : Array Value)
  | keep (P : World → Prop) (S : Nat → Prop)
def Kp.ok (B : Nat) (w : World) (own : Nat → Prop) : Kp → Prop
  | .txt v d => OT B w v d ∧ ∀ q, v.ownBlock = some q → ¬ own q
  | .blk b t cs => Bk w b t cs ∧ ¬ own b
  | .keep P S => P w ∧ (∀ b, S b → b < w.heap.size ∧ ¬ own b) ∧ ∀ w1 w2, P w1 → (∀ b, S b → w2.heap[b]? = w1.heap[b]?) → P w2
theorem Kp.ok.below {B : Nat} {w w' : World} {own : Nat → Prop} {p : Kp} (h : p.ok B w own) (hb : Below w.heap.size w w') : p.ok B w' own := by
  cases p with
  | txt v d => exact ⟨h.1.below hb, h.2⟩
  | blk b t cs => exact ⟨h.1.below hb, h.2⟩
  | keep P S => exact ⟨h.2.2 _ _ h.1 fun b hs => hb.block b (h.2.1 b hs).1, fun b hs => ⟨Nat.lt_of_lt_of_le (h.2.1 b hs).1 hb.size, (h.2.1 b hs).2⟩, h.2.2⟩
theorem Kp.ok.chg {B : Nat} {w w' : World} {own own' : Nat → Prop} {p : Kp} (h : p.ok B w own) (hc : Chg own w w') (ho : ∀ b, b < w.heap.size → own' b → own b) : p.ok B w' own' := by
  cases p with
  | txt v d => exact ⟨h.1.chg hc h.2, fun q hq hx => h.2 q hq (ho q (World.ownsRow.lt h.1 q hq).2 hx)⟩
  | blk b t cs => exact ⟨h.1.chg hc h.2, fun hx => h.2 (ho b h.1.lt hx)⟩
  | keep P S => exact ⟨h.2.2 _ _ h.1 fun b hs => hc.block b (h.2.1 b hs).1 (h.2.1 b hs).2, fun b hs => ⟨Nat.lt_of_lt_of_le (h.2.1 b hs).1 hc.size, fun hx => (h.2.1 b hs).2 (ho b (h.2.1 b hs).1 hx)⟩, h.2.2⟩
/-- at block g stands a store with these entries, made since w0; what O names was told, and lies apart -/
def LS (w0 w : World) (g n : Nat) (al ke mo : Int) (T K : List En) (O : List Kp) : Prop :=
  ∃ x, St w g n al ke mo x ∧ x.tE = T ∧ x.kE = K ∧ (∀ b, x.own g b → w0.heap.size ≤ b) ∧ Below w0.heap.size w0 w ∧ ∀ p ∈ O, p.ok w0.heap.size w (x.own g)
section
variable {w0 w w' : World} {g n : Nat} {al ke mo : Int} {T K : List En} {O : List Kp}
theorem LS.below (h : LS w0 w g n al ke mo T K O) (hb : Below w.heap.size w w') : LS w0 w' g n al ke mo T K O := by
  obtain ⟨x, h1, h2, h3, h4, h5, h6⟩ := h
  exact ⟨x, h1.below hb, h2, h3, h4, h5.trans (hb.mono h5.size), fun p hp => (h6 p hp).below hb⟩
theorem LS.bel (h : LS w0 w g n al ke mo T K O) : Below w0.heap.size w0 w := by obtain ⟨x, h1, h2, h3, h4, h5, h6⟩ := h; exact h5
theorem LS.told (h : LS w0 w g n al ke mo T K O) {v : Value} {d : List ByteArray} (hp : Kp.txt v d ∈ O) : OT w0.heap.size w v d := by obtain ⟨x, h1, h2, h3, h4, h5, h6⟩ := h; exact (h6 _ hp).1
theorem LS.blk (h : LS w0 w g n al ke mo T K O) {b : Nat} {t : TypeId} {cs : Array Value} (hp : Kp.blk b t cs ∈ O) : Bk w b t cs := by obtain ⟨x, h1, h2, h3, h4, h5, h6⟩ := h; exact (h6 _ hp).1
theorem LS.box (h : LS w0 w g n al ke mo T K O) (t : TypeId) (cs : Array Value) : LS w0 (w.alloc (.cells cs t)) g n al ke mo T K (.blk w.heap.size t cs :: O) := by
  obtain ⟨x, h1, h2, h3, h4, h5, h6⟩ := h
  have hb : Below w.heap.size w (w.alloc (.cells cs t)) := (Below.refl _ _).alloc (Nat.le_refl _) _
  refine ⟨x, h1.below hb, h2, h3, h4, h5.trans (hb.mono h5.size), fun p hp => ?_⟩
  rcases List.mem_cons.1 hp with rfl | hp
  · exact ⟨Bk.new _ _ _, fun hx => by have := h1.lt hx; omega⟩
  · exact (h6 p hp).below hb
theorem LS.pos (h : LS w0 w g n al ke mo T K O) : (∀ y ∈ T, 1 ≤ y.2) ∧ ∀ y ∈ K, 1 ≤ y.2 := by
  obtain ⟨x, h1, rfl, rfl, _⟩ := h
  exact h1.gg.en_pos
theorem LS.apart (h : LS w0 w g n al ke mo T K O) : ∀ k, k ∈ keysE T → k ∉ keysE K := by
  obtain ⟨x, h1, rfl, rfl, _⟩ := h
  intro k hk hk2
  obtain ⟨y, hy, rfl⟩ := List.mem_map.1 hk
  obtain ⟨b, hb, rfl⟩ := List.mem_map.1 hy
  obtain ⟨y', hy', e⟩ := List.mem_map.1 hk2
  obtain ⟨c, hc, rfl⟩ := List.mem_map.1 hy'
  have := h1.gg.uq c b (.inr hc) (.inl hb) e
  subst this
  exact h1.gg.ap c (.inr hb) (.inr hc)
theorem LS.lens (h : LS w0 w g n al ke mo T K O) : T.length + K.length ≤ 1073741824 ∧ sumE T + sumE K ≤ 1073741824 := by
  obtain ⟨x, h1, rfl, rfl, _⟩ := h
  exact ⟨h1.len, h1.lim⟩
theorem LS.add (h : LS w0 w g n al ke mo T K O) (hb : Below w.heap.size w w') {v : Value} {d : List ByteArray} (hv : OT w.heap.size w' v d) : LS w0 w' g n al ke mo T K (.txt v d :: O) := by
  obtain ⟨x, h1, h2, h3, h4, h5, h6⟩ := h
  refine ⟨x, h1.below hb, h2, h3, h4, h5.trans (hb.mono h5.size), fun p hp => ?_⟩
  rcases List.mem_cons.1 hp with rfl | hp
  · exact ⟨hv.mono h5.size, fun q hq hx => by have := (World.ownsRow.lt hv q hq).1; have := h1.lt hx; omega⟩
  · exact (h6 p hp).below hb
theorem LS.forget (h : LS w0 w g n al ke mo T K O) {O' : List Kp} (hO : ∀ p ∈ O', p ∈ O) : LS w0 w g n al ke mo T K O' := by
  obtain ⟨x, h1, h2, h3, h4, h5, h6⟩ := h
  exact ⟨x, h1, h2, h3, h4, h5, fun p hp => h6 p (hO p hp)⟩
theorem below_chg {S : Nat → Prop} (h5 : Below w0.heap.size w0 w) (hc : Chg S w w') (hs : ∀ b, S b → w0.heap.size ≤ b) : Below w0.heap.size w0 w' :=
  h5.trans (hc.below h5.size fun b hb hsb => by have := hs b hsb; omega)
theorem LS.tell {n' : Nat} {x : Sx} (h1 : St w g n al ke mo x) (h4 : ∀ b, x.own g b → w0.heap.size ≤ b) (h5 : Below w0.heap.size w0 w) (h6 : ∀ p ∈ O, p.ok w0.heap.size w (x.own g))
    {R : List En × List En × List ByteArray} {a : Value} {e : Ending} (t : TellP g n n' al ke mo x R a w e w') : ∃ v c, e = .returned (.tuple #[.slice v R.2.2.length c, a]) ∧ LS w0 w' g n' al ke mo R.1 R.2.1 (.txt (.slice v R.2.2.length c) R.2.2 :: O) := by
  obtain ⟨v, x', t1, t2, t3, t4, t5, t6, t7⟩ := t
  obtain ⟨va, vc, rfl⟩ := t2.form
  refine ⟨va, vc, t1, x', t3, t4, t5, fun b hb => ?_, below_chg h5 t7 h4, fun p hp => ?_⟩
  · rcases t6 b hb with h | h
    · exact h4 b h
    · have := h5.size; omega
  · rcases List.mem_cons.1 hp with rfl | hp
    · refine ⟨t2.mono h5.size, fun q hq hx => ?_⟩
      rcases t6 q hx with h | h
      · have := (World.ownsRow.lt t2 q hq).1; have := h1.lt h; omega
      · exact h.2 hq
    · exact (h6 p hp).chg t7 fun q hq hx => by
        rcases t6 q hx with h | h
        · exact h
        · omega
def kLe (l : List En) : Prop := ∀ y ∈ l, y.1.size ≤ 281474976710656
def PutP (w0 : World) (g n : Nat) (al ke mo : Int) (R : List En × List En × List ByteArray) (a : Value) (O : List Kp) (e : Ending) (w' : World) : Prop :=
  ∃ v c, e = .returned (.tuple #[.slice v R.2.2.length c, a]) ∧ LS w0 w' g n al ke mo R.1 R.2.1 (.txt (.slice v R.2.2.length c) R.2.2 :: O)
theorem ls_put (h : LS w0 w g n al ke mo T K O) (hal : mo ≤ al ∧ al ≤ 1073741824) (hn : n < 1099511627776) (hT : kLe T) (hK : kLe K) (k : ByteArray) (hk : k.size ≤ 281474976710656) (z : Int) (hz : 1 ≤ z) (hm : z ≤ mo) :
    Calls Try.prog 11 #[ptr g, .string k, .int .i64 z] w (PutP w0 g (n + 1) al ke mo (putE al k z T K) (.int .i64 0) O) := by
  obtain ⟨x, h1, rfl, rfl, h4, h5, h6⟩ := h
  refine (put_ok w g n al ke mo x h1 hal hn (fun y hy => (List.mem_append.1 hy).elim (hT y) (hK y)) k hk z hz hm _ rfl).mono ?_
  intro e w' t
  exact LS.tell h1 h4 h5 h6 t
theorem ls_low (h : LS w0 w g n al ke mo T K O) (k : ByteArray) (z : Int) (hz : z < 1) :
    Calls Try.prog 11 #[ptr g, .string k, .int .i64 z] w fun e w' => e = .returned (.tuple #[.slice none 0 0, .int .i64 1]) ∧ w = w' := by
  obtain ⟨x, h1, _⟩ := h
  exact put_low w g n al ke mo x h1 k z hz
theorem ls_big (h : LS w0 w g n al ke mo T K O) (k : ByteArray) (z : Int) (hz : 1 ≤ z) (hm : mo < z) :
    Calls Try.prog 11 #[ptr g, .string k, .int .i64 z] w fun e w' => e = .returned (.tuple #[.slice none 0 0, .int .i64 2]) ∧ w = w' := by
  obtain ⟨x, h1, _⟩ := h
  exact put_big w g n al ke mo x h1 k z hz hm
theorem ls_touch (h : LS w0 w g n al ke mo T K O) (hke : 0 ≤ ke) (hsk : sumE K ≤ ke) (k : ByteArray) (hk : k.size ≤ 281474976710656) (z : Int) (hz : hasS k T K = some z) :
    Calls Try.prog 14 #[ptr g, .string k] w (PutP w0 g n al ke mo (touchE ke k z T K) (.bool true) O) := by
  obtain ⟨x, h1, rfl, rfl, h4, h5, h6⟩ := h
  refine (touch_yes w g n al ke mo x h1 hke hsk k hk z hz).mono ?_
  intro e w' t
  exact LS.tell h1 h4 h5 h6 t
theorem ls_miss (h : LS w0 w g n al ke mo T K O) (k : ByteArray) (hk : k.size ≤ 281474976710656) (hz : hasS k T K = none) :
    Calls Try.prog 14 #[ptr g, .string k] w fun e w' => e = .returned (.tuple #[.slice none 0 0, .bool false]) ∧ w = w' := by
  obtain ⟨x, h1, rfl, rfl, _⟩ := h
  cases hf : x.f k with
  | none => exact touch_no w g n al ke mo x h1 k hk hf
  | some b =>
    exfalso
    obtain ⟨_, _, _, h0⟩ := h1.some_ hf
    unfold hasS at hz
    rcases h0 with ⟨_, _, _, e1, e2, _⟩ | ⟨_, _, _, e1, e2, _⟩
    · rw [e1, e2] at hz; cases hz
    · rw [e1, e2] at hz; cases hz
def DropP (w0 : World) (g n : Nat) (al ke mo : Int) (T K : List En) (b : Bool) (O : List Kp) (e : Ending) (w' : World) : Prop :=
  e = .returned (.bool b) ∧ LS w0 w' g n al ke mo T K O
theorem ls_drop (h : LS w0 w g n al ke mo T K O) (k : ByteArray) (hk : k.size ≤ 281474976710656) :
    Calls Try.prog 16 #[ptr g, .string k] w (DropP w0 g n al ke mo (delE k T) (delE k K) (hasS k T K).isSome O) := by
  obtain ⟨x, h1, rfl, rfl, h4, h5, h6⟩ := h
  refine (drop_any w g n al ke mo x h1 k hk).mono ?_
  rintro e w' ⟨he, x', s1, s2, s3, s4, s5, s6⟩
  refine ⟨he, x', s1, s2, s3, fun b hb => h4 b (s4 b hb), below_chg h5 s5 h4, fun p hp => (h6 p hp).chg s5 fun q _ hx => s4 q hx⟩
theorem ls_has (h : LS w0 w g n al ke mo T K O) (k : ByteArray) (hk : k.size ≤ 281474976710656) :
    Calls Try.prog 19 #[ptr g, .string k] w fun e w' => e = .returned (HasV (hasS k T K)) ∧ w = w' := by
  obtain ⟨x, h1, rfl, rfl, _⟩ := h
  exact has_any w g n al ke mo x h1 k hk
def TextsP (w0 : World) (g n : Nat) (al ke mo : Int) (T K : List En) (d : List ByteArray) (O : List Kp) (e : Ending) (w' : World) : Prop :=
  ∃ v c, e = .returned (.slice v d.length c) ∧ LS w0 w' g n al ke mo T K (.txt (.slice v d.length c) d :: O)
theorem ls_keysT (h : LS w0 w g n al ke mo T K O) : Calls Try.prog 21 #[ptr g, .bool false] w (TextsP w0 g n al ke mo T K (keysE T) O) := by
  have h0 := h
  obtain ⟨x, h1, rfl, rfl, _⟩ := h
  refine (keys_T w g n al ke mo x h1).mono ?_
  rintro e w' ⟨v, he, hv, hb⟩
  obtain ⟨va, vc, rfl⟩ := hv.form
  exact ⟨va, vc, he, h0.add hb hv⟩
theorem ls_keysK (h : LS w0 w g n al ke mo T K O) : Calls Try.prog 21 #[ptr g, .bool true] w (TextsP w0 g n al ke mo T K (keysE K) O) := by
  have h0 := h
  obtain ⟨x, h1, rfl, rfl, _⟩ := h
  refine (keys_K w g n al ke mo x h1).mono ?_
  rintro e w' ⟨v, he, hv, hb⟩
  obtain ⟨va, vc, rfl⟩ := hv.form
  exact ⟨va, vc, he, h0.add hb hv⟩
def NumP (w0 : World) (g n : Nat) (al ke mo : Int) (T K : List En) (z : Int) (O : List Kp) (e : Ending) (w' : World) : Prop :=
  e = .returned (.int .i64 z) ∧ LS w0 w' g n al ke mo T K O
theorem ls_bytesT (h : LS w0 w g n al ke mo T K O) : Calls Try.prog 23 #[ptr g, .bool false] w (NumP w0 g n al ke mo T K (sumE T) O) := by
  have h0 := h
  obtain ⟨x, h1, rfl, rfl, _⟩ := h
  refine (bytes_false w g n al ke mo x h1).mono ?_
  rintro e w' ⟨he, m, rfl⟩
  exact ⟨he, h0.below (below_drewN _ _ _)⟩
theorem ls_bytesK (h : LS w0 w g n al ke mo T K O) : Calls Try.prog 23 #[ptr g, .bool true] w (NumP w0 g n al ke mo T K (sumE K) O) := by
  have h0 := h
  obtain ⟨x, h1, rfl, rfl, _⟩ := h
  refine (bytes_true w g n al ke mo x h1).mono ?_
  rintro e w' ⟨he, m, rfl⟩
  exact ⟨he, h0.below (below_drewN _ _ _)⟩
def MakeP (w0 : World) (al ke mo : Int) (e : Ending) (w' : World) : Prop := ∃ g, e = .returned (.tuple #[ptr g, .int .i64 0]) ∧ LS w0 w' g 0 al ke mo [] [] []
theorem ls_new (w0 w : World) (h0 : Below w0.heap.size w0 w) (al ke mo : Int) (hb : okB al ke mo) : Calls Try.prog 9 #[.int .i64 al, .int .i64 ke, .int .i64 mo] w (MakeP w0 al ke mo) := by
  refine (new_yes al ke mo w hb).mono ?_
  rintro e w' ⟨g, x, he, h1, h2, h3, h4, h5⟩
  exact ⟨g, he, x, h1, h2, h3, fun b hb => Nat.le_trans h0.size (h4 b hb), h0.trans (h5.mono h0.size), fun p hp => by simp at hp⟩
/-- two told lists of texts held against each other -/
theorem ls_texts (h : LS w0 w g n al ke mo T K O) {v1 v2 : Value} {d e : List ByteArray} (h1 : TS w v1 d) (h2 : TS w v2 e) (hl : d.length ≤ 2000000000) (hl2 : e.length ≤ 2000000000) (B : Bool) (hB : decide (d = e) = B) :
    Calls Try.prog 13 #[v1, v2] w (DropP w0 g n al ke mo T K B O) := by
  refine (texts_any v1 v2 d e w h1 h2 hl hl2).mono ?_
  rintro r w' ⟨he, m, rfl⟩
  exact ⟨by rw [he, hB], h.below (below_drewN _ _ _)⟩
theorem one_ts {w : World} {b : Nat} {k : ByteArray} (h : Bk w b 9 #[.string k]) : TS w (.slice (some ⟨b, 0, none⟩) 1 1) [k] :=
  .inr ⟨b, 0, 1, rfl, Nat.le_refl _, fun i x hi => by
    cases i with
    | zero => simp at hi; subst hi; exact h.cell 0
    | succ i => simp at hi⟩
end
end Go.Proofs.Ytfilmbeoggmglaa.SL
