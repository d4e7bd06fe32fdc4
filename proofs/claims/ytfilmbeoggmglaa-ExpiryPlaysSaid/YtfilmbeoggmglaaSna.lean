/- The code's store and the document's, one beside the other. Conditions: as each. -/
import Derived.Test.YtfilmbeoggmglaaSmz
namespace Go.Proofs.Ytfilmbeoggmglaa.SL
open Go.ChangeShapes Go.WideShapes Go.ChangeAt Go.RowKit Go.Maps Go.ChangeMaps
set_option maxRecDepth 100000
set_option linter.unusedVariables false
set_option linter.unusedSimpArgs false

theorem ty_e1 : (88 : TypeId) ≠ 82 := by decide
theorem ty_e2 : (88 : TypeId) ≠ 92 := by decide
theorem ty_s1 : (47 : TypeId) ≠ 82 := by decide
theorem ty_s2 : (47 : TypeId) ≠ 92 := by decide
/-- blocks of other types are none of the store's -/
theorem St.other {w : World} {g n : Nat} {al ke mo : Int} {x : Sx} (h : St w g n al ke mo x) {b : Nat} {cur : Array Value} {t : TypeId} {fz : Nat × Nat} (hb : w.heap[b]? = some (.cells cur t fz)) (h1 : t ≠ 82) (h2 : t ≠ 92) : ¬ x.own g b := by
  intro ho
  rcases ho with rfl | rfl | ho
  · have := h.bk
    unfold Bk at this
    rw [hb] at this
    injection this with this
    injection this with _ ht
    exact h1 ht
  · obtain ⟨D, ⟨es, clock, hm, _⟩, _⟩ := h.mp
    rw [hb] at hm
    cases hm
  · have := h.nn b ho
    unfold Bk at this
    rw [hb] at this
    injection this with this
    injection this with _ ht
    exact h2 ht
/-- the document's store, but for what the world was -/
def RSc (B : Nat) (w : World) (g : Nat) (al ke mo : Int) (T K : List En) (aT : Option Addr) (cT : Nat) (aK : Option Addr) (cK : Nat) : Prop :=
  Bk w g 47 #[.slice aT T.length cT, .slice aK K.length cK, .int .i64 al, .int .i64 ke, .int .i64 mo] ∧ EO B w (.slice aT T.length cT) T ∧ EO B w (.slice aK K.length cK) K ∧
    (∀ q, (Value.slice aT T.length cT).ownBlock = some q → q ≠ g) ∧ (∀ q, (Value.slice aK K.length cK).ownBlock = some q → q ≠ g) ∧ B ≤ g
def RSo (g : Nat) (v1 v2 : Value) (b : Nat) : Prop := b = g ∨ v1.ownBlock = some b ∨ v2.ownBlock = some b
theorem EO.keepB {B : Nat} {w w' : World} {v : Value} {l : List En} (h : EO B w v l) (hk : ∀ b, v.ownBlock = some b → w'.heap[b]? = w.heap[b]?) : EO B w' v l := by
  refine ⟨h.1, ?_⟩
  rcases h.2 with h2 | ⟨g, cap, cur, rfl, hbb, hg, hr⟩
  · exact .inl h2
  · exact .inr ⟨g, cap, cur, rfl, hbb, (hk g rfl).trans hg, hr⟩
theorem EO.ty {B : Nat} {w : World} {v : Value} {l : List En} (h : EO B w v l) : ∀ b, v.ownBlock = some b → b < w.heap.size ∧ ∃ cur fz, w.heap[b]? = some (.cells cur 88 fz) := by
  intro b hb
  refine ⟨(World.ownsRow.lt h b hb).2, ?_⟩
  rcases h.2 with ⟨rfl, _⟩ | ⟨q, cap, cur, rfl, hbb, hg, hr⟩
  · cases hb
  · injection hb with hb
    subst hb
    exact ⟨cur, _, hg⟩
/-- a store of the code with these entries; the document's with those; lists of texts that were told -/
def LR (w0 w : World) (g n : Nat) (al ke mo : Int) (T K : List En) (r : Nat) (T' K' : List En) (O : List Kp) : Prop :=
  ∃ P S, LS w0 w g n al ke mo T K (.keep P S :: O) ∧ ∀ w1, P w1 → Below w0.heap.size w0 w1 → RS w0 w1 r al ke mo T' K'
def allTxt (O : List Kp) : Prop := ∀ p ∈ O, (∃ v d, p = .txt v d) ∨ ∃ b cs, p = .blk b 32 cs
theorem ty_os : (32 : TypeId) ≠ 47 := by decide
section
variable {w0 w w' : World} {g n r : Nat} {al ke mo : Int} {T K T' K' : List En} {O : List Kp}
theorem LR.ls (h : LR w0 w g n al ke mo T K r T' K' O) : LS w0 w g n al ke mo T K O := by
  obtain ⟨P, S, h1, _⟩ := h
  exact h1.forget fun p hp => List.mem_cons_of_mem _ hp
theorem LR.rs (h : LR w0 w g n al ke mo T K r T' K' O) : RS w0 w r al ke mo T' K' := by
  obtain ⟨P, S, h1, h2⟩ := h
  refine h2 _ ?_ h1.bel
  obtain ⟨x, _, _, _, _, _, h6⟩ := h1
  exact (h6 _ (List.mem_cons_self ..)).1
theorem LR.mk (h : LS w0 w g n al ke mo T K O) (hr : RS w0 w r al ke mo T' K') : LR w0 w g n al ke mo T K r T' K' O := by
  obtain ⟨aT, cT, aK, cK, r1, r2, r3, r4, r5, r6, r7⟩ := hr
  obtain ⟨x, h1, h2, h3, h4, h5, h6⟩ := h
  refine ⟨fun w1 => RSc w0.heap.size w1 r al ke mo T' K' aT cT aK cK, RSo r (.slice aT T'.length cT) (.slice aK K'.length cK), ⟨x, h1, h2, h3, h4, h5, fun p hp => ?_⟩, fun w1 ⟨q1, q2, q3, q4, q5, q6⟩ hb => ⟨aT, cT, aK, cK, q1, q2, q3, q4, q5, q6, hb⟩⟩
  rcases List.mem_cons.1 hp with rfl | hp
  · refine ⟨⟨r1, r2, r3, r4, r5, r6⟩, fun b hb => ?_, fun w1 w2 ⟨q1, q2, q3, q4, q5, q6⟩ hk => ⟨q1.heap (hk _ (.inl rfl)), q2.keepB fun b hb => hk _ (.inr (.inl hb)), q3.keepB fun b hb => hk _ (.inr (.inr hb)), q4, q5, q6⟩⟩
    rcases hb with rfl | hb | hb
    · exact ⟨r1.lt, h1.other (show w.heap[b]? = _ from r1) ty_s1 ty_s2⟩
    · obtain ⟨hl, cur, fz, hc⟩ := r2.ty b hb
      exact ⟨hl, h1.other hc ty_e1 ty_e2⟩
    · obtain ⟨hl, cur, fz, hc⟩ := r3.ty b hb
      exact ⟨hl, h1.other hc ty_e1 ty_e2⟩
  · exact h6 p hp
/-- a step that turns the document's store alone -/
theorem LS.chgr (h : LS w0 w g n al ke mo T K O) (hO : allTxt O) (hr : RS w0 w r al ke mo T' K') (hc : Chg (fun b => b = r) w w') : LS w0 w' g n al ke mo T K O := by
  obtain ⟨aT, cT, aK, cK, r1, r2, r3, r4, r5, r6, r7⟩ := hr
  obtain ⟨x, h1, h2, h3, h4, h5, h6⟩ := h
  have hn : ¬ x.own g r := h1.other (show w.heap[r]? = _ from r1) ty_s1 ty_s2
  refine ⟨x, h1.chg hc (fun b hb e => hn (e ▸ hb)), h2, h3, h4, below_chg h5 hc (fun b hb => by rw [hb]; exact r6), fun p hp => ?_⟩
  rcases hO p hp with ⟨v, d, rfl⟩ | ⟨q, cs, rfl⟩
  · obtain ⟨p1, p2⟩ := h6 _ hp
    exact ⟨p1.chg hc (fun b hb => p1.ng r1 b hb), p2⟩
  · obtain ⟨p1, p2⟩ := h6 _ hp
    exact ⟨p1.chg hc (p1.ne_ r1 ty_os), p2⟩
theorem allTxt.nil : allTxt [] := fun p hp => by simp at hp
theorem allTxt.cons {v : Value} {d : List ByteArray} (h : allTxt O) : allTxt (.txt v d :: O) := fun p hp => (List.mem_cons.1 hp).elim (fun e => .inl ⟨_, _, e⟩) (h p)
theorem allTxt.box {b : Nat} {cs : Array Value} (h : allTxt O) : allTxt (.blk b 32 cs :: O) := fun p hp => (List.mem_cons.1 hp).elim (fun e => .inr ⟨_, _, e⟩) (h p)
theorem LR.forget (h : LR w0 w g n al ke mo T K r T' K' O) {O' : List Kp} (hO : ∀ p ∈ O', p ∈ O) : LR w0 w g n al ke mo T K r T' K' O' := by
  obtain ⟨P, S, h1, h2⟩ := h
  exact ⟨P, S, h1.forget fun p hp => (List.mem_cons.1 hp).elim (fun e => e ▸ List.mem_cons_self ..) fun h => List.mem_cons_of_mem _ (hO p h), h2⟩
theorem LR.below (h : LR w0 w g n al ke mo T K r T' K' O) (hb : Below w.heap.size w w') : LR w0 w' g n al ke mo T K r T' K' O := by
  obtain ⟨P, S, h1, h2⟩ := h
  exact ⟨P, S, h1.below hb, h2⟩
theorem LR.swap {P : World → Prop} {S : Nat → Prop} {q : Kp} (h1 : LS w0 w g n al ke mo T K (q :: .keep P S :: O)) (h2 : ∀ w1, P w1 → Below w0.heap.size w0 w1 → RS w0 w1 r al ke mo T' K') : LR w0 w g n al ke mo T K r T' K' (q :: O) :=
  ⟨P, S, h1.forget (fun p hp => by
    rcases List.mem_cons.1 hp with rfl | hp
    · exact List.mem_cons_of_mem _ (List.mem_cons_self ..)
    · rcases List.mem_cons.1 hp with rfl | hp
      · exact List.mem_cons_self ..
      · exact List.mem_cons_of_mem _ (List.mem_cons_of_mem _ hp)), h2⟩
theorem LR.box (h : LR w0 w g n al ke mo T K r T' K' O) (t : TypeId) (cs : Array Value) : LR w0 (w.alloc (.cells cs t)) g n al ke mo T K r T' K' (.blk w.heap.size t cs :: O) := by
  obtain ⟨P, S, h1, h2⟩ := h
  exact LR.swap (h1.box t cs) h2
/-- what a call tells beside both stores -/
def LRP (w0 : World) (g n : Nat) (al ke mo : Int) (T K : List En) (r : Nat) (T' K' : List En) (O : List Kp) (G : List ByteArray) (f : Value → Value) (e : Ending) (w' : World) : Prop :=
  ∃ v c, e = .returned (f (.slice v G.length c)) ∧ LR w0 w' g n al ke mo T K r T' K' (.txt (.slice v G.length c) G :: O)
abbrev two (a v : Value) : Value := .tuple #[v, a]
theorem lr_put (h : LR w0 w g n al ke mo T K r T' K' O) (hal : mo ≤ al ∧ al ≤ 1073741824) (hn : n < 1099511627776) (hT : kLe T) (hK : kLe K) (k : ByteArray) (hk : k.size ≤ 281474976710656) (z : Int) (hz : 1 ≤ z) (hm : z ≤ mo) (T2 K2 : List En) (G : List ByteArray) (hR : putE al k z T K = (T2, K2, G)) :
    Calls Try.prog 11 #[ptr g, .string k, .int .i64 z] w (LRP w0 g (n + 1) al ke mo T2 K2 r T' K' O G (two (.int .i64 0))) := by
  obtain ⟨P, S, h1, h2⟩ := h
  refine (put_to h1 hal hn hT hK k hk z hz hm _ hR).mono ?_
  rintro e w1 ⟨v, c, rfl, h3⟩
  exact ⟨v, c, rfl, LR.swap h3 h2⟩
theorem lr_touch (h : LR w0 w g n al ke mo T K r T' K' O) (hke : 0 ≤ ke) (hsk : sumE K ≤ ke) (k : ByteArray) (hk : k.size ≤ 281474976710656) (z : Int) (hz : hasS k T K = some z) (T2 K2 : List En) (G : List ByteArray) (hR : touchE ke k z T K = (T2, K2, G)) :
    Calls Try.prog 14 #[ptr g, .string k] w (LRP w0 g n al ke mo T2 K2 r T' K' O G (two (.bool true))) := by
  obtain ⟨P, S, h1, h2⟩ := h
  refine (touch_to h1 hke hsk k hk z hz _ hR).mono ?_
  rintro e w1 ⟨v, c, rfl, h3⟩
  exact ⟨v, c, rfl, LR.swap h3 h2⟩
theorem lr_drop (h : LR w0 w g n al ke mo T K r T' K' O) (k : ByteArray) (hk : k.size ≤ 281474976710656) (T2 K2 : List En) (b : Bool) (hT : delE k T = T2) (hK : delE k K = K2) (hb : (hasS k T K).isSome = b) :
    Calls Try.prog 16 #[ptr g, .string k] w fun e w' => e = .returned (.bool b) ∧ LR w0 w' g n al ke mo T2 K2 r T' K' O := by
  obtain ⟨P, S, h1, h2⟩ := h
  refine (drop_to h1 k hk T2 K2 b hT hK hb).mono ?_
  rintro e w1 ⟨rfl, h3⟩
  exact ⟨rfl, P, S, h3, h2⟩
theorem lr_keysT (h : LR w0 w g n al ke mo T K r T' K' O) (d : List ByteArray) (hd : keysE T = d) :
    Calls Try.prog 21 #[ptr g, .bool false] w (LRP w0 g n al ke mo T K r T' K' O d id) := by
  obtain ⟨P, S, h1, h2⟩ := h
  subst hd
  refine (ls_keysT h1).mono ?_
  rintro e w1 ⟨v, c, rfl, h3⟩
  exact ⟨v, c, rfl, LR.swap h3 h2⟩
theorem lr_keysK (h : LR w0 w g n al ke mo T K r T' K' O) (d : List ByteArray) (hd : keysE K = d) :
    Calls Try.prog 21 #[ptr g, .bool true] w (LRP w0 g n al ke mo T K r T' K' O d id) := by
  obtain ⟨P, S, h1, h2⟩ := h
  subst hd
  refine (ls_keysK h1).mono ?_
  rintro e w1 ⟨v, c, rfl, h3⟩
  exact ⟨v, c, rfl, LR.swap h3 h2⟩
theorem lr_bytesT (h : LR w0 w g n al ke mo T K r T' K' O) (z : Int) (hz : sumE T = z) :
    Calls Try.prog 23 #[ptr g, .bool false] w fun e w' => e = .returned (.int .i64 z) ∧ LR w0 w' g n al ke mo T K r T' K' O := by
  obtain ⟨P, S, h1, h2⟩ := h
  subst hz
  refine (ls_bytesT h1).mono ?_
  rintro e w1 ⟨rfl, h3⟩
  exact ⟨rfl, P, S, h3, h2⟩
theorem lr_bytesK (h : LR w0 w g n al ke mo T K r T' K' O) (z : Int) (hz : sumE K = z) :
    Calls Try.prog 23 #[ptr g, .bool true] w fun e w' => e = .returned (.int .i64 z) ∧ LR w0 w' g n al ke mo T K r T' K' O := by
  obtain ⟨P, S, h1, h2⟩ := h
  subst hz
  refine (ls_bytesK h1).mono ?_
  rintro e w1 ⟨rfl, h3⟩
  exact ⟨rfl, P, S, h3, h2⟩
/-- what the document's call leaves beside the code's store -/
theorem LR.chg (h : LR w0 w g n al ke mo T K r T' K' O) (hO : allTxt O) (hc : Chg (fun b => b = r) w w') {T2 K2 : List En} (h2 : RS w0 w' r al ke mo T2 K2) : LR w0 w' g n al ke mo T K r T2 K2 O :=
  .mk (h.ls.chgr hO h.rs hc) h2
theorem LR.chgt (h : LR w0 w g n al ke mo T K r T' K' O) (hO : allTxt O) (hc : Chg (fun b => b = r) w w') {T2 K2 : List En} (h2 : RS w0 w' r al ke mo T2 K2) {v : Value} {d : List ByteArray} (ho : OT w.heap.size w' v d) : LR w0 w' g n al ke mo T K r T2 K2 (.txt v d :: O) := by
  obtain ⟨x, h1, e1, e2, h4, h5, h6⟩ := h.ls.chgr hO h.rs hc
  obtain ⟨x0, s1, _⟩ := h.ls
  refine .mk ⟨x, h1, e1, e2, h4, h5, fun p hp => ?_⟩ h2
  rcases List.mem_cons.1 hp with rfl | hp
  · refine ⟨ho.mono h.ls.bel.size, fun q hq hx => ?_⟩
    obtain ⟨_, cur, fz, hcc⟩ := ho.ty q hq
    exact h1.other hcc (by decide) (by decide) hx
  · exact h6 p hp
theorem lr_rput (h : LR w0 w g n al ke mo T K r T' K' O) (hO : allTxt O) (hu : UK T' K') (hpT : posE T') (hpK : posE K') (hlim : sumE T' + sumE K' ≤ 1073741824) (hal : mo ≤ al ∧ al ≤ 1073741824) (k : ByteArray) (z : Int) (hz : 1 ≤ z) (hm : z ≤ mo) (T2 K2 : List En) (G : List ByteArray) (hR : putE al k z T' K' = (T2, K2, G)) :
    Calls Try.prog 12 #[ptr r, .string k, .int .i64 z] w (LRP w0 g n al ke mo T K r T2 K2 O G (two (.int .i64 0))) := by
  refine (rput_to w0 w r al ke mo T' K' h.rs hu hpT hpK hlim hal k z hz hm T2 K2 G hR).mono ?_
  rintro e w1 ⟨v, c, rfl, h3, h4, h5⟩
  exact ⟨v, c, rfl, h.chgt hO h5 h4 h3⟩
theorem lr_rdrop (h : LR w0 w g n al ke mo T K r T' K' O) (hO : allTxt O) (hl : T'.length ≤ 1073741824 ∧ K'.length ≤ 1073741824) (k : ByteArray) (T2 K2 : List En) (b : Bool) (hT2 : delE k T' = T2) (hK2 : delE k K' = K2) (hb : (hasS k T' K').isSome = b) :
    Calls Try.prog 17 #[ptr r, .string k] w fun e w' => e = .returned (.bool b) ∧ LR w0 w' g n al ke mo T K r T2 K2 O := by
  refine (rdrop_to w0 w r al ke mo T' K' h.rs hl k T2 K2 b hT2 hK2 hb).mono ?_
  rintro e w1 ⟨rfl, h3, h4⟩
  exact ⟨rfl, h.chg hO h4 h3⟩
/-- two told lists of texts held against each other -/
theorem lr_texts (h : LR w0 w g n al ke mo T K r T' K' O) {v1 v2 : Value} {d e : List ByteArray} (h1 : Kp.txt v1 d ∈ O) (h2 : Kp.txt v2 e ∈ O) (hl : d.length ≤ 2000000000) (hl2 : e.length ≤ 2000000000) (B : Bool) (hB : decide (d = e) = B) :
    Calls Try.prog 13 #[v1, v2] w fun r' w' => r' = .returned (.bool B) ∧ LR w0 w' g n al ke mo T K r T' K' O := by
  refine (texts_any v1 v2 d e w (h.ls.told h1).ts (h.ls.told h2).ts hl hl2).mono ?_
  rintro r' w' ⟨he, m, rfl⟩
  exact ⟨by rw [he, hB], h.below (below_drewN _ _ _)⟩
end
end Go.Proofs.Ytfilmbeoggmglaa.SL
