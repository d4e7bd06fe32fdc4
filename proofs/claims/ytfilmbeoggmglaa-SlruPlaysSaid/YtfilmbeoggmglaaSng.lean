/- What both stores of slru tell, one beside the other, with what a call leaves as it was; a copy in a store's place. Conditions: how many, how long. -/
import Derived.Test.YtfilmbeoggmglaaSnf
namespace Go.Proofs.Ytfilmbeoggmglaa.SL
open Go.ChangeShapes Go.WideShapes Go.ChangeAt Go.RowKit Go.Maps Go.ChangeMaps
set_option maxRecDepth 100000
set_option linter.unusedVariables false
set_option linter.unusedSimpArgs false

section
variable {w0 w w' : World} {g n r : Nat} {al ke mo : Int} {T K T' K' : List En} {O : List Kp}
theorem lb_keysT (h : LR w0 w g n al ke mo T K r T' K' O) (d : List ByteArray) (hd : keysE T = d) :
    Calls Try.prog 21 #[ptr g, .bool false] w fun e w' => ∃ v c, e = .returned (.slice v d.length c) ∧ Below w.heap.size w w' ∧ LR w0 w' g n al ke mo T K r T' K' (.txt (.slice v d.length c) d :: O) := by
  obtain ⟨P, S, h1, h2⟩ := h
  have h0 := h1
  obtain ⟨x, q1, rfl, rfl, _⟩ := h1
  subst hd
  refine (keys_T w g n al ke mo x q1).mono ?_
  rintro e w' ⟨v, rfl, hv, hb⟩
  obtain ⟨va, vc, rfl⟩ := hv.form
  exact ⟨va, vc, rfl, hb, LR.swap (h0.add hb hv) h2⟩
theorem lb_keysK (h : LR w0 w g n al ke mo T K r T' K' O) (d : List ByteArray) (hd : keysE K = d) :
    Calls Try.prog 21 #[ptr g, .bool true] w fun e w' => ∃ v c, e = .returned (.slice v d.length c) ∧ Below w.heap.size w w' ∧ LR w0 w' g n al ke mo T K r T' K' (.txt (.slice v d.length c) d :: O) := by
  obtain ⟨P, S, h1, h2⟩ := h
  have h0 := h1
  obtain ⟨x, q1, rfl, rfl, _⟩ := h1
  subst hd
  refine (keys_K w g n al ke mo x q1).mono ?_
  rintro e w' ⟨v, rfl, hv, hb⟩
  obtain ⟨va, vc, rfl⟩ := hv.form
  exact ⟨va, vc, rfl, hb, LR.swap (h0.add hb hv) h2⟩
theorem lb_bytesT (h : LR w0 w g n al ke mo T K r T' K' O) (z : Int) (hz : sumE T = z) :
    Calls Try.prog 23 #[ptr g, .bool false] w fun e w' => e = .returned (.int .i64 z) ∧ ∃ m, w' = w.drewN m := by
  obtain ⟨P, S, ⟨x, q1, rfl, rfl, _⟩, h2⟩ := h
  subst hz
  exact bytes_false w g n al ke mo x q1
theorem lb_bytesK (h : LR w0 w g n al ke mo T K r T' K' O) (z : Int) (hz : sumE K = z) :
    Calls Try.prog 23 #[ptr g, .bool true] w fun e w' => e = .returned (.int .i64 z) ∧ ∃ m, w' = w.drewN m := by
  obtain ⟨P, S, ⟨x, q1, rfl, rfl, _⟩, h2⟩ := h
  subst hz
  exact bytes_true w g n al ke mo x q1
theorem lb_texts (h : LR w0 w g n al ke mo T K r T' K' O) {v1 v2 : Value} {d e : List ByteArray} (h1 : Kp.txt v1 d ∈ O) (h2 : Kp.txt v2 e ∈ O) (hl : d.length ≤ 2000000000) (hl2 : e.length ≤ 2000000000) (B : Bool) (hB : decide (d = e) = B) :
    Calls Try.prog 13 #[v1, v2] w fun r' w' => r' = .returned (.bool B) ∧ ∃ m, w' = w.drewN m := by
  subst hB
  exact texts_any v1 v2 d e w (h.ls.told h1).ts (h.ls.told h2).ts hl hl2
/-- a copy beside the store -/
def CopP (w0 : World) (g n : Nat) (al ke mo : Int) (T K : List En) (r : Nat) (T' K' : List En) (O : List Kp) (gc : Nat) (w' : World) : Prop :=
  ∃ nc x', LR w0 w' g n al ke mo T K r T' K' (.keep (fun w2 => St w2 gc nc al ke mo x') (x'.own gc) :: O) ∧ x'.tE = T ∧ x'.kE = K ∧ nc ≤ 1073741824 ∧ (∀ b, x'.own gc b → w0.heap.size ≤ b)
theorem lr_copy (h : LR w0 w g n al ke mo T K r T' K' O) (hT : kLe T) (hK : kLe K) :
    Calls Try.prog 18 #[ptr g] w fun e w' => ∃ gc, e = .returned (ptr gc) ∧ CopP w0 g n al ke mo T K r T' K' O gc w' := by
  obtain ⟨P, S, h1, h2⟩ := h
  obtain ⟨x, q1, rfl, rfl, q4, q5, q6⟩ := h1
  refine (copy_any w g n al ke mo x q1 (fun y hy => hy.elim (hT y) (hK y))).mono ?_
  rintro e w' ⟨gc, rfl, nc, x', s1, s2, s3, s4, s5, s6⟩
  have hlen := q1.len
  refine ⟨gc, rfl, nc, x', ?_, s2, s3, by omega, fun b hb => Nat.le_trans q5.size (s4 b hb)⟩
  refine LR.swap (P := P) (S := S) ⟨x, q1.below s5, rfl, rfl, q4, q5.trans (s5.mono q5.size), fun p hp => ?_⟩ h2
  rcases List.mem_cons.1 hp with rfl | hp
  · exact ⟨s1, fun b hb => ⟨s1.lt hb, fun ho => by have := s4 b hb; have := q1.lt ho; omega⟩, fun w1 w2 p1 hk => p1.keep hk⟩
  · exact (q6 p hp).below s5
theorem LR.turn {n2 gc : Nat} {T2 K2 : List En} {b : Nat} {cs : Array Value} {nc : Nat} {x' : Sx} (h : LR w0 w g n2 al ke mo T2 K2 r T' K' (.keep (fun w2 => St w2 gc nc al ke mo x') (x'.own gc) :: .blk b 32 cs :: O)) (h1 : x'.tE = T) (h2 : x'.kE = K) (ho : ∀ b, x'.own gc b → w0.heap.size ≤ b) :
    LR w0 w gc nc al ke mo T K r T' K' [.blk b 32 cs] := by
  have hb := h.ls.blk (List.mem_cons_of_mem _ (List.mem_cons_self ..))
  have hs : St w gc nc al ke mo x' := by
    obtain ⟨y, _, _, _, _, _, q6⟩ := h.ls
    exact (q6 _ (List.mem_cons_self ..)).1
  refine LR.mk ⟨x', hs, h1, h2, ho, h.ls.bel, fun p hp => ?_⟩ h.rs
  rcases List.mem_cons.1 hp with rfl | hp
  · exact ⟨hb, hs.other (show w.heap[b]? = _ from hb) (by decide) (by decide)⟩
  · simp at hp
end
theorem bel_drew {w w' : World} {m : Nat} (h : w' = w.drewN m) : Below w.heap.size w w' := by rw [h]; exact below_drewN _ _ _
theorem room_len {al z : Int} : ∀ (n : Nat) (T K : List En), (roomE al z n T K).2.2.length ≤ n
  | 0, T, K => Nat.le_refl _
  | n + 1, T, K => by
    unfold roomE
    split
    · split
      · simp only [List.length_cons]; exact Nat.succ_le_succ (room_len n _ _)
      · split
        · simp only [List.length_cons]; exact Nat.succ_le_succ (room_len n _ _)
        · simp
    · simp
theorem shr_len {ke : Int} : ∀ (n : Nat) (T K : List En), (shrE ke n T K).2.2.length ≤ n
  | 0, T, K => Nat.le_refl _
  | n + 1, T, K => by
    unfold shrE
    split
    · split
      · simp only [List.length_cons]; exact Nat.succ_le_succ (shr_len n _ _)
      · simp
    · simp
theorem del_len (k : ByteArray) (l : List En) : (delE k l).length ≤ l.length := List.length_filter_le _ _
theorem put_len {al : Int} {k : ByteArray} {z : Int} {T K : List En} : (putE al k z T K).2.2.length ≤ T.length + K.length := by
  have h1 := room_len (al := al) (z := z) ((delE k T).length + (delE k K).length) (delE k T) (delE k K)
  have h2 := del_len k T
  have h3 := del_len k K
  unfold putE
  simp only
  omega
theorem touch_len {ke : Int} {k : ByteArray} {z : Int} {T K : List En} : (touchE ke k z T K).2.2.length ≤ K.length + 1 := by
  have h1 := shr_len (ke := ke) ((delE k K).length + 1) (delE k T) ((k, z) :: delE k K)
  have h3 := del_len k K
  unfold touchE
  split
  · omega
  · simp
end Go.Proofs.Ytfilmbeoggmglaa.SL
