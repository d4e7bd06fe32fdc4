/- A store of two rings, as plain lists and as what stands in its blocks. No program; no condition. -/
import Derived.Test.YtfilmbeoggmglaaSla
namespace Go.Proofs.Ytfilmbeoggmglaa.SL
open Go.ChangeShapes Go.WideShapes Go.ChangeAt Go.RowKit Go.Maps Go.ChangeMaps
set_option maxRecDepth 100000
set_option linter.unusedVariables false
set_option linter.unusedSimpArgs false

abbrev En : Type := ByteArray × Int
def sumE : List En → Int
  | [] => 0
  | x :: l => x.2 + sumE l
theorem sum_app : ∀ a b : List En, sumE (a ++ b) = sumE a + sumE b
  | [], b => by simp [sumE]
  | x :: a, b => by rw [List.cons_append, sumE, sumE, sum_app a b]; omega
def delE (k : ByteArray) (l : List En) : List En := l.filter fun x => decide (x.1 ≠ k)
def hasE (k : ByteArray) (l : List En) : Option Int := (l.find? fun x => decide (x.1 = k)).map (·.2)
/-- room is made for z bytes: what stays, which keys went -/
def roomE (al z : Int) : Nat → List En → List En → List En × List En × List ByteArray
  | 0, T, K => (T, K, [])
  | n + 1, T, K =>
    if al < sumE T + sumE K + z then
      match T.getLast? with
      | some x => let r := roomE al z n T.dropLast K; (r.1, r.2.1, x.1 :: r.2.2)
      | none => match K.getLast? with
        | some x => let r := roomE al z n T K.dropLast; (r.1, r.2.1, x.1 :: r.2.2)
        | none => (T, K, [])
    else (T, K, [])
/-- the kept segment gives up its last ones till it keeps its budget -/
def shrE (ke : Int) : Nat → List En → List En → List En × List En × List ByteArray
  | 0, T, K => (T, K, [])
  | n + 1, T, K =>
    if ke < sumE K then
      match K.getLast? with
      | some x => let r := shrE ke n (x :: T) K.dropLast; (r.1, r.2.1, x.1 :: r.2.2)
      | none => (T, K, [])
    else (T, K, [])
def putE (al : Int) (k : ByteArray) (z : Int) (T K : List En) : List En × List En × List ByteArray :=
  let r := roomE al z ((delE k T).length + (delE k K).length) (delE k T) (delE k K)
  ((k, z) :: r.1, r.2.1, r.2.2)
def touchE (ke : Int) (k : ByteArray) (z : Int) (T K : List En) : List En × List En × List ByteArray :=
  if z ≤ ke then shrE ke ((delE k K).length + 1) (delE k T) ((k, z) :: delE k K) else ((k, z) :: delE k T, delE k K, [])

/-! ### what stands in the blocks -/
structure Nd where
  k : ByteArray
  z : Int
  s : Int
  nw : Option Nat
  od : Option Nat
def pc (q : Nd) : Array Value := #[.string q.k, .int .i64 q.z, .int .i64 q.s, pV q.nw, pV q.od]
def upN (F : Nat → Nd) (b : Nat) (v : Option Nat) : Nat → Nd := fun x => if x = b then { F x with nw := v } else F x
def upO (F : Nat → Nd) (b : Nat) (v : Option Nat) : Nat → Nd := fun x => if x = b then { F x with od := v } else F x
def upS (F : Nat → Nd) (b : Nat) (v : Int) : Nat → Nd := fun x => if x = b then { F x with s := v } else F x
def upA (F : Nat → Nd) (b : Nat) (q : Nd) : Nat → Nd := fun x => if x = b then q else F x
def NN (w : World) (N : Nat → Prop) (F : Nat → Nd) : Prop := ∀ b, N b → Bk w b 92 (pc (F b))
section
variable {w w' : World} {N : Nat → Prop} {F : Nat → Nd}
theorem NN.heap (h : NN w N F) (e : ∀ b, N b → w'.heap[b]? = w.heap[b]?) : NN w' N F := fun b hb => (e b hb).trans (h b hb)
theorem NN.drew (h : NN w N F) : NN w.drew N F := h
theorem NN.far (h : NN w N F) {p : Addr} (hp : ¬ N p.block) (u : Value) : NN (w.setCell p u) N F := fun b hb => (h b hb).far (fun e => hp (by rw [← e]; exact hb)) u
theorem NN.upN (h : NN w N F) (b : Nat) (v : Option Nat) : NN (w.setCell ⟨b, 3, none⟩ (pV v)) N (upN F b v) := fun x hx => by
  by_cases e : x = b
  · subst e
    have := (h x hx).set_ 3 (pV v)
    unfold SL.upN
    rw [if_pos rfl]; exact this
  · have := (h x hx).far (p := ⟨b, 3, none⟩) e (pV v)
    unfold SL.upN
    rw [if_neg e]; exact this
theorem NN.upO (h : NN w N F) (b : Nat) (v : Option Nat) : NN (w.setCell ⟨b, 4, none⟩ (pV v)) N (upO F b v) := fun x hx => by
  by_cases e : x = b
  · subst e
    have := (h x hx).set_ 4 (pV v)
    unfold SL.upO
    rw [if_pos rfl]; exact this
  · have := (h x hx).far (p := ⟨b, 4, none⟩) e (pV v)
    unfold SL.upO
    rw [if_neg e]; exact this
theorem NN.upS (h : NN w N F) (b : Nat) (v : Int) : NN (w.setCell ⟨b, 2, none⟩ (.int .i64 v)) N (upS F b v) := fun x hx => by
  by_cases e : x = b
  · subst e
    have := (h x hx).set_ 2 (.int .i64 v)
    unfold SL.upS
    rw [if_pos rfl]; exact this
  · have := (h x hx).far (p := ⟨b, 2, none⟩) e (.int .i64 v)
    unfold SL.upS
    rw [if_neg e]; exact this
end
section
variable (F : Nat → Nd) (b x : Nat) (v : Option Nat) (s : Int)
theorem upN_k : (upN F b v x).k = (F x).k ∧ (upN F b v x).z = (F x).z ∧ (upN F b v x).s = (F x).s ∧ (upN F b v x).od = (F x).od := by unfold upN; split <;> exact ⟨rfl, rfl, rfl, rfl⟩
theorem upO_k : (upO F b v x).k = (F x).k ∧ (upO F b v x).z = (F x).z ∧ (upO F b v x).s = (F x).s ∧ (upO F b v x).nw = (F x).nw := by unfold upO; split <;> exact ⟨rfl, rfl, rfl, rfl⟩
theorem upS_k : (upS F b s x).k = (F x).k ∧ (upS F b s x).z = (F x).z ∧ (upS F b s x).nw = (F x).nw ∧ (upS F b s x).od = (F x).od := by unfold upS; split <;> exact ⟨rfl, rfl, rfl, rfl⟩
theorem upN_nw : (upN F b v x).nw = if x = b then v else (F x).nw := by unfold upN; split <;> rfl
theorem upO_od : (upO F b v x).od = if x = b then v else (F x).od := by unfold upO; split <;> rfl
theorem upS_s : (upS F b s x).s = if x = b then s else (F x).s := by unfold upS; split <;> rfl
end
/-- p stands behind e, ahead of a -/
def entF (F : Nat → Nd) (e a p : Nat) : Nat → Nd := upN (upO (upO (upN F p (some e)) p (some a)) e (some p)) a (some p)
/-- a and c are neighbours -/
def levF (F : Nat → Nd) (a c : Nat) : Nat → Nd := upN (upO F a (some c)) c (some a)
theorem entF_k (F : Nat → Nd) (e a p x : Nat) : (entF F e a p x).k = (F x).k ∧ (entF F e a p x).z = (F x).z ∧ (entF F e a p x).s = (F x).s := by
  unfold entF
  obtain ⟨a1, a2, a3, _⟩ := upN_k (upO (upO (upN F p (some e)) p (some a)) e (some p)) a x (some p)
  obtain ⟨b1, b2, b3, _⟩ := upO_k (upO (upN F p (some e)) p (some a)) e x (some p)
  obtain ⟨c1, c2, c3, _⟩ := upO_k (upN F p (some e)) p x (some a)
  obtain ⟨d1, d2, d3, _⟩ := upN_k F p x (some e)
  exact ⟨a1.trans (b1.trans (c1.trans d1)), a2.trans (b2.trans (c2.trans d2)), a3.trans (b3.trans (c3.trans d3))⟩
theorem levF_k (F : Nat → Nd) (a c x : Nat) : (levF F a c x).k = (F x).k ∧ (levF F a c x).z = (F x).z ∧ (levF F a c x).s = (F x).s := by
  unfold levF
  obtain ⟨a1, a2, a3, _⟩ := upN_k (upO F a (some c)) c x (some a)
  obtain ⟨b1, b2, b3, _⟩ := upO_k F a x (some c)
  exact ⟨a1.trans b1, a2.trans b2, a3.trans b3⟩
theorem entF_nw (F : Nat → Nd) (e a p x : Nat) : (entF F e a p x).nw = if x = a then some p else if x = p then some e else (F x).nw := by
  unfold entF
  rw [upN_nw, (upO_k _ _ _ _).2.2.2, (upO_k _ _ _ _).2.2.2, upN_nw]
theorem entF_od (F : Nat → Nd) (e a p x : Nat) : (entF F e a p x).od = if x = e then some p else if x = p then some a else (F x).od := by
  unfold entF
  rw [(upN_k _ _ _ _).2.2.2, upO_od, upO_od, (upN_k _ _ _ _).2.2.2]
theorem levF_nw (F : Nat → Nd) (a c x : Nat) : (levF F a c x).nw = if x = c then some a else (F x).nw := by
  unfold levF
  rw [upN_nw, (upO_k _ _ _ _).2.2.2]
theorem levF_od (F : Nat → Nd) (a c x : Nat) : (levF F a c x).od = if x = a then some c else (F x).od := by
  unfold levF
  rw [(upN_k _ _ _ _).2.2.2, upO_od]
/-- each block's older one is the next, whose newer one is it -/
def Lnk (F : Nat → Nd) : List Nat → Prop
  | a :: b :: t => (F a).od = some b ∧ (F b).nw = some a ∧ Lnk F (b :: t)
  | _ => True
theorem Lnk.congr {F F' : Nat → Nd} : ∀ l : List Nat, (∀ x ∈ l.dropLast, (F' x).od = (F x).od) → (∀ x ∈ l.tail, (F' x).nw = (F x).nw) → Lnk F l → Lnk F' l
  | [], _, _, _ => trivial
  | [a], _, _, _ => trivial
  | a :: b :: t, h1, h2, h => by
    obtain ⟨h3, h4, h5⟩ := h
    refine ⟨(h1 a (by simp [List.dropLast])).trans h3, (h2 b (by simp)).trans h4, Lnk.congr (b :: t) (fun x hx => h1 x ?_) (fun x hx => h2 x ?_) h5⟩
    · rw [List.dropLast_cons_of_ne_nil (by simp)]; exact List.mem_cons_of_mem _ hx
    · exact List.mem_cons_of_mem _ hx
theorem Lnk.split {F : Nat → Nd} : ∀ (A : List Nat) (p : Nat) (B : List Nat), Lnk F (A ++ p :: B) ↔ Lnk F (A ++ [p]) ∧ Lnk F (p :: B)
  | [], p, B => by simp [Lnk]
  | [a], p, B => by
    simp only [List.cons_append, List.nil_append, Lnk]
    constructor
    · rintro ⟨h1, h2, h3⟩; exact ⟨⟨h1, h2, trivial⟩, h3⟩
    · rintro ⟨⟨h1, h2, _⟩, h3⟩; exact ⟨h1, h2, h3⟩
  | a :: a' :: A, p, B => by
    have := Lnk.split (F := F) (a' :: A) p B
    simp only [List.cons_append, Lnk] at this ⊢
    rw [this]
    constructor
    · rintro ⟨h1, h2, h3, h4⟩; exact ⟨⟨h1, h2, h3⟩, h4⟩
    · rintro ⟨⟨h1, h2, h3⟩, h4⟩; exact ⟨h1, h2, h3, h4⟩
theorem cons_snoc : ∀ (e : Nat) (L : List Nat), ∃ A a, e :: L = A ++ [a]
  | e, [] => ⟨[], e, rfl⟩
  | e, x :: L => by
    obtain ⟨A, a, h⟩ := cons_snoc x L
    exact ⟨e :: A, a, by rw [h]; rfl⟩
theorem snoc_cons : ∀ (e : Nat) (L : List Nat), ∃ c B, L ++ [e] = c :: B
  | e, [] => ⟨e, [], rfl⟩
  | e, x :: L => ⟨x, L ++ [e], rfl⟩
/-- where a block stands in its ring -/
structure At (F : Nat → Nd) (e : Nat) (L : List Nat) (b a c : Nat) (L1 L2 A B : List Nat) : Prop where
  eq : L = L1 ++ b :: L2
  left : e :: L1 = A ++ [a]
  right : L2 ++ [e] = c :: B
  nw : (F b).nw = some a
  od : (F b).od = some c
theorem ring_at {F : Nat → Nd} {e : Nat} {L : List Nat} (hl : Lnk F (e :: (L ++ [e]))) {b : Nat} (hb : b ∈ L) : ∃ a c L1 L2 A B, At F e L b a c L1 L2 A B := by
  obtain ⟨L1, L2, rfl⟩ := List.append_of_mem hb
  obtain ⟨A, a, h1⟩ := cons_snoc e L1
  obtain ⟨c, B, h2⟩ := snoc_cons e L2
  refine ⟨a, c, L1, L2, A, B, rfl, h1, h2, ?_, ?_⟩
  · have e1 : e :: (L1 ++ b :: L2 ++ [e]) = A ++ a :: (b :: (L2 ++ [e])) := by
      rw [List.append_assoc, ← List.cons_append, h1]; simp
    rw [e1, Lnk.split] at hl
    exact hl.2.2.1
  · have e1 : e :: (L1 ++ b :: L2 ++ [e]) = (e :: L1) ++ b :: (c :: B) := by
      rw [← h2]; simp
    rw [e1, Lnk.split] at hl
    exact hl.2.1
theorem At.mem {F : Nat → Nd} {e : Nat} {L : List Nat} {b a c : Nat} {L1 L2 A B : List Nat} (h : At F e L b a c L1 L2 A B) : (a = e ∨ a ∈ L) ∧ (c = e ∨ c ∈ L) := by
  constructor
  · have : a ∈ e :: L1 := by rw [h.left]; simp
    rcases List.mem_cons.1 this with h1 | h1
    · exact .inl h1
    · exact .inr (by rw [h.eq]; simp [h1])
  · have : c ∈ L2 ++ [e] := by rw [h.right]; simp
    rcases List.mem_append.1 this with h1 | h1
    · exact .inr (by rw [h.eq]; simp [h1])
    · exact .inl (by simpa using h1)
theorem At.ne {F : Nat → Nd} {e : Nat} {L : List Nat} {b a c : Nat} {L1 L2 A B : List Nat} (h : At F e L b a c L1 L2 A B) (hn : (e :: L).Nodup) : a ≠ b ∧ c ≠ b := by
  rw [h.eq, ← List.cons_append] at hn
  obtain ⟨n1, n2, n3⟩ := List.nodup_append.1 hn
  constructor
  · rintro rfl
    have h1 : a ∈ e :: L1 := by rw [h.left]; simp
    exact n3 a h1 a (by simp) rfl
  · rintro rfl
    have : c ∈ L2 ++ [e] := by rw [h.right]; simp
    rcases List.mem_append.1 this with h1 | h1
    · exact (List.nodup_cons.1 n2).1 h1
    · have : c = e := by simpa using h1
      exact n3 e (by simp) c (by simp) this.symm
theorem ring_leave {F : Nat → Nd} {e : Nat} {L : List Nat} {b a c : Nat} {L1 L2 A B : List Nat} (hl : Lnk F (e :: (L ++ [e]))) (hn : (e :: L).Nodup) (h : At F e L b a c L1 L2 A B) : Lnk (levF F a c) (e :: (L1 ++ L2 ++ [e])) := by
  have hne := h.ne hn
  have e0 : e :: (L ++ [e]) = A ++ a :: (b :: (c :: B)) := by
    rw [h.eq, List.append_assoc, ← List.cons_append, h.left]; simp [← h.right]
  have e1 : e :: (L1 ++ L2 ++ [e]) = A ++ a :: (c :: B) := by
    rw [List.append_assoc, ← List.cons_append, h.left, h.right]; simp
  rw [e0, Lnk.split] at hl
  obtain ⟨l1, l2, l3, l4⟩ := hl
  obtain ⟨_, _, l5⟩ := l4
  rw [h.eq, ← List.cons_append] at hn
  obtain ⟨n1, n2, n3⟩ := List.nodup_append.1 hn
  have n1' := n1
  rw [h.left] at n1'
  obtain ⟨m1, _, m3⟩ := List.nodup_append.1 n1'
  have hA : a ∉ A := fun hx => m3 a hx a (by simp) rfl
  have hcB : (c :: B).dropLast = L2 := by rw [← h.right]; simp
  have ha1 : a ∈ e :: L1 := by rw [h.left]; simp
  have haL2 : a ∉ L2 := fun hx => n3 a ha1 a (by simp [hx]) rfl
  have hc1 : c ∈ L2 ++ [e] := by rw [h.right]; simp
  have hcL1 : c ∉ L1 := fun hx => by
    rcases List.mem_append.1 hc1 with h1 | h1
    · exact n3 c (by simp [hx]) c (by simp [h1]) rfl
    · have : c = e := by simpa using h1
      subst this
      exact (List.nodup_cons.1 n1).1 hx
  have htl : (A ++ [a]).tail = L1 := by rw [← h.left]; rfl
  have hdl : (A ++ [a]).dropLast = A := by simp
  have hcB2 : c ∉ B := by
    have : (L2 ++ [e]).Nodup := by
      rw [List.nodup_append]
      refine ⟨(List.nodup_cons.1 n2).2, by simp, fun x hx y hy => ?_⟩
      have : y = e := by simpa using hy
      subst this
      exact fun exy => n3 y (by simp) x (by simp [hx]) exy.symm
    rw [h.right] at this
    exact (List.nodup_cons.1 this).1
  rw [e1, Lnk.split]
  refine ⟨Lnk.congr _ (fun x hx => ?_) (fun x hx => ?_) l1, ?_, ?_, Lnk.congr _ (fun x hx => ?_) (fun x hx => ?_) l5⟩
  · rw [hdl] at hx
    rw [levF_od, if_neg (fun e => hA (by rw [← e]; exact hx))]
  · rw [htl] at hx
    rw [levF_nw, if_neg (fun e => hcL1 (by rw [← e]; exact hx))]
  · rw [levF_od, if_pos rfl]
  · rw [levF_nw, if_pos rfl]
  · rw [hcB] at hx
    rw [levF_od, if_neg (fun e => haL2 (by rw [← e]; exact hx))]
  · rw [List.tail_cons] at hx
    rw [levF_nw, if_neg (fun e => hcB2 (by rw [← e]; exact hx))]
/-- of a ring: what stands first behind the end, and what stands last -/
theorem ring_ends {F : Nat → Nd} {e : Nat} {L : List Nat} (hl : Lnk F (e :: (L ++ [e]))) : ∃ a A c C, L ++ [e] = a :: A ∧ (F e).od = some a ∧ e :: L = C ++ [c] ∧ (F e).nw = some c := by
  obtain ⟨a, A, h1⟩ := snoc_cons e L
  obtain ⟨C, c, h2⟩ := cons_snoc e L
  refine ⟨a, A, c, C, h1, ?_, h2, ?_⟩
  · rw [h1] at hl; exact hl.1
  · rw [← List.cons_append, h2, List.append_assoc] at hl
    have := (Lnk.split C c [e]).1 (by simpa using hl)
    exact this.2.2.1
theorem ring_enter {F : Nat → Nd} {e a p : Nat} {L A : List Nat} (hl : Lnk F (e :: (L ++ [e]))) (hn : (e :: L).Nodup) (h1 : L ++ [e] = a :: A) (hp : p ∉ e :: L) : Lnk (entF F e a p) (e :: (p :: L ++ [e])) := by
  have hpe : p ≠ e := fun e1 => hp (by simp [e1])
  have hpL : p ∉ L := fun e1 => hp (by simp [e1])
  have hal : a ∈ L ++ [e] := by rw [h1]; simp
  have hpa : p ≠ a := by
    rintro rfl
    rcases List.mem_append.1 hal with h | h
    · exact hpL h
    · exact hpe (by simpa using h)
  rw [List.cons_append, h1]
  rw [h1] at hl
  obtain ⟨l1, l2, l3⟩ := hl
  have hd : (a :: A).dropLast = L := by rw [← h1]; simp
  have heL : e ∉ L := (List.nodup_cons.1 hn).1
  have haA : a ∉ A := by
    have : (L ++ [e]).Nodup := by
      rw [List.nodup_append]
      refine ⟨(List.nodup_cons.1 hn).2, by simp, fun x hx y hy => ?_⟩
      have : y = e := by simpa using hy
      subst this
      exact fun exy => heL (by rw [← exy]; exact hx)
    rw [h1] at this
    exact (List.nodup_cons.1 this).1
  have hpA : p ∉ A := fun hx => by
    have : p ∈ L ++ [e] := by rw [h1]; simp [hx]
    rcases List.mem_append.1 this with h | h
    · exact hpL h
    · exact hpe (by simpa using h)
  refine ⟨by rw [entF_od, if_pos rfl], by rw [entF_nw, if_neg hpa, if_pos rfl], by rw [entF_od, if_neg hpe, if_pos rfl], by rw [entF_nw, if_pos rfl], Lnk.congr _ (fun x hx => ?_) (fun x hx => ?_) l3⟩
  · rw [hd] at hx
    rw [entF_od, if_neg (fun e1 => heL (by rw [← e1]; exact hx)), if_neg (fun e1 => hpL (by rw [← e1]; exact hx))]
  · rw [List.tail_cons] at hx
    rw [entF_nw, if_neg (fun e1 => haA (by rw [← e1]; exact hx)), if_neg (fun e1 => hpA (by rw [← e1]; exact hx))]
end Go.Proofs.Ytfilmbeoggmglaa.SL
