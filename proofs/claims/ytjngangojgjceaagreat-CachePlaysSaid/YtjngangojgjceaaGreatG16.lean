/- Package cache's map of entries: keys that are structs. Conditions: how long the parts of a key are.
   A cache beside what it told, as plain data: its blocks; what a step of its store, its queue, its map makes. Conditions: how long keys are, how many puts there were.
   Package cache: given, find, Drop; a cache that is not there. Conditions: how long keys are, how many puts there were. -/
import Derived.Test.YtjngangojgjceaaGreatG11
import Derived.Test.YtjngangojgjceaaGreatG15
import Derived.Maps.Keyed
import Derived.DeepKeys4
import Derived.Maps.OwnSet
set_option linter.unusedSimpArgs false
set_option linter.unusedVariables false
namespace Go.Proofs.YtjngangojgjceaaGreat.CA
open Go.ChangeShapes Go.WideShapes Go.ChangeAt Go.RowKit Go.Maps Go.ChangeMaps
open Go.Proofs.YtjngangojgjceaaGreat.SL Go.Proofs.YtjngangojgjceaaGreat.EX
set_option maxRecDepth 100000
set_option linter.unusedVariables false
set_option linter.unusedSimpArgs false

theorem laidK : laidOutB Tryz.prog = true := by kernel_rfl
theorem kK : Keyed Tryz.prog 32 := Keyed.of_law (deep_law_laid laidK (m := 2) (by omega) (of_decide_eq_true (by kernel_rfl)) (by kernel_rfl) (by kernel_rfl))
/-- how a key is told -/
def kyL (k : Ky) : Lit := .string (keyBytes [.string k.1.data.toList, .string k.2.1.data.toList, .int .i64 k.2.2.1, .string k.2.2.2.data.toList])
theorem cellsS : Tryz.prog.cellsOf 9 = 1 := by kernel_rfl
theorem cellsI : Tryz.prog.cellsOf 3 = 1 := by kernel_rfl
theorem cellsK : Tryz.prog.cellsOf 32 = 4 := by kernel_rfl
theorem keyK (k : Ky) (h : FitK k) : keyOf Tryz.prog 32 (kyV k) = some (kyL k) := by
  obtain ⟨db, ro, fm, no⟩ := k
  obtain ⟨h1, h2, h3, h4, h5⟩ := h
  simp only at h1 h2 h3 h4 h5
  obtain ⟨d, hd⟩ : ∃ d, Tryz.prog.types.size = d + 1 := ⟨Tryz.prog.types.size - 1, by kernel_rfl⟩
  have ht : (Tryz.prog.keyType 32 && (kyV (db, ro, fm, no)).formed Tryz.prog 32) = true := by
    rw [show Tryz.prog.keyType 32 = true by kernel_rfl]
    unfold Value.formed
    simp [Tryz.underlying32, cellsK]
  have hw : (Lit.int IntKind.i64 fm).wf = true := by
    simp [Lit.wf, IntKind.min, IntKind.max, IntKind.signed, IntKind.bits]; omega
  have m1 : db.size ≤ maxLen := by unfold maxLen; omega
  have m2 : ro.size ≤ maxLen := by unfold maxLen; omega
  have m3 : no.size ≤ maxLen := by unfold maxLen; omega
  have hk : Tryz.prog.keyLits (Tryz.prog.types.size + 1) 32 (kyV (db, ro, fm, no)).cells.toList = some [.string db.data.toList, .string ro.data.toList, .int .i64 fm, .string no.data.toList] := by
    rw [hd]
    simp [Program.keyLits, Tryz.underlying32, Tryz.underlying9, Tryz.underlying3, cellsS, cellsI, cellsK, Value.cells, hw, m1, m2, m3]
  unfold keyOf
  rw [Tryz.underlying32]
  simp only
  rw [if_pos ht, hk]
  rfl
theorem kyL_inj {j k : Ky} (hj : FitK j) (hk : FitK k) (h : kyL j = kyL k) : j = k := by
  have h1 := keyK j hj
  have h2 := keyK k hk
  rw [h] at h1
  have := kK.inj h1 h2
  obtain ⟨a, b, c, d⟩ := j
  obtain ⟨a', b', c', d'⟩ := k
  simp [kyV, kC] at this
  obtain ⟨rfl, rfl, rfl, rfl⟩ := this
  rfl
theorem kyL_key (k : Ky) : WideAt.IsKeyLit (kyL k) := trivial
/-- an entry: its key's text, its value -/
abbrev Ce : Type := ByteArray × ByteArray
abbrev ceV (e : Ce) : Value := .agg #[.string e.1, .string e.2]
def zCe : Ce := (ByteArray.empty, ByteArray.empty)
def ceE : Value → Option (DataW Unit × List MemPlace)
  | .agg cs => match cs.toList with
    | [.string k, .string a] => some (.agg [.lit (.string k.data.toList), .lit (.string a.data.toList)], [])
    | _ => none
  | _ => none
def ceD1 (e : Ce) : DataW Unit := .agg [.lit (.string e.1.data.toList), .lit (.string e.2.data.toList)]
def ceD (o : Option Ce) : DataW Unit := ceD1 (o.getD zCe)
theorem ceE_mk (e : Ce) : ceE (ceV e) = some (ceD1 e, []) := rfl
theorem ba_of {a b : ByteArray} (h : a.data.toList = b.data.toList) : a = b := by
  obtain ⟨⟨x⟩⟩ := a
  obtain ⟨⟨y⟩⟩ := b
  simp only at h
  rw [h]
theorem ceE_inv {v : Value} {e : Ce} {ps : List MemPlace} (h : ceE v = some (ceD1 e, ps)) : v = ceV e := by
  unfold ceE at h
  split at h
  · rename_i cs
    split at h
    · rename_i k a hcs
      simp only [ceD1, Option.some.injEq, Prod.mk.injEq, DataW.agg.injEq, List.cons.injEq, DataW.lit.injEq, Lit.string.injEq, true_and, and_true] at h
      obtain ⟨⟨h1, h2⟩, _⟩ := h
      obtain ⟨ek, ea⟩ := e
      simp only at h1 h2
      rw [ba_of h1, ba_of h2] at hcs
      obtain ⟨cl⟩ := cs
      simp only at hcs
      rw [hcs]
    · cases h
  · cases h
theorem iCe : ∃ i, Tryz.prog.info? 90 = some i ∧ i.zero = some (ceV zCe) := by
  have h : (Tryz.prog.info? 90).bind (fun i => i.zero) = some (ceV zCe) := by kernel_rfl
  cases hi : Tryz.prog.info? 90 with
  | none => rw [hi] at h; cases h
  | some j => rw [hi] at h; exact ⟨j, rfl, h⟩
/-- the block is a map from keys to entries, of at most n of them -/
def MapC (w : World) (b n : Nat) (f : Ky → Option Ce) : Prop :=
  ∃ D, w.ownsMap Tryz.prog 32 ceE b n D ∧ (∀ k : Ky, FitK k → D.atKey (kyL k) (ceD none) = ceD (f k)) ∧ ∀ k : Ky, FitK k → Maps.has D (kyL k) = (f k).isSome
section
variable {w w' : World} {b n : Nat} {f : Ky → Option Ce}
theorem MapC.lt (h : MapC w b n f) : b < w.heap.size := by
  obtain ⟨D, h, _⟩ := h; exact h.lt
theorem MapC.made (w : World) : MapC (w.alloc (.map #[] 0)) w.heap.size 0 (fun _ => none) := ⟨.map [], World.ownsMap_made _ _ _ _, fun k _ => rfl, fun k _ => rfl⟩
theorem MapC.keep (h : MapC w b n f) (e : w'.heap[b]? = w.heap[b]?) : MapC w' b n f := by
  obtain ⟨D, ⟨es, clock, hb, r⟩, hf⟩ := h
  exact ⟨D, ⟨es, clock, e.trans hb, r⟩, hf⟩
theorem MapC.below (h : MapC w b n f) (hb : Below w.heap.size w w') : MapC w' b n f := h.keep (hb.block b h.lt)
theorem MapC.congr {f' : Ky → Option Ce} (h : MapC w b n f) (e : ∀ k, f k = f' k) : MapC w b n f' := by
  have : f = f' := funext e
  rw [← this]; exact h
theorem keyC_ne {x k : Ky} (hx : FitK x) (hk : FitK k) (h : x ≠ k) : kyL x ≠ kyL k := fun e => h (kyL_inj hx hk e)
theorem MapC.put {m : Nat} {D : DataW Unit} (h : w.ownsMap Tryz.prog 32 ceE b n D) (h1 : ∀ k : Ky, FitK k → D.atKey (kyL k) (ceD none) = ceD (f k)) (h2 : ∀ k : Ky, FitK k → Maps.has D (kyL k) = (f k).isSome) {k : Ky} (hk : FitK k) {e : Ce}
    (h' : w'.ownsMap Tryz.prog 32 ceE b m (D.put (kyL k) (ceD1 e))) : MapC w' b m (fun x => if x = k then some e else f x) := by
  refine ⟨_, h', fun x hx => ?_, fun x hx => ?_⟩
  · show _ = ceD (if x = k then some e else f x)
    by_cases hxk : x = k
    · subst hxk; rw [if_pos rfl]; exact atKey_put_same (h.isMap) (kyL_key _) _ _
    · rw [if_neg hxk, atKey_put_other (keyC_ne hx hk hxk)]; exact h1 x hx
  · show _ = (if x = k then some e else f x).isSome
    by_cases hxk : x = k
    · subst hxk; rw [if_pos rfl]; exact has_put_same h.isMap (kyL_key _) _
    · rw [if_neg hxk, has_put_other (keyC_ne hx hk hxk)]; exact h2 x hx
theorem MapC.del {D : DataW Unit} (h1 : ∀ k : Ky, FitK k → D.atKey (kyL k) (ceD none) = ceD (f k)) (h2 : ∀ k : Ky, FitK k → Maps.has D (kyL k) = (f k).isSome) {k : Ky} (hk : FitK k)
    (h' : w'.ownsMap Tryz.prog 32 ceE b n (D.del (kyL k))) : MapC w' b n (fun x => if x = k then none else f x) := by
  refine ⟨_, h', fun x hx => ?_, fun x hx => ?_⟩
  · show _ = ceD (if x = k then none else f x)
    by_cases hxk : x = k
    · subst hxk; rw [if_pos rfl]; exact atKey_del_same _
    · rw [if_neg hxk, atKey_del_other (keyC_ne hx hk hxk)]; exact h1 x hx
  · show _ = (if x = k then none else f x).isSome
    by_cases hxk : x = k
    · subst hxk; rw [if_pos rfl]; exact has_del_same
    · rw [if_neg hxk, has_del_other (keyC_ne hx hk hxk)]; exact h2 x hx
/-- 'e, ok := m[k]' -/
theorem MapC.look (h : MapC w b n f) (k : Ky) (hk : FitK k) :
    (Instr.lookup 57 (.map (some b)) (kyV k) true).run Tryz.prog w = .ok (.tuple #[ceV ((f k).getD zCe), .bool (f k).isSome]) w := by
  obtain ⟨D, hm, h1, h2⟩ := h
  have hz : (zeroValue 90).run Tryz.prog w = .ok (ceV zCe) w := by
    obtain ⟨i, hi, hz⟩ := iCe
    simp [zeroValue, typeInfo, hi, hz]
  obtain ⟨v, ps, hr, hv⟩ := hm.look_ok kK Tryz.underlying57 hz (zd := ceD none) (zp := []) (ceE_mk zCe) (keyK k hk)
  rw [h1 k hk] at hv
  rw [hr, h2 k hk, ceE_inv (e := (f k).getD zCe) hv]
end
end Go.Proofs.YtjngangojgjceaaGreat.CA
namespace Go.Proofs.YtjngangojgjceaaGreat.CA
open Go.ChangeShapes Go.WideShapes Go.ChangeAt Go.RowKit Go.Maps Go.ChangeMaps
open Go.Proofs.YtjngangojgjceaaGreat.SL Go.Proofs.YtjngangojgjceaaGreat.EX
set_option maxRecDepth 100000
set_option linter.unusedVariables false
set_option linter.unusedSimpArgs false

/-- where a cache's parts stand, and what it was made of -/
structure Cb where
  g : Nat
  s : Nat
  q : Nat
  m : Nat
  al : Int
  ke : Int
  mo : Int
  ttl : Int
abbrev cC (C : Cb) : Array Value := #[ptr C.g, .int .i64 C.ttl, .map (some C.m), ptr C.s, ptr C.q]
structure Cw where
  n : Nat
  nq : Nat
  nm : Nat
  x : Sx
  y : Qx
def Cw.own (c : Cw) (C : Cb) (b : Nat) : Prop := b = C.g ∨ b = C.m ∨ c.x.own C.s b ∨ c.y.own C.q b
structure CT (B : Nat) (w : World) (C : Cb) (N : Nat) (c : Cw) (σ : Sg) : Prop where
  bk : Bk w C.g 61 (cC C)
  st : St w C.s c.n C.al C.ke C.mo c.x
  qt : QT B w C.q c.nq c.y
  mp : MapC w C.m c.nm (fV σ.V)
  eT : c.x.tE = σ.T
  eK : c.x.kE = σ.K
  eI : c.y.L.map it = σ.I
  n1 : c.n ≤ 2000000000 + N
  n2 : c.nq ≤ N
  n3 : c.nm ≤ N
  bg : B ≤ C.g ∧ B ≤ C.m
  bx : ∀ b, c.x.own C.s b → B ≤ b
  gm : C.g ≠ C.m
  gx : ¬ c.x.own C.s C.g
  gy : ¬ c.y.own C.q C.g
  mx : ¬ c.x.own C.s C.m
  my : ¬ c.y.own C.q C.m
  xy : ∀ b, c.x.own C.s b → ¬ c.y.own C.q b
section
variable {B : Nat} {w w' : World} {C : Cb} {N : Nat} {c : Cw} {σ : Sg}
theorem CT.lt (h : CT B w C N c σ) {b : Nat} (hb : c.own C b) : b < w.heap.size := by
  rcases hb with rfl | rfl | hb | hb
  · exact h.bk.lt
  · exact h.mp.lt
  · exact h.st.lt hb
  · exact h.qt.lt hb
theorem CT.ge (h : CT B w C N c σ) {b : Nat} (hb : c.own C b) : B ≤ b := by
  rcases hb with rfl | rfl | hb | hb
  · exact h.bg.1
  · exact h.bg.2
  · exact h.bx b hb
  · exact h.qt.ge hb
theorem CT.keep (h : CT B w C N c σ) (hk : ∀ b, c.own C b → w'.heap[b]? = w.heap[b]?) : CT B w' C N c σ :=
  { h with
    bk := h.bk.heap (hk _ (.inl rfl))
    st := h.st.keep fun b hb => hk b (.inr (.inr (.inl hb)))
    qt := h.qt.keep fun b hb => hk b (.inr (.inr (.inr hb)))
    mp := h.mp.keep (hk _ (.inr (.inl rfl))) }
theorem CT.below (h : CT B w C N c σ) (hb : Below w.heap.size w w') : CT B w' C N c σ := h.keep fun b ho => hb.block b (h.lt ho)
theorem CT.mono (h : CT B w C N c σ) {N' : Nat} (hN : N ≤ N') : CT B w C N' c σ := { h with n1 := by have := h.n1; omega, n2 := Nat.le_trans h.n2 hN, n3 := Nat.le_trans h.n3 hN }
/-- a step of the store -/
theorem CT.sStep (h : CT B w C N c σ) (hB : B ≤ w.heap.size) {x' : Sx} {n' : Nat} (hs : St w' C.s n' C.al C.ke C.mo x') (ho : ∀ b, x'.own C.s b → c.x.own C.s b ∨ w.heap.size ≤ b) (hc : Chg (c.x.own C.s) w w') (hn : n' ≤ 2000000000 + N) {T' K' : List En} (eT : x'.tE = T') (eK : x'.kE = K') :
    CT B w' C N { c with n := n', x := x' } ⟨T', K', σ.I, σ.V⟩ where
  bk := h.bk.chg hc h.gx
  st := hs
  qt := h.qt.chg hc fun b hb hx => h.xy b hx hb
  mp := h.mp.keep (hc.block _ h.mp.lt h.mx)
  eT := eT
  eK := eK
  eI := h.eI
  n1 := hn
  n2 := h.n2
  n3 := h.n3
  bg := h.bg
  bx := fun b hb => (ho b hb).elim (h.bx b) (fun h2 => Nat.le_trans hB h2)
  gm := h.gm
  gx := fun hb => (ho _ hb).elim h.gx (fun h2 => by have := h.bk.lt; omega)
  gy := h.gy
  mx := fun hb => (ho _ hb).elim h.mx (fun h2 => by have := h.mp.lt; omega)
  my := h.my
  xy := fun b hb hy => (ho b hb).elim (fun h2 => h.xy b h2 hy) (fun h2 => by have := h.qt.lt hy; omega)
/-- a step of the queue -/
theorem CT.qStep (h : CT B w C N c σ) {y' : Qx} {n' : Nat} (hs : QT B w' C.q n' y') (ho : ∀ b, y'.own C.q b → c.y.own C.q b ∨ w.heap.size ≤ b) (hc : Chg (c.y.own C.q) w w') (hn : n' ≤ N) {I' : List It} (eI : y'.L.map it = I') :
    CT B w' C N { c with nq := n', y := y' } ⟨σ.T, σ.K, I', σ.V⟩ where
  bk := h.bk.chg hc h.gy
  st := h.st.chg hc fun b hb hx => h.xy b hb hx
  qt := hs
  mp := h.mp.keep (hc.block _ h.mp.lt h.my)
  eT := h.eT
  eK := h.eK
  eI := eI
  n1 := h.n1
  n2 := hn
  n3 := h.n3
  bg := h.bg
  bx := h.bx
  gm := h.gm
  gx := h.gx
  gy := fun hb => (ho _ hb).elim h.gy (fun h2 => by have := h.bk.lt; omega)
  mx := h.mx
  my := fun hb => (ho _ hb).elim h.my (fun h2 => by have := h.mp.lt; omega)
  xy := fun b hb hy => (ho b hy).elim (fun h2 => h.xy b hb h2) (fun h2 => by have := h.st.lt hb; omega)
/-- a step of the map -/
theorem CT.mStep (h : CT B w C N c σ) {n' : Nat} {V' : Vm} (hs : MapC w' C.m n' (fV V')) (hg : w.grownBy w' (some C.m)) (hn : n' ≤ N) : CT B w' C N { c with nm := n' } ⟨σ.T, σ.K, σ.I, V'⟩ where
  bk := EX.Bk.grown h.bk hg fun q hq => by injection hq with hq; rw [← hq]; exact h.gm
  st := h.st.keep fun b hb => hg.block b (h.st.lt hb) (fun e => by injection e with e; rw [e] at hb; exact h.mx hb)
  qt := h.qt.keep fun b hb => hg.block b (h.qt.lt hb) (fun e => by injection e with e; rw [e] at hb; exact h.my hb)
  mp := hs
  eT := h.eT
  eK := h.eK
  eI := h.eI
  n1 := h.n1
  n2 := h.n2
  n3 := hn
  bg := h.bg
  bx := h.bx
  gm := h.gm
  gx := h.gx
  gy := h.gy
  mx := h.mx
  my := h.my
  xy := h.xy
theorem CT.cells (h : CT B w C N c σ) : w.cell? ⟨C.g, 0, none⟩ = some (ptr C.g) ∧ w.cell? ⟨C.g, 1, none⟩ = some (.int .i64 C.ttl) ∧ w.cell? ⟨C.g, 2, none⟩ = some (.map (some C.m)) ∧ w.cell? ⟨C.g, 3, none⟩ = some (ptr C.s) ∧ w.cell? ⟨C.g, 4, none⟩ = some (ptr C.q) :=
  ⟨h.bk.cell 0, h.bk.cell 1, h.bk.cell 2, h.bk.cell 3, h.bk.cell 4⟩
end
/-- a cache made since w0, and what lies apart from it -/
def LC (w0 w : World) (C : Cb) (N : Nat) (σ : Sg) (O : List Kp) : Prop := ∃ c, CT w0.heap.size w C N c σ ∧ Below w0.heap.size w0 w ∧ ∀ p ∈ O, p.ok w0.heap.size w (c.own C)
section
variable {w0 w w' : World} {C : Cb} {N : Nat} {σ : Sg} {O : List Kp}
theorem LC.bel (h : LC w0 w C N σ O) : Below w0.heap.size w0 w := by obtain ⟨c, _, h, _⟩ := h; exact h
theorem LC.below (h : LC w0 w C N σ O) (hb : Below w.heap.size w w') : LC w0 w' C N σ O := by
  obtain ⟨c, h1, h2, h3⟩ := h
  exact ⟨c, h1.below hb, h2.trans (hb.mono h2.size), fun p hp => (h3 p hp).below hb⟩
theorem LC.mono (h : LC w0 w C N σ O) {N' : Nat} (hN : N ≤ N') : LC w0 w C N' σ O := by
  obtain ⟨c, h1, h2, h3⟩ := h
  exact ⟨c, h1.mono hN, h2, h3⟩
theorem LC.told (h : LC w0 w C N σ O) {v : Value} {d : List ByteArray} (hp : Kp.txt v d ∈ O) : OT w0.heap.size w v d := by obtain ⟨c, h1, h2, h3⟩ := h; exact (h3 _ hp).1
theorem LC.blk (h : LC w0 w C N σ O) {b : Nat} {t : TypeId} {cs : Array Value} (hp : Kp.blk b t cs ∈ O) : Bk w b t cs := by obtain ⟨c, h1, h2, h3⟩ := h; exact (h3 _ hp).1
theorem LC.kp (h : LC w0 w C N σ O) {P : World → Prop} {S : Nat → Prop} (hp : Kp.keep P S ∈ O) : P w := by obtain ⟨c, h1, h2, h3⟩ := h; exact (h3 _ hp).1
theorem LC.forget (h : LC w0 w C N σ O) {O' : List Kp} (hO : ∀ p ∈ O', p ∈ O) : LC w0 w C N σ O' := by
  obtain ⟨c, h1, h2, h3⟩ := h
  exact ⟨c, h1, h2, fun p hp => h3 p (hO p hp)⟩
theorem LC.nil (h : LC w0 w C N σ O) : LC w0 w C N σ [] := h.forget fun p hp => by cases hp
theorem LC.cells (h : LC w0 w C N σ O) : w.cell? ⟨C.g, 0, none⟩ = some (ptr C.g) ∧ w.cell? ⟨C.g, 1, none⟩ = some (.int .i64 C.ttl) ∧ w.cell? ⟨C.g, 2, none⟩ = some (.map (some C.m)) ∧ w.cell? ⟨C.g, 3, none⟩ = some (ptr C.s) ∧ w.cell? ⟨C.g, 4, none⟩ = some (ptr C.q) := by
  obtain ⟨c, h1, _⟩ := h; exact h1.cells
theorem LC.glt (h : LC w0 w C N σ O) : C.g < w.heap.size := by obtain ⟨c, h1, _⟩ := h; exact h1.bk.lt
theorem LC.blkO (h : LC w0 w C N σ O) (hb : Below w.heap.size w w') {b : Nat} {t : TypeId} {cs : Array Value} (hn : w.heap.size ≤ b) (hk : Bk w' b t cs) : LC w0 w' C N σ (.blk b t cs :: O) := by
  obtain ⟨c, h1, h2, h3⟩ := h
  refine ⟨c, h1.below hb, h2.trans (hb.mono h2.size), fun p hp => ?_⟩
  rcases List.mem_cons.1 hp with rfl | hp
  · exact ⟨hk, fun ho => by have := h1.lt ho; omega⟩
  · exact (h3 p hp).below hb
theorem LC.addO (h : LC w0 w C N σ O) (hb : Below w.heap.size w w') {P : World → Prop} {S : Nat → Prop} (hP : P w') (hS : ∀ b, S b → w.heap.size ≤ b ∧ b < w'.heap.size) (hk : ∀ w1 w2, P w1 → (∀ b, S b → w2.heap[b]? = w1.heap[b]?) → P w2) : LC w0 w' C N σ (.keep P S :: O) := by
  obtain ⟨c, h1, h2, h3⟩ := h
  refine ⟨c, h1.below hb, h2.trans (hb.mono h2.size), fun p hp => ?_⟩
  rcases List.mem_cons.1 hp with rfl | hp
  · exact ⟨hP, fun b hb2 => ⟨(hS b hb2).2, fun ho => by have := h1.lt ho; have := (hS b hb2).1; omega⟩, hk⟩
  · exact (h3 p hp).below hb
theorem LC.facts (h : LC w0 w C N σ O) : UK σ.T σ.K ∧ posE σ.T ∧ posE σ.K ∧ (keysI σ.I).Nodup ∧ σ.I.Pairwise (fun a b => a.2 ≤ b.2) ∧ σ.I.length ≤ N ∧ σ.T.length + σ.K.length ≤ 1073741824 ∧ sumE σ.T + sumE σ.K ≤ 1073741824 := by
  obtain ⟨c, h1, h2, h3⟩ := h
  have r2 := h1.st.ring2
  have pos := h1.st.gg.en_pos
  have ln := h1.st.len
  have lim := h1.st.lim
  have hL : LQ w0 w C.q c.nq σ.I [] := ⟨c.y, h1.qt, h1.eI, h2, fun p hp => by cases hp⟩
  have si := hL.si
  have := h1.n2
  rw [← h1.eT, ← h1.eK]
  exact ⟨⟨r2.1, r2.2.1, r2.2.2⟩, pos.1, pos.2, si.2.1, si.1, Nat.le_trans si.2.2 this, ln, lim⟩
theorem lc_s {c : Cw} (h1 : CT w0.heap.size w C N c σ) (h2 : Below w0.heap.size w0 w) (h3 : ∀ p ∈ O, p.ok w0.heap.size w (c.own C)) {N' : Nat} (hN : N ≤ N') {x' : Sx} {n' : Nat} (hs : St w' C.s n' C.al C.ke C.mo x') (ho : ∀ b, x'.own C.s b → c.x.own C.s b ∨ w.heap.size ≤ b) (hc : Chg (c.x.own C.s) w w') (hn : n' ≤ 2000000000 + N') {T' K' : List En} (eT : x'.tE = T') (eK : x'.kE = K') :
    CT w0.heap.size w' C N' { c with n := n', x := x' } ⟨T', K', σ.I, σ.V⟩ ∧ Below w0.heap.size w0 w' ∧ (∀ p ∈ O, p.ok w0.heap.size w' (({ c with n := n', x := x' } : Cw).own C)) := by
  refine ⟨(h1.mono hN).sStep h2.size hs ho hc hn eT eK, below_chg h2 hc h1.bx, fun p hp => ?_⟩
  refine (h3 p hp).chg (hc.mono fun b _ hb => .inr (.inr (.inl hb))) fun b hb hx => ?_
  rcases hx with hx | hx | hx | hx
  · exact .inl hx
  · exact .inr (.inl hx)
  · exact (ho b hx).elim (fun h => .inr (.inr (.inl h))) (fun h => by omega)
  · exact .inr (.inr (.inr hx))
theorem lc_q {c : Cw} (h1 : CT w0.heap.size w C N c σ) (h2 : Below w0.heap.size w0 w) (h3 : ∀ p ∈ O, p.ok w0.heap.size w (c.own C)) {N' : Nat} (hN : N ≤ N') {y' : Qx} {n' : Nat} (hs : QT w0.heap.size w' C.q n' y') (ho : ∀ b, y'.own C.q b → c.y.own C.q b ∨ w.heap.size ≤ b) (hc : Chg (c.y.own C.q) w w') (hn : n' ≤ N') {I' : List It} (eI : y'.L.map it = I') :
    CT w0.heap.size w' C N' { c with nq := n', y := y' } ⟨σ.T, σ.K, I', σ.V⟩ ∧ Below w0.heap.size w0 w' ∧ (∀ p ∈ O, p.ok w0.heap.size w' (({ c with nq := n', y := y' } : Cw).own C)) := by
  refine ⟨(h1.mono hN).qStep hs ho hc hn eI, below_chg h2 hc (fun b hb => h1.qt.ge hb), fun p hp => ?_⟩
  refine (h3 p hp).chg (hc.mono fun b _ hb => .inr (.inr (.inr hb))) fun b hb hx => ?_
  rcases hx with hx | hx | hx | hx
  · exact .inl hx
  · exact .inr (.inl hx)
  · exact .inr (.inr (.inl hx))
  · exact (ho b hx).elim (fun h => .inr (.inr (.inr h))) (fun h => by omega)
/-- what a call tells of texts, and makes -/
def TxtP (w0 : World) (C : Cb) (N : Nat) (σ : Sg) (O : List Kp) (f : Value → Value) (G : List ByteArray) (e : Ending) (w' : World) : Prop :=
  ∃ v c, e = .returned (f (.slice v G.length c)) ∧ LC w0 w' C N σ (.txt (.slice v G.length c) G :: O)
abbrev two (a v : Value) : Value := .tuple #[v, a]
theorem lc_tell {c : Cw} (h1 : CT w0.heap.size w C N c σ) (h2 : Below w0.heap.size w0 w) (h3 : ∀ p ∈ O, p.ok w0.heap.size w (c.own C)) {N' n' : Nat} (hN : N ≤ N') (hn : n' ≤ 2000000000 + N') {R : List En × List En × List ByteArray} {a : Value} {e : Ending}
    (t : TellP C.s c.n n' C.al C.ke C.mo c.x R a w e w') : TxtP w0 C N' ⟨R.1, R.2.1, σ.I, σ.V⟩ O (two a) R.2.2 e w' := by
  obtain ⟨v, x', t1, t2, t3, t4, t5, t6, t7⟩ := t
  obtain ⟨va, vc, rfl⟩ := SL.OT.form t2
  obtain ⟨k1, k2, k3⟩ := lc_s h1 h2 h3 hN t3 (fun b hb => (t6 b hb).imp id (·.1)) t7 hn t4 t5
  refine ⟨va, vc, t1, _, k1, k2, fun p hp => ?_⟩
  rcases List.mem_cons.1 hp with rfl | hp
  · refine ⟨OT.mono t2 h2.size, fun q hq hx => ?_⟩
    have hq1 := (World.ownsRow.lt t2 q hq).1
    rcases hx with hx | hx | hx | hx
    · have := h1.bk.lt; omega
    · have := h1.mp.lt; omega
    · rcases t6 q hx with h | h
      · have := h1.st.lt h; omega
      · exact h.2 hq
    · have := h1.qt.lt hx; omega
  · exact k3 p hp
theorem lc_sput (h : LC w0 w C N σ O) (hal : C.mo ≤ C.al ∧ C.al ≤ 1073741824) (hN : N ≤ 1000000) (hT : kLe σ.T) (hK : kLe σ.K) (t : ByteArray) (ht : t.size ≤ 281474976710656) (z : Int) (hz : 1 ≤ z) (hm : z ≤ C.mo) (T' K' : List En) (G : List ByteArray) (hR : putE C.al t z σ.T σ.K = (T', K', G)) :
    Calls Tryz.prog 32 #[ptr C.s, .string t, .int .i64 z] w (TxtP w0 C (N + 1) ⟨T', K', σ.I, σ.V⟩ O (two (.int .i64 0)) G) := by
  obtain ⟨c, h1, h2, h3⟩ := h
  have hn := h1.n1
  refine (put_ok w C.s c.n C.al C.ke C.mo c.x h1.st hal (by omega) (fun y hy => (List.mem_append.1 hy).elim (fun e => hT y (by rw [← h1.eT]; exact e)) (fun e => hK y (by rw [← h1.eK]; exact e))) t ht z hz hm (T', K', G) (by rw [h1.eT, h1.eK]; exact hR)).mono ?_
  intro e w' tt
  exact lc_tell h1 h2 h3 (Nat.le_succ _) (by omega) tt
theorem lc_slow (h : LC w0 w C N σ O) (t : ByteArray) (z : Int) (hz : z < 1) :
    Calls Tryz.prog 32 #[ptr C.s, .string t, .int .i64 z] w fun e w' => e = .returned (.tuple #[.slice none 0 0, .int .i64 1]) ∧ w = w' := by
  obtain ⟨c, h1, _⟩ := h
  exact put_low w C.s c.n _ _ _ c.x h1.st t z hz
theorem lc_sbig (h : LC w0 w C N σ O) (t : ByteArray) (z : Int) (hz : 1 ≤ z) (hm : C.mo < z) :
    Calls Tryz.prog 32 #[ptr C.s, .string t, .int .i64 z] w fun e w' => e = .returned (.tuple #[.slice none 0 0, .int .i64 2]) ∧ w = w' := by
  obtain ⟨c, h1, _⟩ := h
  exact put_big w C.s c.n _ _ _ c.x h1.st t z hz hm
theorem lc_stouch (h : LC w0 w C N σ O) (hke : 0 ≤ C.ke) (hsk : sumE σ.K ≤ C.ke) (t : ByteArray) (ht : t.size ≤ 281474976710656) (z : Int) (hz : hasS t σ.T σ.K = some z) (T' K' : List En) (G : List ByteArray) (hR : touchE C.ke t z σ.T σ.K = (T', K', G)) :
    Calls Tryz.prog 47 #[ptr C.s, .string t] w (TxtP w0 C N ⟨T', K', σ.I, σ.V⟩ O (two (.bool true)) G) := by
  obtain ⟨c, h1, h2, h3⟩ := h
  refine (touch_yes w C.s c.n C.al C.ke C.mo c.x h1.st hke (by rw [h1.eK]; exact hsk) t ht z (by rw [h1.eT, h1.eK]; exact hz)).mono ?_
  intro e w' tt
  rw [h1.eT, h1.eK, hR] at tt
  exact lc_tell h1 h2 h3 (Nat.le_refl _) h1.n1 tt
def RetC (w0 : World) (C : Cb) (N : Nat) (σ : Sg) (O : List Kp) (v : Value) (e : Ending) (w' : World) : Prop := e = .returned v ∧ LC w0 w' C N σ O
theorem lc_sdrop (h : LC w0 w C N σ O) (t : ByteArray) (ht : t.size ≤ 281474976710656) (T' K' : List En) (hT : delE t σ.T = T') (hK : delE t σ.K = K') :
    Calls Tryz.prog 50 #[ptr C.s, .string t] w (fun e w' => (∃ b, e = .returned (.bool b)) ∧ LC w0 w' C N ⟨T', K', σ.I, σ.V⟩ O) := by
  obtain ⟨c, h1, h2, h3⟩ := h
  refine (SL.drop_any w C.s c.n C.al C.ke C.mo c.x h1.st t ht).mono ?_
  rintro e w' ⟨he, x', s1, s2, s3, s4, s5, s6⟩
  rw [h1.eT, hT] at s2
  rw [h1.eK, hK] at s3
  exact ⟨⟨_, he⟩, _, lc_s h1 h2 h3 (Nat.le_refl _) s1 (fun b hb => .inl (s4 b hb)) s5 h1.n1 s2 s3⟩
theorem lc_skeysT (h : LC w0 w C N σ O) (d : List ByteArray) (hd : keysE σ.T = d) : Calls Tryz.prog 94 #[ptr C.s, .bool false] w (fun e w' => ∃ v c, e = .returned (.slice v d.length c) ∧ OT w.heap.size w' (.slice v d.length c) d ∧ Below w.heap.size w w') := by
  obtain ⟨c, h1, h2, h3⟩ := h
  refine (keys_T w C.s c.n _ _ _ c.x h1.st).mono ?_
  rintro e w' ⟨v, he, hv, hb⟩
  rw [h1.eT, hd] at hv
  obtain ⟨va, vc, rfl⟩ := SL.OT.form hv
  exact ⟨va, vc, he, hv, hb⟩
theorem lc_skeysK (h : LC w0 w C N σ O) (d : List ByteArray) (hd : keysE σ.K = d) : Calls Tryz.prog 94 #[ptr C.s, .bool true] w (fun e w' => ∃ v c, e = .returned (.slice v d.length c) ∧ OT w.heap.size w' (.slice v d.length c) d ∧ Below w.heap.size w w') := by
  obtain ⟨c, h1, h2, h3⟩ := h
  refine (keys_K w C.s c.n _ _ _ c.x h1.st).mono ?_
  rintro e w' ⟨v, he, hv, hb⟩
  rw [h1.eK, hd] at hv
  obtain ⟨va, vc, rfl⟩ := SL.OT.form hv
  exact ⟨va, vc, he, hv, hb⟩
theorem lc_sbytesT (h : LC w0 w C N σ O) (z : Int) (hz : sumE σ.T = z) : Calls Tryz.prog 60 #[ptr C.s, .bool false] w (fun e w' => e = .returned (.int .i64 z) ∧ ∃ m, w' = w.drewN m) := by
  obtain ⟨c, h1, h2, h3⟩ := h
  rw [← hz, ← h1.eT]
  exact bytes_false w C.s c.n _ _ _ c.x h1.st
theorem lc_sbytesK (h : LC w0 w C N σ O) (z : Int) (hz : sumE σ.K = z) : Calls Tryz.prog 60 #[ptr C.s, .bool true] w (fun e w' => e = .returned (.int .i64 z) ∧ ∃ m, w' = w.drewN m) := by
  obtain ⟨c, h1, h2, h3⟩ := h
  rw [← hz, ← h1.eK]
  exact bytes_true w C.s c.n _ _ _ c.x h1.st
theorem lc_qset (h : LC w0 w C N σ O) (t : ByteArray) (ht : t.size ≤ 281474976710656) (a : Int) (ha : 0 ≤ a ∧ a ≤ 1099511627776) (hN : N ≤ 480) (I' : List It) (hI : setI t a σ.I = I') :
    Calls Tryz.prog 35 #[ptr C.q, .string t, .int .i64 a] w (RetC w0 C (N + 1) ⟨σ.T, σ.K, I', σ.V⟩ O (.int .i64 0)) := by
  obtain ⟨c, h1, h2, h3⟩ := h
  have := h1.n2
  refine (EX.set_any w w0.heap.size C.q c.nq c.y h1.qt t ht a ha (by omega) h2.size).mono ?_
  rintro e w' ⟨rfl, y', q1, q2, q3, q4⟩
  rw [h1.eI, hI] at q2
  exact ⟨rfl, _, lc_q h1 h2 h3 (Nat.le_succ _) q1 q3 q4 (by omega) q2⟩
theorem lc_qdrop (h : LC w0 w C N σ O) (t : ByteArray) (ht : t.size ≤ 281474976710656) (hN : N ≤ 490) (I' : List It) (hI : dropI t σ.I = I') :
    Calls Tryz.prog 51 #[ptr C.q, .string t] w (fun e w' => (∃ b, e = .returned (.bool b)) ∧ LC w0 w' C N ⟨σ.T, σ.K, I', σ.V⟩ O) := by
  obtain ⟨c, h1, h2, h3⟩ := h
  have := h1.n2
  refine (EX.drop_any w w0.heap.size C.q c.nq c.y h1.qt t ht (by omega) h2.size).mono ?_
  rintro e w' ⟨rfl, y', q1, q2, q3, q4⟩
  rw [h1.eI, hI] at q2
  exact ⟨⟨_, rfl⟩, _, lc_q h1 h2 h3 (Nat.le_refl _) q1 q3 q4 h1.n2 q2⟩
theorem lc_qat (h : LC w0 w C N σ O) (t : ByteArray) (ht : t.size ≤ 281474976710656) (v : Value) (hv : AtI (atI t σ.I) = v) :
    Calls Tryz.prog 46 #[ptr C.q, .string t] w fun e w' => e = .returned v ∧ Below w.heap.size w w' := by
  obtain ⟨c, h1, h2, h3⟩ := h
  exact EX.at_any w w0.heap.size C.q c.nq c.y h1.qt t ht v (by rw [at_I, h1.eI]; exact hv)
theorem lc_qdue (h : LC w0 w C N σ O) (now : Int) (hk : ∀ y ∈ σ.I, y.1.size ≤ 281474976710656) (hN : N ≤ 490) (I' : List It) (hI : gtI now σ.I = I') (d : List ByteArray) (hd : keysI (leI now σ.I) = d) :
    Calls Tryz.prog 52 #[ptr C.q, .int .i64 now] w (TxtP w0 C N ⟨σ.T, σ.K, I', σ.V⟩ O id d) := by
  obtain ⟨c, h1, h2, h3⟩ := h
  have := h1.n2
  refine (EX.due_any w w0.heap.size C.q c.nq c.y h1.qt now (fun e he => hk (it e) (by rw [← h1.eI]; exact List.mem_map_of_mem he)) (by omega) h2.size).mono ?_
  rintro e w' ⟨u, rfl, ou, y', q1, q2, q3, q4⟩
  rw [h1.eI, hI] at q2
  have he : keysT (leL now c.y.L) = d := by rw [← hd, ← h1.eI, ← it_leL]; unfold keysT keysI; rw [List.map_map]; rfl
  rw [he] at ou
  obtain ⟨va, vc, rfl⟩ := SL.OT.form ou
  obtain ⟨k1, k2, k3⟩ := lc_q h1 h2 h3 (Nat.le_refl _) q1 q3 q4 h1.n2 q2
  refine ⟨va, vc, rfl, _, k1, k2, fun p hp => ?_⟩
  rcases List.mem_cons.1 hp with rfl | hp
  · refine ⟨OT.mono ou h2.size, fun q hq hx => ?_⟩
    have hq1 := (World.ownsRow.lt ou q hq).1
    rcases hx with hx | hx | hx | hx
    · have := h1.bk.lt; omega
    · have := h1.mp.lt; omega
    · have := h1.st.lt hx; omega
    · exact q1.offT ou q hq hx
  · exact k3 p hp
/-- 'e, ok := c.entries[k]' -/
theorem lc_look (h : LC w0 w C N σ O) (k : Ky) (hk : FitK k) :
    (Instr.lookup 57 (.map (some C.m)) (kyV k) true).run Tryz.prog w = .ok (.tuple #[ceV ((fV σ.V k).getD zCe), .bool (fV σ.V k).isSome]) w := by
  obtain ⟨c, h1, _⟩ := h
  exact h1.mp.look k hk
theorem lc_m {c : Cw} (h1 : CT w0.heap.size w C N c σ) (h2 : Below w0.heap.size w0 w) (h3 : ∀ p ∈ O, p.ok w0.heap.size w (c.own C)) {N' : Nat} (hN : N ≤ N') {n' : Nat} {V' : Vm} (hs : MapC w' C.m n' (fV V')) (hg : w.grownBy w' (some C.m)) (hn : n' ≤ N') : LC w0 w' C N' ⟨σ.T, σ.K, σ.I, V'⟩ O := by
  have hc : Chg (fun b => b = C.m) w w' := (Chg.refl _ w).grown hg fun k hk _ => by injection hk with hk; exact hk.symm
  refine ⟨_, (h1.mono hN).mStep hs hg hn, below_chg h2 hc (fun b hb => by rw [hb]; exact h1.bg.2), fun p hp => ?_⟩
  exact (h3 p hp).chg (hc.mono fun b _ hb => .inr (.inl hb)) fun b _ hx => hx
theorem lc_mput (h : LC w0 w C N σ O) (hN : N ≤ 1000000) (k : Ky) (hk : FitK k) (hr : rightK k = true) (v : ByteArray) :
    ∃ w', (Instr.mapUpdate 57 (.map (some C.m)) (kyV k) (ceV (textK k, v))).run Tryz.prog w = .ok () w' ∧ LC w0 w' C (N + 1) ⟨σ.T, σ.K, σ.I, setV (textK k) v σ.V⟩ O := by
  obtain ⟨c, h1, h2, h3⟩ := h
  obtain ⟨D, hm, d1, d2⟩ := h1.mp
  have hn3 := h1.n3
  obtain ⟨w', hrun, ho, hg⟩ := hm.update kK Tryz.underlying57 (by unfold maxLen; omega) (keyK k hk) (val := ceV (textK k, v)) (ceE_mk (textK k, v))
  have hM := (MapC.put (e := (textK k, v)) hm d1 d2 hk ho).congr (f' := fV (setV (textK k) v σ.V)) (fun x => (fV_set hr v σ.V x).symm)
  exact ⟨w', hrun, lc_m h1 h2 h3 (Nat.le_succ _) hM hg (by omega)⟩
theorem lc_mdel (h : LC w0 w C N σ O) (k : Ky) (hk : FitK k) (hr : rightK k = true) (ty : TypeId) :
    ∃ w', (Builtin.delete_ #[57, 32] ty #[.map (some C.m), kyV k]).run Tryz.prog w = .ok (.tuple #[]) w' ∧ LC w0 w' C N ⟨σ.T, σ.K, σ.I, delV (textK k) σ.V⟩ O := by
  obtain ⟨c, h1, h2, h3⟩ := h
  obtain ⟨D, hm, d1, d2⟩ := h1.mp
  obtain ⟨w', hrun, ho, ht⟩ := hm.drop kK Tryz.underlying57 (keyK k hk) ty
  have hM := (MapC.del d1 d2 hk ho).congr (f' := fV (delV (textK k) σ.V)) (fun x => (fV_del hr σ.V x).symm)
  exact ⟨w', hrun, lc_m h1 h2 h3 (Nat.le_refl _) hM ht.grown h1.n3⟩
end
end Go.Proofs.YtjngangojgjceaaGreat.CA
namespace Go.Proofs.YtjngangojgjceaaGreat.CA
open Go.ChangeShapes Go.WideShapes Go.ChangeAt Go.RowKit Go.Maps Go.ChangeMaps
open Go.Proofs.YtjngangojgjceaaGreat.SL Go.Proofs.YtjngangojgjceaaGreat.EX
set_option maxRecDepth 100000
set_option linter.unusedVariables false
set_option linter.unusedSimpArgs false

theorem cinfo : ∃ j, Tryz.prog.info? 61 = some j := Option.isSome_iff_exists.1 (by kernel_rfl)
theorem eql_same (w : World) (a : Addr) : (binOp .eql 24 (.pointer (some a)) (.pointer (some a))).run Tryz.prog w = .ok (.bool true) w := by
  obtain ⟨j, hj⟩ := cinfo
  exact run_eql_ptr_same (P := Tryz.prog) w a Tryz.underlying24 hj
theorem eql_none (w : World) (a : Addr) : (binOp .eql 24 (.pointer none) (.pointer (some a))).run Tryz.prog w = .ok (.bool false) w := by
  have h : ∀ d : Nat, (Op.equalIn (d + 1) 24 (.pointer none) (.pointer (some a))).run Tryz.prog w = .ok false w := fun d => by
    simp [Op.equalIn, run_underlying Tryz.underlying24]
  simp only [binOp]
  simp [Op.equal, Op.maxDepth, h 9999]
theorem given_yes (w : World) (g : Nat) (h : w.cell? ⟨g, 0, none⟩ = some (ptr g)) :
    Calls Tryz.prog 30 #[ptr g] w fun e w' => e = .returned (.bool true) ∧ w = w' := by
  have he := fun w => CA.eql_same w ⟨g, 0, none⟩
  go_enter Tryz.func30, Tryz.ntmps30
  go_wp2
  go_ret
  exact ⟨rfl, rfl⟩
theorem given_nil (w : World) :
    Calls Tryz.prog 30 #[.pointer none] w fun e w' => e = .returned (.bool false) ∧ w = w' := by
  go_enter Tryz.func30, Tryz.ntmps30
  go_wp2
  go_ret
  exact ⟨rfl, rfl⟩
theorem given_zero (w : World) (g : Nat) (h : w.cell? ⟨g, 0, none⟩ = some (.pointer none)) :
    Calls Tryz.prog 30 #[ptr g] w fun e w' => e = .returned (.bool false) ∧ w = w' := by
  have he := fun w => CA.eql_none w ⟨g, 0, none⟩
  go_enter Tryz.func30, Tryz.ntmps30
  go_wp2
  go_ret
  exact ⟨rfl, rfl⟩
def FinC (o : Option Ce) (w : World) (e : Ending) (w' : World) : Prop := e = .returned (.tuple #[ceV (o.getD zCe), .bool o.isSome]) ∧ Below w.heap.size w w'
set_option maxHeartbeats 4000000 in
theorem find_any {w0 w : World} {C : Cb} {N : Nat} {σ : Sg} {O : List Kp} (h : LC w0 w C N σ O) (k : Ky) (hk : FitK k) :
    Calls Tryz.prog 45 #[ptr C.g, kyV k] w (FinC (fV σ.V k) w) := by
  obtain ⟨E, hE⟩ : ∃ E, (fV σ.V k).getD zCe = E := ⟨_, rfl⟩
  obtain ⟨b, hb⟩ : ∃ b, (fV σ.V k).isSome = b := ⟨_, rfl⟩
  have hlk := fun {w' : World} (hb : Below w.heap.size w w') => lc_look (h.below hb) k hk
  have hlk1 : ∀ w', Below w.heap.size w w' → (Instr.lookup 57 (.map (some C.m)) (kyV k) true).run Tryz.prog w' = .ok (.tuple #[ceV E, .bool b]) w' := fun w' hb1 => by
    have := hlk hb1
    rw [hE, hb] at this
    exact this
  have HLK := Lib.hid hlk1
  clear hlk1
  unfold FinC
  rw [hE, hb]
  obtain ⟨ek, ea⟩ := E
  obtain ⟨kb, hkb⟩ : ∃ b, w.heap.size = b := ⟨_, rfl⟩
  obtain ⟨W0, hW0⟩ : ∃ W, w.alloc (.cells (kC k) 32) = W := ⟨_, rfl⟩
  obtain ⟨W1, hW1⟩ : ∃ W, W0.alloc (.cells #[.string ⟨#[]⟩, .string ⟨#[]⟩] 90) = W := ⟨_, rfl⟩
  obtain ⟨rb, hrb⟩ : ∃ b, W0.heap.size = b := ⟨_, rfl⟩
  have hb0 : Below w.heap.size w W0 := by rw [← hW0]; exact (Below.refl _ _).alloc (Nat.le_refl _) _
  have kk0 : Bk W0 kb 32 (kC k) := by rw [← hW0, ← hkb]; exact Bk.new _ _ _
  have hb1 : Below w.heap.size w W1 := by rw [← hW1]; exact hb0.alloc hb0.size _
  have kk : Bk W1 kb 32 (kC k) := by rw [← hW1]; exact kk0.alloc _
  have kr : Bk W1 rb 90 #[.string ⟨#[]⟩, .string ⟨#[]⟩] := by rw [← hW1, ← hrb]; exact Bk.new _ _ _
  have hrw : w.heap.size ≤ rb := by rw [← hrb]; exact hb0.size
  obtain ⟨c0, c1, c2, c3, c4⟩ := (h.below hb1).cells
  have HG : Hid (C.g < w.heap.size) := Lib.hid h.glt
  have HB1 := Lib.hid hb1
  have HKK := Lib.hid kk
  have HKR := Lib.hid kr
  have HRW := Lib.hid hrw
  clear h hlk hk hE hb hb0 kk0 hb1 kk kr hrw c1 c3 c4
  obtain ⟨db, ro, fm, no⟩ := k
  have a0 : W1.cell? ⟨kb, 0, none⟩ = some (.string db) := HKK.out.cell 0
  have a1 : W1.cell? ⟨kb, 1, none⟩ = some (.string ro) := HKK.out.cell 1
  have a2 : W1.cell? ⟨kb, 2, none⟩ = some (.int .i64 fm) := HKK.out.cell 2
  have a3 : W1.cell? ⟨kb, 3, none⟩ = some (.string no) := HKK.out.cell 3
  go_enter Tryz.func45, Tryz.ntmps45
  go_wp2_with fail
  refine (CA.given_yes _ _ c0).mono ?_
  rintro e w' ⟨rfl, rfl⟩
  have HG1 : Hid (C.g < W1.heap.size) := Lib.hid (Nat.lt_of_lt_of_le HG.out HB1.out.size)
  have HKL : Hid (kb < W1.heap.size) := Lib.hid HKK.out.lt
  go_wp2_with fail
  refine wp_region_held_drew (S := (fun w' => Below W1.heap.size W1 w')) (by kernel_rfl) ?_ (fun hS => ?_)
  · exact (Below.refl _ _).drew
  refine tkY 0 ?_ rfl hS ?_ ?_
  rotate_left
  · intro wz hz
    have z0 : wz.cell? ⟨C.g, 2, none⟩ = some (.map (some C.m)) := (hz.cell (p := ⟨C.g, 2, none⟩) HG1.out).trans c2
    have z1 : wz.cell? ⟨kb, 0, none⟩ = some (.string db) := (hz.cell (p := ⟨kb, 0, none⟩) HKL.out).trans a0
    have z2 : wz.cell? ⟨kb, 1, none⟩ = some (.string ro) := (hz.cell (p := ⟨kb, 1, none⟩) HKL.out).trans a1
    have z3 : wz.cell? ⟨kb, 2, none⟩ = some (.int .i64 fm) := (hz.cell (p := ⟨kb, 2, none⟩) HKL.out).trans a2
    have z4 : wz.cell? ⟨kb, 3, none⟩ = some (.string no) := (hz.cell (p := ⟨kb, 3, none⟩) HKL.out).trans a3
    go_simp
    all_goals first | with_reducible rfl | omega
  try simp only [Act.put, pu]
  refine tkY 1 ?_ rfl hS ?_ ?_
  rotate_left
  · intro wz hz
    have z0 : wz.cell? ⟨C.g, 2, none⟩ = some (.map (some C.m)) := (hz.cell (p := ⟨C.g, 2, none⟩) HG1.out).trans c2
    have z1 : wz.cell? ⟨kb, 0, none⟩ = some (.string db) := (hz.cell (p := ⟨kb, 0, none⟩) HKL.out).trans a0
    have z2 : wz.cell? ⟨kb, 1, none⟩ = some (.string ro) := (hz.cell (p := ⟨kb, 1, none⟩) HKL.out).trans a1
    have z3 : wz.cell? ⟨kb, 2, none⟩ = some (.int .i64 fm) := (hz.cell (p := ⟨kb, 2, none⟩) HKL.out).trans a2
    have z4 : wz.cell? ⟨kb, 3, none⟩ = some (.string no) := (hz.cell (p := ⟨kb, 3, none⟩) HKL.out).trans a3
    go_simp
    all_goals first | with_reducible rfl | omega
  try simp only [Act.put, pu]
  refine tkY 2 ?_ rfl hS ?_ ?_
  rotate_left
  · intro wz hz
    have z0 : wz.cell? ⟨C.g, 2, none⟩ = some (.map (some C.m)) := (hz.cell (p := ⟨C.g, 2, none⟩) HG1.out).trans c2
    have z1 : wz.cell? ⟨kb, 0, none⟩ = some (.string db) := (hz.cell (p := ⟨kb, 0, none⟩) HKL.out).trans a0
    have z2 : wz.cell? ⟨kb, 1, none⟩ = some (.string ro) := (hz.cell (p := ⟨kb, 1, none⟩) HKL.out).trans a1
    have z3 : wz.cell? ⟨kb, 2, none⟩ = some (.int .i64 fm) := (hz.cell (p := ⟨kb, 2, none⟩) HKL.out).trans a2
    have z4 : wz.cell? ⟨kb, 3, none⟩ = some (.string no) := (hz.cell (p := ⟨kb, 3, none⟩) HKL.out).trans a3
    go_simp
    all_goals first | with_reducible rfl | omega
  try simp only [Act.put, pu]
  refine tkY 3 ?_ rfl hS ?_ ?_
  rotate_left
  · intro wz hz
    have z0 : wz.cell? ⟨C.g, 2, none⟩ = some (.map (some C.m)) := (hz.cell (p := ⟨C.g, 2, none⟩) HG1.out).trans c2
    have z1 : wz.cell? ⟨kb, 0, none⟩ = some (.string db) := (hz.cell (p := ⟨kb, 0, none⟩) HKL.out).trans a0
    have z2 : wz.cell? ⟨kb, 1, none⟩ = some (.string ro) := (hz.cell (p := ⟨kb, 1, none⟩) HKL.out).trans a1
    have z3 : wz.cell? ⟨kb, 2, none⟩ = some (.int .i64 fm) := (hz.cell (p := ⟨kb, 2, none⟩) HKL.out).trans a2
    have z4 : wz.cell? ⟨kb, 3, none⟩ = some (.string no) := (hz.cell (p := ⟨kb, 3, none⟩) HKL.out).trans a3
    go_simp
    all_goals first | with_reducible rfl | omega
  try simp only [Act.put, pu]
  refine tkY 4 ?_ rfl hS ?_ ?_
  rotate_left
  · intro wz hz
    have z0 : wz.cell? ⟨C.g, 2, none⟩ = some (.map (some C.m)) := (hz.cell (p := ⟨C.g, 2, none⟩) HG1.out).trans c2
    have z1 : wz.cell? ⟨kb, 0, none⟩ = some (.string db) := (hz.cell (p := ⟨kb, 0, none⟩) HKL.out).trans a0
    have z2 : wz.cell? ⟨kb, 1, none⟩ = some (.string ro) := (hz.cell (p := ⟨kb, 1, none⟩) HKL.out).trans a1
    have z3 : wz.cell? ⟨kb, 2, none⟩ = some (.int .i64 fm) := (hz.cell (p := ⟨kb, 2, none⟩) HKL.out).trans a2
    have z4 : wz.cell? ⟨kb, 3, none⟩ = some (.string no) := (hz.cell (p := ⟨kb, 3, none⟩) HKL.out).trans a3
    go_simp
    all_goals first | with_reducible rfl | omega
  try simp only [Act.put, pu]
  refine tkY 5 ?_ rfl hS ?_ ?_
  rotate_left
  · intro wz hz
    have zl := HLK.out wz (HB1.out.trans (hz.mono HB1.out.size))
    go_simp
    all_goals first | with_reducible rfl | omega
  try simp only [Act.put, pu]
  refine tkY 6 ?_ rfl hS ?_ ?_
  rotate_left
  · intro wz hz
    go_simp
    all_goals first | with_reducible rfl | omega
  try simp only [Act.put, pu]
  refine tkY 7 ?_ rfl hS ?_ ?_
  rotate_left
  · intro wz hz
    go_simp
    all_goals first | with_reducible rfl | omega
  try simp only [Act.put, pu]
  refine tkY 8 ?_ rfl hS ?_ ?_
  rotate_left
  · intro wz hz
    go_simp
    all_goals first | with_reducible rfl | omega
  try simp only [Act.put, pu]
  refine wpAnyH_ready (rs := [9]) (by kernel_rfl) (by simp) (AllReadyH.cons rfl (fun K' hK' => ?_) AllReadyH.nil)
  go_simp
  obtain ⟨W2, hW2⟩ : ∃ W, (W1.alloc (.cells #[.string ⟨#[]⟩, .string ⟨#[]⟩] 90)).drew = W := ⟨_, rfl⟩
  obtain ⟨eb, heb⟩ : ∃ b, W1.heap.size = b := ⟨_, rfl⟩
  have hb2 : Below W1.heap.size W1 W2 := by rw [← hW2]; exact ((Below.refl _ _).alloc (Nat.le_refl _) _).drew
  have ke : Bk W2 eb 90 #[.string ⟨#[]⟩, .string ⟨#[]⟩] := by rw [← hW2, ← heb]; exact Bk.new W1 _ _
  have HB2 := Lib.hid hb2
  have HKE := Lib.hid ke
  have HEB : Hid (W1.heap.size ≤ eb) := Lib.hid (by omega)
  have HRB : Hid (rb < eb) := Lib.hid (by rw [← heb]; exact HKR.out.lt)
  have e0 : W2.cell? ⟨eb, 0, none⟩ = some (.string ⟨#[]⟩) := ke.cell 0
  have e1 : W2.cell? ⟨eb, 1, none⟩ = some (.string ⟨#[]⟩) := ke.cell 1
  have f0 := ke.frozen 0
  have f1 := ke.frozen 1
  try rw [hW2, heb]
  clear hb2 ke hW2 heb
  refine hK'.out _ _ ?_ (fun hSn => ?_)
  · exact HB2.out
  clear hK' K' hS
  have hS := hSn
  clear hSn
  try simp only [Act.put, pu]
  refine wpAnyH_ready (rs := [10]) (by kernel_rfl) (by simp) (AllReadyH.cons rfl (fun K' hK' => ?_) AllReadyH.nil)
  go_simp
  have k3 := (HKE.out.set_ 0 (.string ek)).set_ 1 (.string ea)
  have hb3 : Below W1.heap.size W1 ((W2.setCell ⟨eb, 0, none⟩ (.string ek)).setCell ⟨eb, 1, none⟩ (.string ea)) := (HB2.out.setCell (p := ⟨eb, 0, none⟩) HEB.out _).setCell (p := ⟨eb, 1, none⟩) HEB.out _
  obtain ⟨W3, hW3⟩ : ∃ W, (W2.setCell ⟨eb, 0, none⟩ (.string ek)).setCell ⟨eb, 1, none⟩ (.string ea) = W := ⟨_, rfl⟩
  rw [hW3] at k3 hb3 ⊢
  have HB3 := Lib.hid hb3
  have HK3 : Hid (Bk W3 eb 90 #[.string ek, .string ea]) := Lib.hid k3
  clear k3 hb3 hW3 e0 e1 f0 f1
  refine hK'.out _ _ ?_ (fun hSn => ?_)
  · exact HB3.out
  clear hK' K' hS
  have hS := hSn
  clear hSn
  try simp only [Act.put, pu]
  refine tkY 11 ?_ rfl hS ?_ ?_
  rotate_left
  · intro wz hz
    go_simp
    all_goals first | with_reducible rfl | omega
  try simp only [Act.put, pu]
  refine wpAnyH_done (by kernel_rfl) ?_ _
  clear hS
  have kr := HKR.out.below HB3.out
  have HKR := Lib.hid kr
  have x0 : W3.cell? ⟨eb, 0, none⟩ = some (.string ek) := HK3.out.cell 0
  have x1 : W3.cell? ⟨eb, 1, none⟩ = some (.string ea) := HK3.out.cell 1
  have r0 : W3.cell? ⟨rb, 0, none⟩ = some (.string ⟨#[]⟩) := kr.cell 0
  have r1 : W3.cell? ⟨rb, 1, none⟩ = some (.string ⟨#[]⟩) := kr.cell 1
  have f0 := kr.frozen 0
  have f1 := kr.frozen 1
  clear kr c0 c2 a0 a1 a2 a3
  go_wp2
  have k0 := (HKR.out.set_ 0 (.string ek)).set_ 1 (.string ea)
  have hb4 := ((HB1.out.trans (HB3.out.mono HB1.out.size)).setCell (p := ⟨rb, 0, none⟩) HRW.out (.string ek)).setCell (p := ⟨rb, 1, none⟩) HRW.out (.string ea)
  obtain ⟨W4, hW4⟩ : ∃ W, (W3.setCell ⟨rb, 0, none⟩ (.string ek)).setCell ⟨rb, 1, none⟩ (.string ea) = W := ⟨_, rfl⟩
  rw [hW4] at k0 hb4 ⊢
  have e0 : W4.cell? ⟨rb, 0, none⟩ = some (.string ek) := k0.cell 0
  have e1 : W4.cell? ⟨rb, 1, none⟩ = some (.string ea) := k0.cell 1
  exact bodyPost_ret (v := .tuple #[ceV (ek, ea), .bool b]) (by simp [results, Tryz.results45, go_sem, e0, e1]) rfl ⟨rfl, hb4⟩
set_option maxHeartbeats 2000000 in
theorem find_nil (k : Ky) (w : World) : Calls Tryz.prog 45 #[.pointer none, kyV k] w (FinC none w) := by
  unfold FinC
  obtain ⟨rb, hrb⟩ : ∃ b, (w.alloc (.cells (kC k) 32)).heap.size = b := ⟨_, rfl⟩
  obtain ⟨W1, hW1⟩ : ∃ W, (w.alloc (.cells (kC k) 32)).alloc (.cells #[.string ⟨#[]⟩, .string ⟨#[]⟩] 90) = W := ⟨_, rfl⟩
  have hb1 : Below w.heap.size w W1 := by rw [← hW1]; exact ((Below.refl _ _).alloc (Nat.le_refl _) _).alloc (by simp) _
  have kr : Bk W1 rb 90 #[.string ⟨#[]⟩, .string ⟨#[]⟩] := by rw [← hW1, ← hrb]; exact Bk.new _ _ _
  have hrw : w.heap.size ≤ rb := by rw [← hrb]; simp
  obtain ⟨db, ro, fm, no⟩ := k
  have HB1 := Lib.hid hb1
  have HKR := Lib.hid kr
  have HRW := Lib.hid hrw
  have r0 : W1.cell? ⟨rb, 0, none⟩ = some (.string ⟨#[]⟩) := kr.cell 0
  have r1 : W1.cell? ⟨rb, 1, none⟩ = some (.string ⟨#[]⟩) := kr.cell 1
  have f0 := kr.frozen 0
  have f1 := kr.frozen 1
  clear hb1 kr hrw
  go_enter Tryz.func45, Tryz.ntmps45
  go_wp2_with fail
  refine (CA.given_nil _).mono ?_
  rintro e w' ⟨rfl, rfl⟩
  go_wp2
  have k0 := (HKR.out.set_ 0 (.string ⟨#[]⟩)).set_ 1 (.string ⟨#[]⟩)
  have hb4 := (HB1.out.setCell (p := ⟨rb, 0, none⟩) HRW.out (.string ⟨#[]⟩)).setCell (p := ⟨rb, 1, none⟩) HRW.out (.string ⟨#[]⟩)
  obtain ⟨W4, hW4⟩ : ∃ W, (W1.setCell ⟨rb, 0, none⟩ (.string ⟨#[]⟩)).setCell ⟨rb, 1, none⟩ (.string ⟨#[]⟩) = W := ⟨_, rfl⟩
  rw [hW4] at k0 hb4 ⊢
  have e0 : W4.cell? ⟨rb, 0, none⟩ = some (.string ⟨#[]⟩) := k0.cell 0
  have e1 : W4.cell? ⟨rb, 1, none⟩ = some (.string ⟨#[]⟩) := k0.cell 1
  exact bodyPost_ret (v := .tuple #[ceV zCe, .bool false]) (by simp [results, Tryz.results45, go_sem, e0, e1, zCe]; rfl) rfl ⟨rfl, hb4⟩
set_option maxHeartbeats 2000000 in
theorem find_zero (k : Ky) (w : World) (g : Nat) (h : w.cell? ⟨g, 0, none⟩ = some (.pointer none)) : Calls Tryz.prog 45 #[ptr g, kyV k] w (FinC none w) := by
  unfold FinC
  obtain ⟨rb, hrb⟩ : ∃ b, (w.alloc (.cells (kC k) 32)).heap.size = b := ⟨_, rfl⟩
  obtain ⟨W1, hW1⟩ : ∃ W, (w.alloc (.cells (kC k) 32)).alloc (.cells #[.string ⟨#[]⟩, .string ⟨#[]⟩] 90) = W := ⟨_, rfl⟩
  have hb1 : Below w.heap.size w W1 := by rw [← hW1]; exact ((Below.refl _ _).alloc (Nat.le_refl _) _).alloc (by simp) _
  have kr : Bk W1 rb 90 #[.string ⟨#[]⟩, .string ⟨#[]⟩] := by rw [← hW1, ← hrb]; exact Bk.new _ _ _
  have hrw : w.heap.size ≤ rb := by rw [← hrb]; simp
  have hg : W1.cell? ⟨g, 0, none⟩ = some (.pointer none) := (hb1.cell (p := ⟨g, 0, none⟩) (World.block_lt_of_cell? w _ h)).trans h
  obtain ⟨db, ro, fm, no⟩ := k
  have HB1 := Lib.hid hb1
  have HKR := Lib.hid kr
  have HRW := Lib.hid hrw
  have r0 : W1.cell? ⟨rb, 0, none⟩ = some (.string ⟨#[]⟩) := kr.cell 0
  have r1 : W1.cell? ⟨rb, 1, none⟩ = some (.string ⟨#[]⟩) := kr.cell 1
  have f0 := kr.frozen 0
  have f1 := kr.frozen 1
  clear hb1 kr hrw h
  go_enter Tryz.func45, Tryz.ntmps45
  go_wp2_with fail
  refine (CA.given_zero _ g hg).mono ?_
  rintro e w' ⟨rfl, rfl⟩
  clear hg
  go_wp2
  have k0 := (HKR.out.set_ 0 (.string ⟨#[]⟩)).set_ 1 (.string ⟨#[]⟩)
  have hb4 := (HB1.out.setCell (p := ⟨rb, 0, none⟩) HRW.out (.string ⟨#[]⟩)).setCell (p := ⟨rb, 1, none⟩) HRW.out (.string ⟨#[]⟩)
  obtain ⟨W4, hW4⟩ : ∃ W, (W1.setCell ⟨rb, 0, none⟩ (.string ⟨#[]⟩)).setCell ⟨rb, 1, none⟩ (.string ⟨#[]⟩) = W := ⟨_, rfl⟩
  rw [hW4] at k0 hb4 ⊢
  have e0 : W4.cell? ⟨rb, 0, none⟩ = some (.string ⟨#[]⟩) := k0.cell 0
  have e1 : W4.cell? ⟨rb, 1, none⟩ = some (.string ⟨#[]⟩) := k0.cell 1
  exact bodyPost_ret (v := .tuple #[ceV zCe, .bool false]) (by simp [results, Tryz.results45, go_sem, e0, e1, zCe]; rfl) rfl ⟨rfl, hb4⟩
end Go.Proofs.YtjngangojgjceaaGreat.CA
