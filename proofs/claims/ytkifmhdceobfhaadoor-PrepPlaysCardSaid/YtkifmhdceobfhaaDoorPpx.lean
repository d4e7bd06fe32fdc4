/- The document's book: rows of its structs, a book in memory, what a step turns. Conditions: how many. -/
import Derived.Test.YtkifmhdceobfhaaDoorPpw
namespace Go.Proofs.YtkifmhdceobfhaaDoor.PP
open Go.ChangeShapes Go.WideShapes Go.ChangeAt Go.RowKit Go.Maps Go.ChangeMaps
open Go.Proofs.YtkifmhdceobfhaaDoor.SL Go.Proofs.YtkifmhdceobfhaaDoor.RW
set_option maxRecDepth 100000
set_option linter.unusedVariables false
set_option linter.unusedSimpArgs false

def mR (e : En) : List Value := [nV e.1, .string e.2.1, .string e.2.2]
def cR (e : Cn) : List Value := [nV e.1, .string (nm e.2)]
theorem OMUni (l : List En) : Uni 3 (l.map mR) := fun q hq => by
  obtain ⟨k, _, rfl⟩ := List.mem_map.1 hq; rfl
/-- the call owns the entries -/
def OM (B : Nat) (w : World) (v : Value) (l : List En) : Prop := w.ownsRow B 62 3 v l.length (fz (l.map mR))
section
variable {B : Nat} {w w' : World} {v : Value} {l : List En}
theorem OM.nil (B : Nat) (w : World) : OM B w (.slice none 0 0) [] := World.ownsRow_nil _ _ _ _
theorem OM.lt (h : OM B w v l) (g : Nat) (hg : v.ownBlock = some g) : B ≤ g ∧ g < w.heap.size := World.ownsRow.lt h g hg
theorem OM.keep (h : OM B w v l) (hk : ∀ g, v.ownBlock = some g → w'.heap[g]? = w.heap[g]?) : OM B w' v l := by
  refine ⟨h.1, ?_⟩
  rcases h.2 with h2 | ⟨q, cap, cur, rfl, hb, hh, hr⟩
  · exact .inl h2
  · exact .inr ⟨q, cap, cur, rfl, hb, (hk q rfl).trans hh, hr⟩
theorem OM.below (h : OM B w v l) (hb : Below w.heap.size w w') : OM B w' v l := h.keep fun g hg => hb.block g (h.lt g hg).2
theorem OM.mono (h : OM B w v l) {B' : Nat} (hB : B' ≤ B) : OM B' w v l := by
  refine ⟨h.1, ?_⟩
  rcases h.2 with h2 | ⟨q, cap, cur, rfl, hb, hr⟩
  · exact .inl h2
  · exact .inr ⟨q, cap, cur, rfl, Nat.le_trans hB hb, hr⟩
theorem OM.ty (h : OM B w v l) {b : Nat} (hb : v.ownBlock = some b) : ∃ cur, w.heap[b]? = some (.cells cur 62 (0, 0)) := by
  rcases h.2 with ⟨rfl, _⟩ | ⟨q, cap, cur, rfl, _, hh, _⟩
  · cases hb
  · injection hb with hb
    subst hb
    exact ⟨cur, hh⟩
theorem OM.form (h : OM B w v l) : ∃ a cap, v = .slice a l.length cap := by
  rcases h.2 with ⟨rfl, hz⟩ | ⟨q, cap, cur, rfl, _⟩
  · rw [hz]; exact ⟨_, _, rfl⟩
  · exact ⟨_, _, rfl⟩
theorem OM.at_ (h : OM B w v l) {i : Nat} {e : En} (hi : l[i]? = some e) : ∃ g cap, v = .slice (some ⟨g, 0, none⟩) l.length cap ∧ g < w.heap.size ∧ ∀ j u, (mR e)[j]? = some u → w.cell? ⟨g, i * 3 + j, none⟩ = some u := by
  have hl := (List.getElem?_eq_some_iff.1 hi).1
  rcases h.2 with ⟨rfl, hz⟩ | ⟨g, cap, cur, rfl, hb, hh, hc, hm, hs, ht⟩
  · omega
  · refine ⟨g, cap, rfl, (Array.getElem?_eq_some_iff.1 hh).1, fun j u hu => ?_⟩
    have hj : j < 3 := (List.getElem?_eq_some_iff.1 hu).1
    have := World.ownsRow.cells h (g := g) rfl (i * 3 + j) u (by rw [fz_at (OMUni l) (by rw [List.getElem?_map, hi]; rfl) j hj]; exact hu)
    rw [Addr.add_lit, Nat.zero_add] at this
    exact this
end
theorem iOM : ∃ i z, Tryd.prog.info? 62 = some i ∧ i.zero = some z ∧ i.size = 3 ∧ i.bytes = 40 ∧ z.cells.size = 3 := by
  have h : (Tryd.prog.info? 62).bind (fun i => if i.size = 3 ∧ i.bytes = 40 then i.zero else none) = some (.agg #[nV 0, .string ByteArray.empty, .string ByteArray.empty]) := by kernel_rfl
  cases hi : Tryd.prog.info? 62 with
  | none => rw [hi] at h; cases h
  | some j =>
    rw [hi] at h
    by_cases hc : j.size = 3 ∧ j.bytes = 40
    · simp only [Option.bind_some, if_pos hc] at h
      exact ⟨j, _, rfl, h, hc.1, hc.2, rfl⟩
    · simp [hc] at h
/-- an entry put behind entries that the call owns -/
theorem wpList_app_OM {w : World} {ops : Array Oper} {rest : List Oper} {o : Oper} {a : Act} {Q : Exit → Act → World → Prop}
    (B : Nat) (v : Value) (d : List En) (k : En) (nb : Nat) (hgd : o.guard = none) (s x : Operand)
    (ho : o.op = .call { callee := .builtin .append, args := #[s, x], argTypes := #[26, 26] }) (hs : a.eval s = v) (hown : OM B w v d) (hx : a.eval x = .slice (some ⟨nb, 0, none⟩) 1 1) (h2 : Bk w nb 62 #[nV k.1, .string k.2.1, .string k.2.2])
    (hd : d.length ≤ 1099511627776) (hB : B ≤ w.heap.size)
    (hk : ∀ va c w', OM B w' (.slice va (d ++ [k]).length c) (d ++ [k]) → w.grownBy w' v.ownBlock → wpList Tryd.prog ops Q rest (a.put o.dst (.slice va (d ++ [k]).length c)) w') : wpList Tryd.prog ops Q (o :: rest) a w := by
  obtain ⟨i, z, hi, hz, hsz, hby, hzs⟩ := iOM
  refine wpList_append_lies _ hgd s x 26 ho B 62 i z 3 40 Tryd.underlying26 hi hz hsz hby hzs (by decide) v d.length (fz (d.map mR)) hs hown ⟨nb, 0, none⟩ 1 1 (mR k) hx rfl ?_ ?_ (by omega) (by unfold maxLen; omega) (by omega) hB _ rfl ?_
  · intro j u hj
    have := h2.cell j
    rw [Addr.add_lit, Nat.zero_add, this]
    match j, hj with
    | 0, hj => exact hj
    | 1, hj => exact hj
    | 2, hj => exact hj
    | j + 3, hj => simp [mR] at hj
  · intro u hu
    simp only [mR, List.mem_cons, List.not_mem_nil, or_false] at hu
    rcases hu with rfl | rfl | rfl <;> rfl
  · intro g' cap' w' o1 o2 o3 o4
    have e1 : d.length + 1 = (d ++ [k]).length := by rw [List.length_append]; rfl
    rw [e1] at o1 ⊢
    refine hk _ _ _ ?_ o2
    unfold OM
    rw [List.map_append, fz_append]
    have : fz ([k].map mR) = mR k := by rw [List.map_cons, List.map_nil]; show [mR k].flatten = _; simp
    rw [this]; exact o1
theorem OCUni (l : List Cn) : Uni 2 (l.map cR) := fun q hq => by
  obtain ⟨k, _, rfl⟩ := List.mem_map.1 hq; rfl
/-- the call owns the entries -/
def OC (B : Nat) (w : World) (v : Value) (l : List Cn) : Prop := w.ownsRow B 69 2 v l.length (fz (l.map cR))
section
variable {B : Nat} {w w' : World} {v : Value} {l : List Cn}
theorem OC.nil (B : Nat) (w : World) : OC B w (.slice none 0 0) [] := World.ownsRow_nil _ _ _ _
theorem OC.lt (h : OC B w v l) (g : Nat) (hg : v.ownBlock = some g) : B ≤ g ∧ g < w.heap.size := World.ownsRow.lt h g hg
theorem OC.keep (h : OC B w v l) (hk : ∀ g, v.ownBlock = some g → w'.heap[g]? = w.heap[g]?) : OC B w' v l := by
  refine ⟨h.1, ?_⟩
  rcases h.2 with h2 | ⟨q, cap, cur, rfl, hb, hh, hr⟩
  · exact .inl h2
  · exact .inr ⟨q, cap, cur, rfl, hb, (hk q rfl).trans hh, hr⟩
theorem OC.below (h : OC B w v l) (hb : Below w.heap.size w w') : OC B w' v l := h.keep fun g hg => hb.block g (h.lt g hg).2
theorem OC.mono (h : OC B w v l) {B' : Nat} (hB : B' ≤ B) : OC B' w v l := by
  refine ⟨h.1, ?_⟩
  rcases h.2 with h2 | ⟨q, cap, cur, rfl, hb, hr⟩
  · exact .inl h2
  · exact .inr ⟨q, cap, cur, rfl, Nat.le_trans hB hb, hr⟩
theorem OC.ty (h : OC B w v l) {b : Nat} (hb : v.ownBlock = some b) : ∃ cur, w.heap[b]? = some (.cells cur 69 (0, 0)) := by
  rcases h.2 with ⟨rfl, _⟩ | ⟨q, cap, cur, rfl, _, hh, _⟩
  · cases hb
  · injection hb with hb
    subst hb
    exact ⟨cur, hh⟩
theorem OC.form (h : OC B w v l) : ∃ a cap, v = .slice a l.length cap := by
  rcases h.2 with ⟨rfl, hz⟩ | ⟨q, cap, cur, rfl, _⟩
  · rw [hz]; exact ⟨_, _, rfl⟩
  · exact ⟨_, _, rfl⟩
theorem OC.at_ (h : OC B w v l) {i : Nat} {e : Cn} (hi : l[i]? = some e) : ∃ g cap, v = .slice (some ⟨g, 0, none⟩) l.length cap ∧ g < w.heap.size ∧ ∀ j u, (cR e)[j]? = some u → w.cell? ⟨g, i * 2 + j, none⟩ = some u := by
  have hl := (List.getElem?_eq_some_iff.1 hi).1
  rcases h.2 with ⟨rfl, hz⟩ | ⟨g, cap, cur, rfl, hb, hh, hc, hm, hs, ht⟩
  · omega
  · refine ⟨g, cap, rfl, (Array.getElem?_eq_some_iff.1 hh).1, fun j u hu => ?_⟩
    have hj : j < 2 := (List.getElem?_eq_some_iff.1 hu).1
    have := World.ownsRow.cells h (g := g) rfl (i * 2 + j) u (by rw [fz_at (OCUni l) (by rw [List.getElem?_map, hi]; rfl) j hj]; exact hu)
    rw [Addr.add_lit, Nat.zero_add] at this
    exact this
end
theorem iOC : ∃ i z, Tryd.prog.info? 69 = some i ∧ i.zero = some z ∧ i.size = 2 ∧ i.bytes = 24 ∧ z.cells.size = 2 := by
  have h : (Tryd.prog.info? 69).bind (fun i => if i.size = 2 ∧ i.bytes = 24 then i.zero else none) = some (.agg #[nV 0, .string ByteArray.empty]) := by kernel_rfl
  cases hi : Tryd.prog.info? 69 with
  | none => rw [hi] at h; cases h
  | some j =>
    rw [hi] at h
    by_cases hc : j.size = 2 ∧ j.bytes = 24
    · simp only [Option.bind_some, if_pos hc] at h
      exact ⟨j, _, rfl, h, hc.1, hc.2, rfl⟩
    · simp [hc] at h
/-- an entry put behind entries that the call owns -/
theorem wpList_app_OC {w : World} {ops : Array Oper} {rest : List Oper} {o : Oper} {a : Act} {Q : Exit → Act → World → Prop}
    (B : Nat) (v : Value) (d : List Cn) (k : Cn) (nb : Nat) (hgd : o.guard = none) (s x : Operand)
    (ho : o.op = .call { callee := .builtin .append, args := #[s, x], argTypes := #[28, 28] }) (hs : a.eval s = v) (hown : OC B w v d) (hx : a.eval x = .slice (some ⟨nb, 0, none⟩) 1 1) (h2 : Bk w nb 69 #[nV k.1, .string (nm k.2)])
    (hd : d.length ≤ 1099511627776) (hB : B ≤ w.heap.size)
    (hk : ∀ va c w', OC B w' (.slice va (d ++ [k]).length c) (d ++ [k]) → w.grownBy w' v.ownBlock → wpList Tryd.prog ops Q rest (a.put o.dst (.slice va (d ++ [k]).length c)) w') : wpList Tryd.prog ops Q (o :: rest) a w := by
  obtain ⟨i, z, hi, hz, hsz, hby, hzs⟩ := iOC
  refine wpList_append_lies _ hgd s x 28 ho B 69 i z 2 24 Tryd.underlying28 hi hz hsz hby hzs (by decide) v d.length (fz (d.map cR)) hs hown ⟨nb, 0, none⟩ 1 1 (cR k) hx rfl ?_ ?_ (by omega) (by unfold maxLen; omega) (by omega) hB _ rfl ?_
  · intro j u hj
    have := h2.cell j
    rw [Addr.add_lit, Nat.zero_add, this]
    match j, hj with
    | 0, hj => exact hj
    | 1, hj => exact hj
    | j + 2, hj => simp [cR] at hj
  · intro u hu
    simp only [cR, List.mem_cons, List.not_mem_nil, or_false] at hu
    rcases hu with rfl | rfl <;> rfl
  · intro g' cap' w' o1 o2 o3 o4
    have e1 : d.length + 1 = (d ++ [k]).length := by rw [List.length_append]; rfl
    rw [e1] at o1 ⊢
    refine hk _ _ _ ?_ o2
    unfold OC
    rw [List.map_append, fz_append]
    have : fz ([k].map cR) = cR k := by rw [List.map_cons, List.map_nil]; show [cR k].flatten = _; simp
    rw [this]; exact o1
theorem OT.ty {B : Nat} {w : World} {v : Value} {d : List ByteArray} (h : OT B w v d) {b : Nat} (hb : v.ownBlock = some b) : ∃ cur, w.heap[b]? = some (.cells cur 9 (0, 0)) := by
  rcases h.2 with ⟨rfl, _⟩ | ⟨q, cap, cur, rfl, _, hh, _⟩
  · cases hb
  · injection hb with hb
    subst hb
    exact ⟨cur, hh⟩
/-- what the document's book is made of -/
def Rt (t : TypeId) : Prop := t = 30 ∨ t = 62 ∨ t = 9 ∨ t = 69
/-- all else is as it was -/
def Kr (w w' : World) : Prop := ∀ (b : Nat) (x : Obj), w.heap[b]? = some x → (∀ cs t fr, x = .cells cs t fr → ¬ Rt t) → w'.heap[b]? = w.heap[b]?
section
variable {w w' w'' : World}
theorem Kr.refl (w : World) : Kr w w := fun _ _ _ _ => rfl
theorem Kr.below (h : Below w.heap.size w w') : Kr w w' := fun b x hb _ => h.block b (Array.getElem?_eq_some_iff.1 hb).1
theorem Kr.trans (h : Kr w w') (k : Kr w' w'') : Kr w w'' := fun b x hb hx => (k b x ((h b x hb hx).trans hb) hx).trans (h b x hb hx)
theorem Kr.set {r : Nat} {cs : Array Value} (h : Bk w r 30 cs) (i : Nat) (u : Value) : Kr w (w.setCell ⟨r, i, none⟩ u) := fun b x hb hx => Below.heap_setCell w ⟨r, i, none⟩ u b fun e => by
  have e : b = r := e
  subst e
  unfold Bk at h
  rw [h] at hb
  injection hb with hb
  exact hx _ _ _ hb.symm (.inl rfl)
theorem Kr.grown {v : Value} {T : TypeId} (hg : w.grownBy w' v.ownBlock) (ht : ∀ b, v.ownBlock = some b → ∃ cur, w.heap[b]? = some (.cells cur T (0, 0))) (hT : Rt T) : Kr w w' := fun b x hb hx => hg.block b (Array.getElem?_eq_some_iff.1 hb).1 fun e => by
  obtain ⟨cur, hc⟩ := ht b e.symm
  rw [hc] at hb
  injection hb with hb
  exact hx _ _ _ hb.symm hT
theorem Kr.bk (h : Kr w w') {g : Nat} {t : TypeId} {cs : Array Value} (hb : Bk w g t cs) (ht : ¬ Rt t := by unfold Rt; decide) : Bk w' g t cs := (h g _ hb fun _ _ _ e => by injection e with _ e; exact e ▸ ht).trans hb
theorem LB.kr {B a N : Nat} {S : St} (h : LB B w a N S) (hk : Kr w w') : LB B w' a N S := by
  obtain ⟨C, h⟩ := h
  refine ⟨C, h.keep (hk _ _ h.bk fun _ _ _ e => by injection e with _ e; subst e; unfold Rt; decide) fun b hb => ?_⟩
  obtain ⟨es, cl, he⟩ := h.obj hb
  exact hk b _ he fun _ _ _ e => by cases e
end
/-- the document's book -/
structure RV (B : Nat) (w : World) (r N : Nat) (S : St) (v1 v2 v3 : Value) : Prop where
  bk : Bk w r 30 #[v1, v2, v3]
  h1 : OM B w v1 S.L
  h2 : OT B w v2 S.T
  h3 : OC B w v3 S.D
  ge : B ≤ r
  inv : Inv S
  few : S.L.length ≤ N ∧ S.D.length ≤ N ∧ S.T.length ≤ N
def RBk (B : Nat) (w : World) (r N : Nat) (S : St) : Prop := ∃ v1 v2 v3, RV B w r N S v1 v2 v3
section
variable {B : Nat} {w w' : World} {r N : Nat} {S : St} {v1 v2 v3 : Value}
theorem RV.keep (h : RV B w r N S v1 v2 v3) (e : ∀ (b : Nat) (cs : Array Value) (t : TypeId) (fr : Nat × Nat), w.heap[b]? = some (.cells cs t fr) → w'.heap[b]? = w.heap[b]?) : RV B w' r N S v1 v2 v3 :=
  ⟨h.bk.heap (e _ _ _ _ h.bk), h.h1.keep fun g hg => (by obtain ⟨cur, hc⟩ := h.h1.ty hg; exact e _ _ _ _ hc), h.h2.keep fun g hg => (by obtain ⟨cur, hc⟩ := PP.OT.ty h.h2 hg; exact e _ _ _ _ hc), h.h3.keep fun g hg => (by obtain ⟨cur, hc⟩ := h.h3.ty hg; exact e _ _ _ _ hc), h.ge, h.inv, h.few⟩
theorem RV.below (h : RV B w r N S v1 v2 v3) (hb : Below w.heap.size w w') : RV B w' r N S v1 v2 v3 := h.keep fun b _ _ _ hk => hb.block b (Array.getElem?_eq_some_iff.1 hk).1
theorem RV.kc (h : RV B w r N S v1 v2 v3) (hk : Kc w w') : RV B w' r N S v1 v2 v3 := h.keep fun b cs t fr hb => hk b cs t fr hb
theorem RBk.below (h : RBk B w r N S) (hb : Below w.heap.size w w') : RBk B w' r N S := by obtain ⟨_, _, _, h⟩ := h; exact ⟨_, _, _, h.below hb⟩
theorem RBk.kc (h : RBk B w r N S) (hk : Kc w w') : RBk B w' r N S := by obtain ⟨_, _, _, h⟩ := h; exact ⟨_, _, _, h.kc hk⟩
theorem RBk.mono (h : RBk B w r N S) {n : Nat} (hn : N ≤ n) : RBk B w r n S := by obtain ⟨_, _, _, h⟩ := h; exact ⟨_, _, _, h.bk, h.h1, h.h2, h.h3, h.ge, h.inv, Nat.le_trans h.few.1 hn, Nat.le_trans h.few.2.1 hn, Nat.le_trans h.few.2.2 hn⟩
theorem RV.le (h : RV B w r N S v1 v2 v3) : B ≤ w.heap.size := Nat.le_of_lt (Nat.lt_of_le_of_lt h.ge h.bk.lt)
theorem RV.cells (h : RV B w r N S v1 v2 v3) : w.cell? ⟨r, 0, none⟩ = some v1 ∧ w.cell? ⟨r, 1, none⟩ = some v2 ∧ w.cell? ⟨r, 2, none⟩ = some v3 := ⟨h.bk.cell 0, h.bk.cell 1, h.bk.cell 2⟩
/-- what a step on the document's book leaves of all else -/
def Fk (B : Nat) (w w' : World) : Prop := Below B w w' ∧ Kr w w'
theorem Fk.refl (B : Nat) (w : World) : Fk B w w := ⟨Below.refl _ _, Kr.refl _⟩
theorem Fk.trans {w2 : World} (h : Fk B w w') (k : Fk B w' w2) : Fk B w w2 := ⟨h.1.trans k.1, h.2.trans k.2⟩
theorem Fk.below (h : Below w.heap.size w w') (hB : B ≤ w.heap.size) : Fk B w w' := ⟨h.mono hB, Kr.below h⟩
def RetR (B r N : Nat) (S : St) (v : Value) (w : World) (e : Ending) (w' : World) : Prop := e = .returned v ∧ RBk B w' r N S ∧ Fk B w w'
theorem Bk.row {T T' : TypeId} {cs : Array Value} {r : Nat} {v : Value} (h : Bk w r T cs) (hg : w.grownBy w' v.ownBlock) (ht : ∀ b, v.ownBlock = some b → ∃ cur, w.heap[b]? = some (.cells cur T' (0, 0))) (hne : T ≠ T') : Bk w' r T cs := h.heap (hg.block r h.lt fun e => by
  obtain ⟨cur, hc⟩ := ht r e.symm
  unfold Bk at h
  rw [h] at hc
  injection hc with hc
  injection hc with _ hc
  exact hne hc)
theorem own_ne {T T' : TypeId} {v u : Value} (hv : ∀ b, v.ownBlock = some b → ∃ cur, w.heap[b]? = some (.cells cur T (0, 0))) (hu : ∀ b, u.ownBlock = some b → ∃ cur, w.heap[b]? = some (.cells cur T' (0, 0))) (hne : T ≠ T') {b : Nat} (hb : v.ownBlock = some b) : u.ownBlock ≠ some b := fun e => by
  obtain ⟨c1, h1⟩ := hv b hb
  obtain ⟨c2, h2⟩ := hu b e
  rw [h1] at h2
  injection h2 with h2
  injection h2 with _ h2
  exact hne h2
/-- a new list of statements laid into the book -/
theorem RV.setL (h : RV B w r N S v1 v2 v3) {n : Nat} (hn : N ≤ n) {v : Value} {L : List En} (ho : OM B w v L) (hu : UniqE L) (hl : L.length ≤ n) : RV B (w.setCell ⟨r, 0, none⟩ v) r n { S with L := L } v v2 v3 ∧ Fk B w (w.setCell ⟨r, 0, none⟩ v) := by
  have far : ∀ k, k ≠ r → (w.setCell ⟨r, 0, none⟩ v).heap[k]? = w.heap[k]? := fun k hk => Below.heap_setCell w ⟨r, 0, none⟩ v k hk
  have nr : ∀ {T : TypeId} {u : Value}, (∀ b, u.ownBlock = some b → ∃ cur, w.heap[b]? = some (.cells cur T (0, 0))) → T ≠ 30 → ∀ g, u.ownBlock = some g → g ≠ r := fun hu hT g hg e => by
    obtain ⟨cur, hc⟩ := hu g hg
    subst e
    have := h.bk
    unfold Bk at this
    rw [this] at hc
    injection hc with hc
    injection hc with _ hc
    exact hT hc.symm
  exact ⟨⟨h.bk.set_ 0 v, ho.keep fun g hg => far g (nr (fun b hb => ho.ty hb) (by decide) g hg), h.h2.keep fun g hg => far g (nr (fun b hb => PP.OT.ty h.h2 hb) (by decide) g hg), h.h3.keep fun g hg => far g (nr (fun b hb => h.h3.ty hb) (by decide) g hg), h.ge, ⟨hu, h.inv.ut, h.inv.ud, h.inv.nr⟩, hl, Nat.le_trans h.few.2.1 hn, Nat.le_trans h.few.2.2 hn⟩, ((Below.refl B w).setCell (p := ⟨r, 0, none⟩) h.ge v), Kr.set h.bk 0 v⟩
theorem RV.setD (h : RV B w r N S v1 v2 v3) {n : Nat} (hn : N ≤ n) {v : Value} {D : List Cn} (ho : OC B w v D) (hu : D.Nodup) (hr : ∀ e ∈ D, 1 ≤ e.2 ∧ e.2 ≤ S.T.length) (hl : D.length ≤ n) : RV B (w.setCell ⟨r, 2, none⟩ v) r n { S with D := D } v1 v2 v ∧ Fk B w (w.setCell ⟨r, 2, none⟩ v) := by
  have far : ∀ k, k ≠ r → (w.setCell ⟨r, 2, none⟩ v).heap[k]? = w.heap[k]? := fun k hk => Below.heap_setCell w ⟨r, 2, none⟩ v k hk
  have nr : ∀ {T : TypeId} {u : Value}, (∀ b, u.ownBlock = some b → ∃ cur, w.heap[b]? = some (.cells cur T (0, 0))) → T ≠ 30 → ∀ g, u.ownBlock = some g → g ≠ r := fun hu hT g hg e => by
    obtain ⟨cur, hc⟩ := hu g hg
    subst e
    have := h.bk
    unfold Bk at this
    rw [this] at hc
    injection hc with hc
    injection hc with _ hc
    exact hT hc.symm
  exact ⟨⟨h.bk.set_ 2 v, h.h1.keep fun g hg => far g (nr (fun b hb => h.h1.ty hb) (by decide) g hg), h.h2.keep fun g hg => far g (nr (fun b hb => PP.OT.ty h.h2 hb) (by decide) g hg), ho.keep fun g hg => far g (nr (fun b hb => ho.ty hb) (by decide) g hg), h.ge, ⟨h.inv.ul, h.inv.ut, hu, hr⟩, Nat.le_trans h.few.1 hn, hl, Nat.le_trans h.few.2.2 hn⟩, ((Below.refl B w).setCell (p := ⟨r, 2, none⟩) h.ge v), Kr.set h.bk 2 v⟩
theorem RV.setT (h : RV B w r N S v1 v2 v3) {n : Nat} (hn : N ≤ n) {v : Value} {T : List Tx} (ho : OT B w v T) (hu : T.Nodup) (hr : ∀ e ∈ S.D, 1 ≤ e.2 ∧ e.2 ≤ T.length) (hl : T.length ≤ n) : RV B (w.setCell ⟨r, 1, none⟩ v) r n { S with T := T } v1 v v3 ∧ Fk B w (w.setCell ⟨r, 1, none⟩ v) := by
  have far : ∀ k, k ≠ r → (w.setCell ⟨r, 1, none⟩ v).heap[k]? = w.heap[k]? := fun k hk => Below.heap_setCell w ⟨r, 1, none⟩ v k hk
  have nr : ∀ {T : TypeId} {u : Value}, (∀ b, u.ownBlock = some b → ∃ cur, w.heap[b]? = some (.cells cur T (0, 0))) → T ≠ 30 → ∀ g, u.ownBlock = some g → g ≠ r := fun hu hT g hg e => by
    obtain ⟨cur, hc⟩ := hu g hg
    subst e
    have := h.bk
    unfold Bk at this
    rw [this] at hc
    injection hc with hc
    injection hc with _ hc
    exact hT hc.symm
  exact ⟨⟨h.bk.set_ 1 v, h.h1.keep fun g hg => far g (nr (fun b hb => h.h1.ty hb) (by decide) g hg), ho.keep fun g hg => far g (nr (fun b hb => PP.OT.ty ho hb) (by decide) g hg), h.h3.keep fun g hg => far g (nr (fun b hb => h.h3.ty hb) (by decide) g hg), h.ge, ⟨h.inv.ul, hu, h.inv.ud, hr⟩, Nat.le_trans h.few.1 hn, Nat.le_trans h.few.2.1 hn, hl⟩, ((Below.refl B w).setCell (p := ⟨r, 1, none⟩) h.ge v), Kr.set h.bk 1 v⟩
end
end Go.Proofs.YtkifmhdceobfhaaDoor.PP
