/- Package prep: a book in memory; what a step turns. No program is walked here; no condition. -/
import Derived.Test.YtkifmhdceobfhaaDoorPpc
import Derived.Test.YtkifmhdceobfhaaDoorPpt
namespace Go.Proofs.YtkifmhdceobfhaaDoor.PP
open Go.ChangeShapes Go.WideShapes Go.ChangeAt Go.RowKit Go.Maps Go.ChangeMaps
open Go.Proofs.YtkifmhdceobfhaaDoor.SL
open Classical
set_option maxRecDepth 100000
set_option linter.unusedVariables false
set_option linter.unusedSimpArgs false

abbrev stV (s : Tx) : Value := .agg #[.string s]
def gC (L : List En) (c : Int) : Lit → Option Value := MV.fS fun n => (fnd L c n).map stV
def gD (D : List Cn) (c : Int) : Lit → Option Value := MV.fI fun k => (ixN (nms D c) k).map fun i : Nat => nV (i : Int)
def gT (T : List Tx) : Lit → Option Value := MV.fS fun t => (ixT T t).map fun i : Nat => nV ((i + 1 : Nat) : Int)
abbrev cC (L : List En) : Int → Nat := fun c => (ofE c L).length
abbrev cD (D : List Cn) : Int → Nat := fun c => (nms D c).length
theorem gC_at (L : List En) (c : Int) (n : Tx) : gC L c (.string n.data.toList) = (fnd L c n).map stV := rfl
theorem gT_at (T : List Tx) (n : Tx) : gT T (.string n.data.toList) = (ixT T n).map fun i : Nat => nV ((i + 1 : Nat) : Int) := rfl
theorem gD_at (D : List Cn) (c : Int) (k : Int) : gD D c (.int .i64 k) = (ixN (nms D c) k).map fun i : Nat => nV (i : Int) := rfl
theorem gC_def (L : List En) (c : Int) (n s : Tx) (x : Int) (kl : Lit) : upd (gC L) c (fun y => if y = .string n.data.toList then some (stV s) else gC L c y) x kl = gC (woE c n L ++ [(c, n, s)]) x kl := by
  by_cases h : x = c
  · subst h
    rw [upd_at]
    show (if kl = _ then some (stV s) else MV.fS _ kl) = _
    rw [MV.fS_put]
    unfold gC
    congr 1
    funext y
    rw [fnd_def]
    by_cases hy : y = n
    · rw [if_pos hy, if_pos ⟨rfl, hy⟩]; rfl
    · rw [if_neg hy, if_neg fun e => hy e.2]
  · rw [upd_ne _ _ h]
    unfold gC
    congr 1
    funext y
    rw [fnd_def, if_neg fun e => h e.1]
theorem cC_def (L : List En) (hu : UniqE L) (c : Int) (n s : Tx) (x : Int) : upd (cC L) c (if (gC L c (.string n.data.toList)).isSome = true then cC L c else cC L c + 1) x = cC (woE c n L ++ [(c, n, s)]) x := by
  show _ = (ofE x _).length
  rw [of_def _ _ _ _ _ hu, gC_at, Option.isSome_map]
  by_cases h : x = c
  · subst h; rw [upd_at, if_pos rfl]
  · rw [upd_ne _ _ h, if_neg h]
theorem gC_wo (L : List En) (c : Int) (n : Tx) (x : Int) (kl : Lit) : upd (gC L) c (fun y => if y = .string n.data.toList then none else gC L c y) x kl = gC (woE c n L) x kl := by
  by_cases h : x = c
  · subst h
    rw [upd_at]
    show (if kl = _ then none else MV.fS _ kl) = _
    rw [MV.fS_put]
    unfold gC
    congr 1
    funext y
    rw [fnd_wo]
    by_cases hy : y = n
    · rw [if_pos hy, if_pos ⟨rfl, hy⟩]; rfl
    · rw [if_neg hy, if_neg fun e => hy e.2]
  · rw [upd_ne _ _ h]
    unfold gC
    congr 1
    funext y
    rw [fnd_wo, if_neg fun e => h e.1]
theorem cC_wo (L : List En) (hu : UniqE L) (c : Int) (n : Tx) (x : Int) : upd (cC L) c (if (gC L c (.string n.data.toList)).isSome = true then cC L c - 1 else cC L c) x = cC (woE c n L) x := by
  show _ = (ofE x _).length
  rw [gC_at, Option.isSome_map]
  by_cases h : x = c
  · subst h
    rw [upd_at]
    have := of_wo x n L hu
    show (if _ then (ofE x L).length - 1 else (ofE x L).length) = _
    split at this
    · rename_i hh; rw [if_pos hh]; omega
    · rename_i hh; rw [if_neg hh]; omega
  · rw [upd_ne _ _ h, of_wo_ne h]
theorem gC_no (L : List En) (c : Int) (x : Int) (kl : Lit) : upd (gC L) c (fun _ => none) x kl = gC (noE c L) x kl := by
  by_cases h : x = c
  · subst h
    rw [upd_at]
    unfold gC MV.fS
    cases kl with
    | string l => show none = (fnd (noE x L) x _).map stV; rw [fnd_no, if_pos rfl]; rfl
    | _ => rfl
  · rw [upd_ne _ _ h]
    unfold gC
    congr 1
    funext y
    rw [fnd_no, if_neg h]
theorem cC_no (L : List En) (c : Int) (x : Int) : upd (cC L) c 0 x = cC (noE c L) x := by
  show _ = (ofE x _).length
  rw [of_no]
  by_cases h : x = c
  · subst h; rw [upd_at, if_pos rfl]; rfl
  · rw [upd_ne _ _ h, if_neg h]
theorem gD_app (D : List Cn) (c : Int) (k : Nat) (hk : k ∉ nms D c) (x : Int) (kl : Lit) : upd (gD D) c (fun y => if y = .int .i64 (k : Int) then some (nV ((nms D c).length : Int)) else gD D c y) x kl = gD (D ++ [(c, k)]) x kl := by
  by_cases h : x = c
  · subst h
    rw [upd_at]
    show (if kl = _ then _ else MV.fI _ kl) = _
    rw [MV.fI_put]
    unfold gD
    congr 1
    funext y
    rw [nms_app, if_pos rfl, ixN_app _ _ hk]
    by_cases hy : y = (k : Int)
    · rw [if_pos hy, if_pos hy]; rfl
    · rw [if_neg hy, if_neg hy]
  · rw [upd_ne _ _ h]
    unfold gD
    congr 1
    funext y
    rw [nms_app, if_neg h]
theorem cD_app (D : List Cn) (c : Int) (k : Nat) (hk : k ∉ nms D c) (x : Int) : upd (cD D) c (if (gD D c (.int .i64 (k : Int))).isSome = true then cD D c else cD D c + 1) x = cD (D ++ [(c, k)]) x := by
  show _ = (nms _ x).length
  rw [gD_at, Option.isSome_map, nms_app, if_neg fun e => hk (ixN_isSome.1 e)]
  by_cases h : x = c
  · subst h; rw [upd_at, if_pos rfl, List.length_append]; rfl
  · rw [upd_ne _ _ h, if_neg h]
theorem gD_no (D : List Cn) (c : Int) (x : Int) (kl : Lit) : upd (gD D) c (fun _ => none) x kl = gD (noD c D) x kl := by
  by_cases h : x = c
  · subst h
    rw [upd_at]
    unfold gD MV.fI
    cases kl with
    | int q n =>
      cases q with
      | i64 => show none = (ixN (nms (noD x D) x) n).map _; rw [nms_no, if_pos rfl]; rfl
      | _ => rfl
    | _ => rfl
  · rw [upd_ne _ _ h]
    unfold gD
    congr 1
    funext y
    rw [nms_no, if_neg h]
theorem cD_no (D : List Cn) (c : Int) (x : Int) : upd (cD D) c 0 x = cD (noD c D) x := by
  show _ = (nms _ x).length
  rw [nms_no]
  by_cases h : x = c
  · subst h; rw [upd_at, if_pos rfl]; rfl
  · rw [upd_ne _ _ h, if_neg h]
theorem gT_app (T : List Tx) (t : Tx) (h : ixT T t = none) (kl : Lit) : (if kl = .string t.data.toList then some (nV ((T.length + 1 : Nat) : Int)) else gT T kl) = gT (T ++ [t]) kl := by
  show (if kl = _ then _ else MV.fS _ kl) = _
  rw [MV.fS_put]
  unfold gT
  congr 1
  funext y
  rw [ixT_app _ _ h]
  by_cases hy : y = t
  · rw [if_pos hy, if_pos hy]; rfl
  · rw [if_neg hy, if_neg hy]
/-- where a book's maps lie -/
structure Cf where
  hb : Nat
  cb : Nat
  tb : Nat
  F : Int → Option Nat
  G : Int → Option Nat
def Cf.own (C : Cf) (b : Nat) : Prop := Own C.F C.hb b ∨ Own C.G C.cb b ∨ b = C.tb
structure CB (B : Nat) (w : World) (a N : Nat) (C : Cf) (S : St) : Prop where
  bk : Bk w a 52 #[ptr a, mpV C.hb, mpV C.cb, mpV C.tb]
  hc : Held 9 w C.hb N C.F (cC S.L) (gC S.L)
  hd : Held 3 w C.cb N C.G (cD S.D) (gD S.D)
  ht : MapN Tryd.prog 9 w C.tb S.T.length (gT S.T)
  d1 : ∀ b, Own C.F C.hb b → ¬ Own C.G C.cb b
  d2 : ¬ Own C.F C.hb C.tb
  d3 : ¬ Own C.G C.cb C.tb
  ge : B ≤ a ∧ ∀ b, C.own b → B ≤ b
  inv : Inv S
  few : S.L.length ≤ N ∧ S.D.length ≤ N ∧ S.T.length ≤ N
/-- all cells are as they were -/
def Kc (w w' : World) : Prop := ∀ (b : Nat) (cs : Array Value) (t : TypeId) (fr : Nat × Nat), w.heap[b]? = some (.cells cs t fr) → w'.heap[b]? = w.heap[b]?
theorem Kc.below {w w' : World} (h : Below w.heap.size w w') : Kc w w' := fun b cs t fr hb => h.block b (Array.getElem?_eq_some_iff.1 hb).1
theorem Kc.trans {w w' w'' : World} (h : Kc w w') (k : Kc w' w'') : Kc w w'' := fun b cs t fr hb => (k b cs t fr ((h b cs t fr hb).trans hb)).trans (h b cs t fr hb)
theorem Kc.bk {w w' : World} (h : Kc w w') {g : Nat} {t : TypeId} {cs : Array Value} (hb : Bk w g t cs) : Bk w' g t cs := (h g cs t (0, 0) hb).trans hb
theorem Kc.chg {S : Nat → Prop} {w w' : World} (h : Chg S w w') (hs : ∀ b, S b → b < w.heap.size → ∃ es cl, w.heap[b]? = some (.map es cl)) : Kc w w' := fun b cs t fr hb => h.block b (Array.getElem?_eq_some_iff.1 hb).1 fun hS => by
  obtain ⟨es, cl, he⟩ := hs b hS (Array.getElem?_eq_some_iff.1 hb).1
  rw [hb] at he
  cases he
section
variable {B : Nat} {w w' w'' : World} {a N : Nat} {C : Cf} {S : St}
theorem CB.lt (h : CB B w a N C S) {b : Nat} (hb : C.own b) : b < w.heap.size := by
  rcases hb with hb | hb | rfl
  · exact h.hc.lt hb
  · exact h.hd.lt hb
  · exact h.ht.lt
theorem CB.obj (h : CB B w a N C S) {b : Nat} (hb : C.own b) : ∃ es clock, w.heap[b]? = some (.map es clock) := by
  rcases hb with hb | hb | rfl
  · exact h.hc.obj hb
  · exact h.hd.obj hb
  · exact h.ht.obj
theorem CB.keep (h : CB B w a N C S) (e0 : w'.heap[a]? = w.heap[a]?) (e : ∀ b, C.own b → w'.heap[b]? = w.heap[b]?) : CB B w' a N C S :=
  ⟨h.bk.heap e0, h.hc.keep fun b hb => e b (.inl hb), h.hd.keep fun b hb => e b (.inr (.inl hb)), h.ht.keep (e _ (.inr (.inr rfl))), h.d1, h.d2, h.d3, h.ge, h.inv, h.few⟩
theorem CB.below (h : CB B w a N C S) (hb : Below w.heap.size w w') : CB B w' a N C S := h.keep (hb.block _ h.bk.lt) fun b hk => hb.block b (h.lt hk)
theorem CB.mono (h : CB B w a N C S) {n : Nat} (hn : N ≤ n) : CB B w a n C S := ⟨h.bk, h.hc.mono hn, h.hd.mono hn, h.ht, h.d1, h.d2, h.d3, h.ge, h.inv, ⟨Nat.le_trans h.few.1 hn, Nat.le_trans h.few.2.1 hn, Nat.le_trans h.few.2.2 hn⟩⟩
theorem CB.lower (h : CB B w a N C S) {B' : Nat} (hB : B' ≤ B) : CB B' w a N C S := ⟨h.bk, h.hc, h.hd, h.ht, h.d1, h.d2, h.d3, ⟨Nat.le_trans hB h.ge.1, fun b hb => Nat.le_trans hB (h.ge.2 b hb)⟩, h.inv, h.few⟩
theorem CB.le (h : CB B w a N C S) : B ≤ w.heap.size := Nat.le_of_lt (Nat.lt_of_le_of_lt h.ge.1 h.bk.lt)
theorem CB.na (h : CB B w a N C S) : ¬ C.own a := fun hb => by
  obtain ⟨es, cl, he⟩ := h.obj hb
  have := h.bk
  unfold Bk at this
  rw [this] at he
  cases he
theorem CB.cells (h : CB B w a N C S) : w.cell? ⟨a, 0, none⟩ = some (ptr a) ∧ w.cell? ⟨a, 1, none⟩ = some (mpV C.hb) ∧ w.cell? ⟨a, 2, none⟩ = some (mpV C.cb) ∧ w.cell? ⟨a, 3, none⟩ = some (mpV C.tb) := ⟨h.bk.cell 0, h.bk.cell 1, h.bk.cell 2, h.bk.cell 3⟩
/-- what a step makes of a book -/
def StC (B a N : Nat) (C : Cf) (S : St) (w w' : World) : Prop := ∃ C', CB B w' a N C' S ∧ Chg C.own w w' ∧ Kc w w' ∧ ∀ b, C'.own b → C.own b ∨ w.heap.size ≤ b
theorem StC.refl (h : CB B w a N C S) : StC B a N C S w w := ⟨C, h, Chg.refl _ _, fun _ _ _ _ _ => rfl, fun b hb => .inl hb⟩
theorem StC.of_below (h : CB B w a N C S) (hb : Below w.heap.size w w') : StC B a N C S w w' := ⟨C, h.below hb, Chg.of_below hb, Kc.below hb, fun b hb => .inl hb⟩
theorem StC.size (h : StC B a N C S w w') : w.heap.size ≤ w'.heap.size := by obtain ⟨_, _, h, _⟩ := h; exact h.size
theorem StC.mono {n : Nat} (h : StC B a N C S w w') (hn : N ≤ n) : StC B a n C S w w' := by obtain ⟨C', h1, h2⟩ := h; exact ⟨C', h1.mono hn, h2⟩
theorem StC.post (h : StC B a N C S w w') (hb : Below w'.heap.size w' w'') : StC B a N C S w w'' := by
  obtain ⟨C', h1, h2, h3, h4⟩ := h
  exact ⟨C', h1.below hb, h2.trans' (S' := fun _ => False) (Chg.of_below hb) (fun _ _ e => e.elim), h3.trans (Kc.below hb), h4⟩
theorem StC.pre (hb : Below w.heap.size w w') (h : StC B a N C S w' w'') : StC B a N C S w w'' := by
  obtain ⟨C', h1, h2, h3, h4⟩ := h
  exact ⟨C', h1, (Chg.of_below hb).trans h2, (Kc.below hb).trans h3, fun b hk => (h4 b hk).imp id fun h => Nat.le_trans hb.size h⟩
theorem StC.trans {N' : Nat} {S' : St} (h : StC B a N C S w w') (k : ∀ C', CB B w' a N C' S → StC B a N' C' S' w' w'') : StC B a N' C S' w w'' := by
  obtain ⟨C', h1, h2, h3, h4⟩ := h
  obtain ⟨C2, k1, k2, k3, k4⟩ := k C' h1
  refine ⟨C2, k1, h2.trans' k2 fun b hb hk => (h4 b hk).resolve_right (by omega), h3.trans k3, fun b hb => ?_⟩
  rcases k4 b hb with h | h
  · exact h4 b h
  · exact .inr (Nat.le_trans h2.size h)
theorem StC.fr {n0 : Nat} {S0 : St} (h : StC B a N C S w w') (h0 : CB B w a n0 C S0) : Below B w w' := by
  obtain ⟨C', h1, h2, h3, h4⟩ := h
  exact h2.below h0.le fun b hb hk => by have := h0.ge.2 b hk; omega
/-- the clients' maps turned -/
theorem CB.clients (h : CB B w a N C S) {L : List En} {n : Nat} (hn : N ≤ n) (hp : HeldP 9 C.hb n C.F (cC L) (gC L) w w') (hu : UniqE L) (hl : L.length ≤ n) : StC B a n C { S with L := L } w w' := by
  obtain ⟨F', H, hc, ho⟩ := hp
  have hc2 : Chg C.own w w' := hc.mono fun b _ hb => .inl hb
  have k : ∀ b, b < w.heap.size → ¬ Own C.F C.hb b → w'.heap[b]? = w.heap[b]? := fun b hb hk => hc.block b hb hk
  refine ⟨{ C with F := F' }, ⟨h.bk.heap (k _ h.bk.lt fun e => h.na (.inl e)), H, (h.hd.keep fun b hb => k b (h.hd.lt hb) fun e => h.d1 b e hb).mono hn, h.ht.keep (k _ h.ht.lt h.d2), fun b hb hk => ?_, fun hb => ?_, h.d3, ⟨h.ge.1, fun b hb => ?_⟩, ⟨hu, h.inv.ut, h.inv.ud, h.inv.nr⟩, ⟨hl, Nat.le_trans h.few.2.1 hn, Nat.le_trans h.few.2.2 hn⟩⟩, hc2, Kc.chg hc2 fun b hb _ => h.obj hb, fun b hb => ?_⟩
  · rcases ho b hb with e | e
    · exact h.d1 b e hk
    · have := h.hd.lt hk; omega
  · rcases ho _ hb with e | e
    · exact h.d2 e
    · have := h.ht.lt; have e : w.heap.size ≤ C.tb := e; omega
  · have hle := h.le
    rcases hb with hb | hb
    · rcases ho b hb with e | e
      · exact h.ge.2 b (.inl e)
      · omega
    · exact h.ge.2 b (.inr hb)
  · rcases hb with hb | hb
    · rcases ho b hb with e | e
      · exact .inl (.inl e)
      · exact .inr e
    · exact .inl (.inr hb)
/-- the connections' -/
theorem CB.conns (h : CB B w a N C S) {D : List Cn} {n : Nat} (hn : N ≤ n) (hp : HeldP 3 C.cb n C.G (cD D) (gD D) w w') (hu : D.Nodup) (hr : ∀ e ∈ D, 1 ≤ e.2 ∧ e.2 ≤ S.T.length) (hl : D.length ≤ n) : StC B a n C { S with D := D } w w' := by
  obtain ⟨F', H, hc, ho⟩ := hp
  have hc2 : Chg C.own w w' := hc.mono fun b _ hb => .inr (.inl hb)
  have k : ∀ b, b < w.heap.size → ¬ Own C.G C.cb b → w'.heap[b]? = w.heap[b]? := fun b hb hk => hc.block b hb hk
  refine ⟨{ C with G := F' }, ⟨h.bk.heap (k _ h.bk.lt fun e => h.na (.inr (.inl e))), (h.hc.keep fun b hb => k b (h.hc.lt hb) fun e => h.d1 b hb e).mono hn, H, h.ht.keep (k _ h.ht.lt h.d3), fun b hb hk => ?_, h.d2, fun hb => ?_, ⟨h.ge.1, fun b hb => ?_⟩, ⟨h.inv.ul, h.inv.ut, hu, hr⟩, ⟨Nat.le_trans h.few.1 hn, hl, Nat.le_trans h.few.2.2 hn⟩⟩, hc2, Kc.chg hc2 fun b hb _ => h.obj hb, fun b hb => ?_⟩
  · rcases ho b hk with e | e
    · exact h.d1 b hb e
    · have := h.hc.lt hb; omega
  · rcases ho _ hb with e | e
    · exact h.d3 e
    · have := h.ht.lt; have e : w.heap.size ≤ C.tb := e; omega
  · have hle := h.le
    rcases hb with hb | hb | hb
    · exact h.ge.2 b (.inl hb)
    · rcases ho b hb with e | e
      · exact h.ge.2 b (.inr (.inl e))
      · omega
    · exact h.ge.2 b (.inr (.inr hb))
  · rcases hb with hb | hb | hb
    · exact .inl (.inl hb)
    · rcases ho b hb with e | e
      · exact .inl (.inr (.inl e))
      · exact .inr e
    · exact .inl (.inr (.inr hb))
/-- the texts' -/
theorem CB.texts (h : CB B w a N C S) {t : Tx} (ht : ixT S.T t = none) (hm : MapN Tryd.prog 9 w' C.tb (S.T ++ [t]).length (gT (S.T ++ [t]))) (hc : Chg (fun b => b = C.tb) w w') : StC B a (N + 1) C { S with T := S.T ++ [t] } w w' := by
  have hc2 : Chg C.own w w' := hc.mono fun b _ hb => .inr (.inr hb)
  have k : ∀ b, b < w.heap.size → b ≠ C.tb → w'.heap[b]? = w.heap[b]? := fun b hb hk => hc.block b hb hk
  have hn : N ≤ N + 1 := Nat.le_succ N
  refine ⟨C, ⟨h.bk.heap (k _ h.bk.lt fun e => h.na (.inr (.inr e))), (h.hc.keep fun b hb => k b (h.hc.lt hb) fun e => h.d2 (e ▸ hb)).mono hn, (h.hd.keep fun b hb => k b (h.hd.lt hb) fun e => h.d3 (e ▸ hb)).mono hn, hm, h.d1, h.d2, h.d3, h.ge, ?_, ⟨Nat.le_trans h.few.1 hn, Nat.le_trans h.few.2.1 hn, ?_⟩⟩, hc2, Kc.chg hc2 fun b hb _ => h.obj hb, fun b hb => .inl hb⟩
  · have := h.inv.num t
    unfold numS at this
    rw [ht] at this
    exact this
  · have := h.few.2.2
    show (S.T ++ [t]).length ≤ N + 1
    rw [List.length_append]
    show S.T.length + 1 ≤ N + 1
    omega
/-- two books apart: the one's step leaves the other -/
theorem StC.apart {a' N' : Nat} {C' : Cf} {S' : St} {B' : Nat} (h : StC B a N C S w w') (k : CB B' w a' N' C' S') (hd : ∀ b, C'.own b → ¬ C.own b) : CB B' w' a' N' C' S' := by
  obtain ⟨_, _, h2, h3, _⟩ := h
  exact k.keep (h3 _ _ _ _ k.bk) fun b hb => h2.block b (k.lt hb) (hd b hb)
end
end Go.Proofs.YtkifmhdceobfhaaDoor.PP
