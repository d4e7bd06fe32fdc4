/- A state that a call owns grows by a table; one that is spoilt where it lies; an append of nothing. No program; no condition.
   What the document's Copy tells: a state of its own. Conditions: how many tables and rows, how long the names.
   StateSame's walk. -/
import Derived.Test.YtjloookjlnmgdaaGreatDoorG4
import Derived.Test.YtjloookjlnmgdaaGreatDoorG22
import Derived.Test.YtjloookjlnmgdaaGreatDoorG9
import Derived.Deep.RegionHeld3
import Derived.Test.YtjloookjlnmgdaaGreatDoorG21
set_option linter.unusedSimpArgs false
set_option linter.unusedVariables false
namespace Go.Proofs.YtjloookjlnmgdaaGreatDoor
open Go.ChangeShapes Go.WideShapes Go.ChangeAt Go.RowKit
set_option maxRecDepth 100000
set_option linter.unusedVariables false
set_option linter.unusedSimpArgs false

theorem run_append_nil0 {P : Program} {w : World} (t ty e : TypeId) (i : TypeInfo) (ht : P.underlying t = some (.slice e)) (hi : P.info? e = some i) (p : Option Addr) (c : Nat) :
    (Builtin.append_ #[t, t] ty #[.slice none 0 0, .slice p 0 c]).run P w = .ok (.slice none 0 0) w := by
  have hf : (Builtin.firstCells i.size 0 (.slice p 0 c)).run P w = .ok #[] w := by
    cases p with
    | none => exact run_firstCells_none w i.size 0 0 c
    | some ad => exact run_firstCells_some w i.size 0 ad 0 c [] (by simp) (fun j v hj => by simp at hj)
  simp [Builtin.append_, run_underlying ht, sizeOf, typeInfo, hi, Builtin.lenOf, hf]
theorem step_append_nil0 {P : Program} {w : World} {ops : Array Oper} {o : Oper} {a : Act} {K : Act → World → Prop} {Q : Exit → Act → World → Prop} {E : Prop} (hgd : o.guard = none) (s x : Operand) (t : TypeId)
    (ho : o.op = .call { callee := .builtin .append, args := #[s, x], argTypes := #[t, t] }) (e : TypeId) (i : TypeInfo) (ht : P.underlying t = some (.slice e)) (hi : P.info? e = some i)
    (p : Option Addr) (c : Nat) (hs : a.eval s = .slice none 0 0) (hx : a.eval x = .slice p 0 c)
    (h : K (a.put o.dst (.slice none 0 0)) w) : if Region.wanted o (yielded ops a.tmps) = true then Oper.wp P o a w K Q else E := by
  have hw : Region.wanted o (yielded ops a.tmps) = true := by simp [Region.wanted, hgd]
  rw [if_pos hw]
  have hrun := run_append_nil0 (P := P) (w := w) t o.type e i ht hi p c
  unfold Oper.wp
  simp [execOp, ho, resolve, invoke, builtin, hs, hx, hrun, Result.andThen]
  exact h
/-- one table more at the end -/
theorem FS.snoc {w w1 : World} {B : Nat} {v v1 : Value} {x : List Tv} (h : FS B w v x) (n : ByteArray) (u : Value) (l : List Rw) (hu : OR B w u l)
    (hap : ∀ t ∈ x, t.2.1.ownBlock = none ∨ t.2.1.ownBlock ≠ u.ownBlock) (hg : w.grownBy w1 v.ownBlock)
    (ho : w1.ownsRow B 43 2 v1 (x.length + 1) (tcs x ++ [.string n, u])) : FS B w1 v1 (x ++ [(n, u, l)]) := by
  have keep : ∀ (u : Value) (l : List Rw), OR B w u l → OR B w1 u l := fun u l hu => own_keep hu fun k hk => hg.block k (hu.lt k hk).2 (fun e => own_ne h.own hu (g := k) (g' := k) e.symm hk ty_ne rfl)
  refine ⟨?_, fun t ht => ?_, fun i j a b hij ha hb => ?_⟩
  · rw [List.length_append, tcs_append]; exact ho
  · rcases List.mem_append.1 ht with ht | ht
    · exact keep _ _ (h.rows t ht)
    · rw [List.mem_singleton] at ht; subst ht; exact keep _ _ hu
  · rw [List.getElem?_append] at ha hb
    have one : ∀ (k : Nat) (p q : Tv), [q][k]? = some p → k = 0 ∧ p = q := fun k p q hk => by
      cases k with
      | zero => simp at hk; exact ⟨rfl, hk.symm⟩
      | succ k => simp at hk
    split at ha
    · split at hb
      · exact h.apart i j a b hij ha hb
      · obtain ⟨_, rfl⟩ := one _ _ _ hb
        exact hap a (List.mem_of_getElem? ha)
    · obtain ⟨e1, rfl⟩ := one _ _ _ ha
      split at hb
      · have := hap b (List.mem_of_getElem? hb)
        show u.ownBlock = none ∨ u.ownBlock ≠ b.2.1.ownBlock
        rcases this with h1 | h1
        · cases hu2 : u.ownBlock with
          | none => exact .inl rfl
          | some k => exact .inr (by rw [h1]; exact fun e => by cases e)
        · exact .inr (fun e => h1 e.symm)
      · obtain ⟨e2, rfl⟩ := one _ _ _ hb
        omega
theorem OR.setK {B g cap : Nat} {w : World} {l : List Rw} (h : OR B w (.slice (some ⟨g, 0, none⟩) l.length cap) l) (i : Nat) (r : Rw) (v : Int) (hi : l[i]? = some r) :
    OR B (w.setCell ⟨g, i * 2, none⟩ (.int .i64 v)) (.slice (some ⟨g, 0, none⟩) l.length cap) (l.set i (v, r.2)) := by
  obtain ⟨a1, a2⟩ := World.ownsRow.stored h (i * 2) (.int .i64 v)
  have e : (rcs l).set (i * 2) (.int .i64 v) = rcs (l.set i (v, r.2)) := by
    unfold rcs
    rw [fl_set1 _ i (rp r) _ (by rw [List.getElem?_map, hi]; rfl), List.map_set]
  rw [e] at a1
  unfold OR
  rw [List.length_set]
  exact a1
theorem FS.high {w w' : World} {B : Nat} {v : Value} {x : List Tv} (h : FS B w v x) (p : Addr) (u : Value) (hp : p.block < B) (e : w' = w.setCell p u) : FS B w' v x := by
  subst e
  exact h.keep (fun g hg => Below.heap_setCell _ _ _ _ (by have := (h.own.lt g hg).1; omega)) (fun t ht g hg => Below.heap_setCell _ _ _ _ (by have := ((h.rows t ht).lt g hg).1; omega))
/-- the spoiling of a copy: the copy is the call's own still, another one that lies above B2 is as it was -/
structure Spo (B B2 g cap : Nat) (n : Nat) (v : Value) (y : List Tv) (w w' : World) (X : List Tv) : Prop where
  fs : FS B w' (.slice (some ⟨g, 0, none⟩) X.length cap) X
  len : X.length = n
  low : ∀ t ∈ X, ∀ k, t.2.1.ownBlock = some k → k < B2
  few : ∀ t ∈ X, t.2.2.length ≤ 1000000
  gl : g < B2
  was : FS B2 w' v y
  bel : Below B w w'
theorem Spo.name {B B2 g cap n : Nat} {v : Value} {y : List Tv} {w w' : World} {X : List Tv} (h : Spo B B2 g cap n v y w w' X) (i : Nat) (t : Tv) (hi : X[i]? = some t) (nm : ByteArray) :
    Spo B B2 g cap n v y w (w'.setCell ⟨g, i * 2, none⟩ (.string nm)) (X.set i (nm, t.2.1, t.2.2)) := by
  have hm : t ∈ X := List.mem_of_getElem? hi
  refine ⟨by rw [List.length_set]; exact h.fs.name i t hi nm, by rw [List.length_set]; exact h.len, fun q hq => ?_, fun q hq => ?_, h.gl, h.was.high _ _ h.gl rfl, h.bel.setCell (p := ⟨g, i * 2, none⟩) (h.fs.own.lt g rfl).1 _⟩
  · rcases mem_set hq with rfl | hq
    · exact h.low t hm
    · exact h.low q hq
  · rcases mem_set hq with rfl | hq
    · exact h.few t hm
    · exact h.few q hq
theorem Spo.row {B B2 g cap n : Nat} {v : Value} {y : List Tv} {w w' : World} {X : List Tv} (h : Spo B B2 g cap n v y w w' X) (i : Nat) (nm : ByteArray) (b c : Nat) (l : List Rw)
    (hi : X[i]? = some (nm, .slice (some ⟨b, 0, none⟩) l.length c, l)) (k : Nat) (r : Rw) (hk : l[k]? = some r) (z : Int) :
    Spo B B2 g cap n v y w (w'.setCell ⟨b, k * 2, none⟩ (.int .i64 z)) (X.set i (nm, .slice (some ⟨b, 0, none⟩) l.length c, l.set k (z, r.2))) := by
  have hm := List.mem_of_getElem? hi
  have hor : OR B w' (.slice (some ⟨b, 0, none⟩) l.length c) l := h.fs.rows _ hm
  have hb2 : b < B2 := h.low _ hm b rfl
  have hB := (hor.lt b rfl).1
  have f := FS.modr h.fs i _ hi (l.set k (z, r.2)) (w1 := w'.setCell ⟨b, k * 2, none⟩ (.int .i64 z)) (OR.setK hor k r z hk) (fun q _ hq => Below.heap_setCell _ _ _ _ (fun e => hq (by rw [e]; rfl)))
  refine ⟨by rw [List.length_set]; exact f, by rw [List.length_set]; exact h.len, fun q hq => ?_, fun q hq => ?_, h.gl, h.was.high _ _ hb2 rfl, h.bel.setCell (p := ⟨b, k * 2, none⟩) hB _⟩
  · rcases mem_set hq with rfl | hq
    · exact fun j hj => by
        have : b = j := by simpa [Value.ownBlock] using hj
        omega
    · exact h.low q hq
  · rcases mem_set hq with rfl | hq
    · show (l.set k (z, r.2)).length ≤ _
      rw [List.length_set]; exact h.few _ hm
    · exact h.few q hq
theorem light_few {s : List Tb} (h : lightS s = true) : FewS s := by
  unfold lightS at h
  rw [Bool.and_eq_true] at h
  have h1 := of_decide_eq_true h.1
  refine ⟨by omega, fun t ht => ?_⟩
  have h2 := List.all_eq_true.1 h.2 t ht
  unfold lightT at h2
  rw [Bool.and_eq_true] at h2
  have h3 := of_decide_eq_true h2.1
  have h4 := of_decide_eq_true h2.2
  exact ⟨by omega, by omega⟩
end Go.Proofs.YtjloookjlnmgdaaGreatDoor
namespace Go.Proofs.YtjloookjlnmgdaaGreatDoor
open Go.ChangeShapes Go.WideShapes Go.ChangeAt Go.RowKit
set_option maxRecDepth 100000
set_option linter.unusedVariables false
set_option linter.unusedSimpArgs false

def RcP (s : List Tb) (w : World) (e : Ending) (w' : World) : Prop := ∃ v x, e = .returned v ∧ FS w.heap.size w' v x ∧ tbs x = s ∧ Below w.heap.size w w'
theorem one_two {W : World} {g : Nat} {a b : Value} {t : TypeId} (h : Blk W g t #[a, b]) : ∀ j u, [a, b][j]? = some u → W.cell? ((⟨g, 0, none⟩ : Addr).add j) = some u := by
  intro j u hj
  rw [Addr.add_lit, Nat.zero_add]
  rw [h.cell j]
  simpa using hj
theorem own_far {w : World} {B g : Nat} {v u : Value} {l : List Rw} {cs : Array Value} {i : Nat} (h : OR B w v l) (hk : Blk w g 43 cs) : OR B (w.setCell ⟨g, i, none⟩ u) v l :=
  own_keep h fun k hk2 => Below.heap_setCell _ _ _ _ (fun e => by
    obtain ⟨c, hc⟩ := own_type h hk2
    exact hk.ne_ hc ty_ne e.symm)
theorem src_of {w : World} {ad : Addr} {c : Nat} {l : List Rw} (h : RR w (.slice (some ad) l.length c) l) (hp : 0 < l.length) : ∀ j v, (rcs l)[j]? = some v → w.cell? (ad.add j) = some v := by
  obtain ⟨ad2, e2, h2⟩ := h.src hp
  injection e2 with e2
  subst e2
  exact h2
set_option maxHeartbeats 4000000 in
theorem rcopy_any (v : Value) (s : List Tb) (w : World) (h : SR w v s) (hf : FewS s) :
    Calls Tryz.prog 19 #[v] w (RcP s w) := by
  obtain ⟨a, cap, rfl⟩ := h.form
  obtain ⟨i30, hi30, hz30, hs30, hb30⟩ := iTab
  obtain ⟨i31, hi31, hz31, hs31, hb31⟩ := iRow
  have und30 := undTab
  have und31 := undRow
  have HH := Lib.hid h
  have HF := Lib.hid hf
  have HF1 : Hid (s.length ≤ 1000000) := Lib.hid hf.1
  clear h hf
  go_enter Tryz.func19, Tryz.ntmps19
  go_wp2
  go_loopg [3, 4] s.length (fun gk u3 u4 wx => ∃ (i : Nat) (x : List Tv), u4 = .int .i64 (i : Int) ∧ i + gk = s.length ∧ FS w.heap.size wx u3 x ∧ tbs x = s.take i ∧ Below w.heap.size w wx)
  case atStart => exact ⟨0, [], rfl, by omega, ⟨World.ownsRow_nil _ _ _ _, fun t ht => by simp at ht, fun i j a b _ ha _ => by simp at ha⟩, rfl, Below.refl _ _⟩
  case round =>
    obtain ⟨i, x, rfl, hi, hFS, hT, hB⟩ := hrel
    have HB := Lib.hid hB
    have HI := Lib.hid hi
    have HFS := Lib.hid hFS
    cases gk with
    | zero =>
      have l1 : ¬ ((i : Int) < (s.length : Int)) := by omega
      have hfin : RcP s w (.returned u3) wr := ⟨u3, x, rfl, hFS, by rw [hT, List.take_of_length_le (by omega)], hB⟩
      have HFIN := Lib.hid hfin
      clear hB hi hFS hT hfin
      go_wp2
      go_ret
      exact HFIN.out
    | succ gk =>
      have hlt : i < s.length := by omega
      have hSR := HH.out.below hB
      obtain ⟨b, o, cp, he, hcp, hx⟩ := hSR.inv (by omega)
      injection he with ea _ ec
      subst ea ec
      obtain ⟨t, ht0⟩ : ∃ t, s[i] = t := ⟨_, rfl⟩
      have hsi : s[i]? = some t := by rw [List.getElem?_eq_getElem hlt, ht0]
      obtain ⟨x0, u, x1, hu⟩ := hx i t hsi
      have hsz := HF.out.2 t (List.mem_of_getElem? hsi)
      have l0 : (0 : Int) ≤ (i : Int) := by omega
      have l1 : (i : Int) < (s.length : Int) := by omega
      obtain ⟨i1, hi1⟩ : ∃ i1, i + 1 = i1 := ⟨_, rfl⟩
      have wk : IntKind.i64.wrap ((i : Int) + 1) = (i1 : Int) := by rw [show (i : Int) + 1 = (i1 : Int) by omega]; exact IntWalk.i64_in _ (by have := HF1.out; omega)
      have HI1 := Lib.hid hi1
      obtain ⟨nm, rs⟩ := t
      simp only at hsz x0 x1 hu
      obtain ⟨ua, ucap, rfl⟩ := hu.form
      have HSZ := Lib.hid hsz
      have HLT := Lib.hid hlt
      have hxl : x.length = i := by rw [← tbs_len, hT, List.length_take]; omega
      have HXL := Lib.hid hxl
      have HTN := Lib.hid (fun q : Value => show tbs (x ++ [(nm, q, rs)]) = s.take i1 by
        unfold tbs at hT ⊢
        rw [List.map_append, hT, ← hi1, List.take_add_one, hsi]; rfl)
      have hbA : Below wr.heap.size wr (wr.alloc (.cells #[.string nm, .slice none 0 0] 43)) := (Below.refl wr.heap.size wr).alloc (Nat.le_refl _) _
      have hkA : Blk (wr.alloc (.cells #[.string nm, .slice none 0 0] 43)) wr.heap.size 43 #[.string nm, .slice none 0 0] := Blk.new _ _ _
      have HXB := Lib.hid (World.block_lt_of_cell? wr _ x1)
      have HX1 := Lib.hid x1
      have HU := Lib.hid hu
      clear hB hi hSR hx ht0 hsi hsz hlt hi1 hu hxl hT hFS
      go_wp2_with fail
      obtain ⟨W1, hW1⟩ : ∃ W1, wr.alloc (.cells #[.string nm, .slice none 0 0] 43) = W1 := ⟨_, rfl⟩
      rw [hW1] at hbA hkA ⊢
      have HB1 := Lib.hid hbA
      have HK1 := Lib.hid hkA
      clear hbA hkA hW1
      refine wp_region_held_drew (S := (fun w' => Below wr.heap.size wr w')) (by kernel_rfl) ?_ (fun hS => ?_)
      · exact HB1.out.drew
      try dsimp only at hS
      refine wpAnyH_take (i := 0) (v := ?_) rfl (by kernel_rfl) (by kernel_rfl) (by kernel_rfl) (fun _ _ _ h => h) (Or.inl ⟨by kernel_rfl, ?_⟩) hS ?_
      rotate_left
      · intro wz hSz; try dsimp only at hSz
        have x1z := (hSz.cell (p := ⟨b, o + i * 2 + 1, none⟩) HXB.out).trans HX1.out
        go_simp
        all_goals with_reducible rfl
      try simp only [Act.put, List.getElem_toArray, List.getElem_cons_succ, List.getElem_cons_zero, List.setIfInBounds_toArray, List.set_cons_zero, List.set_cons_succ]
      refine wpAnyH_take (i := 2) (v := ?_) rfl (by kernel_rfl) (by kernel_rfl) (by kernel_rfl) (fun _ _ _ h => h) (Or.inl ⟨by kernel_rfl, ?_⟩) hS ?_
      rotate_left
      · intro wz hSz; try dsimp only at hSz
        have x1z := (hSz.cell (p := ⟨b, o + i * 2 + 1, none⟩) HXB.out).trans HX1.out
        go_simp
        all_goals with_reducible rfl
      try simp only [Act.put, List.getElem_toArray, List.getElem_cons_succ, List.getElem_cons_zero, List.setIfInBounds_toArray, List.set_cons_zero, List.set_cons_succ]
      refine wpAnyH_take (i := 3) (v := ?_) rfl (by kernel_rfl) (by kernel_rfl) (by kernel_rfl) (fun _ _ _ h => h) (Or.inl ⟨by kernel_rfl, ?_⟩) hS ?_
      rotate_left
      · intro wz hSz; try dsimp only at hSz
        have x1z := (hSz.cell (p := ⟨b, o + i * 2 + 1, none⟩) HXB.out).trans HX1.out
        go_simp
        all_goals with_reducible rfl
      try simp only [Act.put, List.getElem_toArray, List.getElem_cons_succ, List.getElem_cons_zero, List.setIfInBounds_toArray, List.set_cons_zero, List.set_cons_succ]
      refine wpAnyH_take (i := 4) (v := ?_) rfl (by kernel_rfl) (by kernel_rfl) (by kernel_rfl) (fun _ _ _ h => h) (Or.inl ⟨by kernel_rfl, ?_⟩) hS ?_
      rotate_left
      · intro wz hSz; try dsimp only at hSz
        have x1z := (hSz.cell (p := ⟨b, o + i * 2 + 1, none⟩) HXB.out).trans HX1.out
        go_simp
        all_goals with_reducible rfl
      try simp only [Act.put, List.getElem_toArray, List.getElem_cons_succ, List.getElem_cons_zero, List.setIfInBounds_toArray, List.set_cons_zero, List.set_cons_succ]
      refine wpAnyH_take (i := 5) (v := ?_) rfl (by kernel_rfl) (by kernel_rfl) (by kernel_rfl) (fun _ _ _ h => h) (Or.inl ⟨by kernel_rfl, ?_⟩) hS ?_
      rotate_left
      · intro wz hSz; try dsimp only at hSz
        have x1z := (hSz.cell (p := ⟨b, o + i * 2 + 1, none⟩) HXB.out).trans HX1.out
        go_simp
        all_goals with_reducible rfl
      try simp only [Act.put, List.getElem_toArray, List.getElem_cons_succ, List.getElem_cons_zero, List.setIfInBounds_toArray, List.set_cons_zero, List.set_cons_succ]
      refine wpAnyH_take (i := 6) (v := ?_) rfl (by kernel_rfl) (by kernel_rfl) (by kernel_rfl) (fun _ _ _ h => h) (Or.inl ⟨by kernel_rfl, ?_⟩) hS ?_
      rotate_left
      · intro wz hSz; try dsimp only at hSz
        have x1z := (hSz.cell (p := ⟨b, o + i * 2 + 1, none⟩) HXB.out).trans HX1.out
        go_simp
        all_goals with_reducible rfl
      try simp only [Act.put, List.getElem_toArray, List.getElem_cons_succ, List.getElem_cons_zero, List.setIfInBounds_toArray, List.set_cons_zero, List.set_cons_succ]
      have d1 : W1.drew.cell? ⟨wr.heap.size, 1, none⟩ = some (.slice none 0 0) := HK1.out.cell 1
      refine wpAnyH_ready (rs := [1]) (by kernel_rfl) (by simp) (AllReadyH.cons rfl (fun K hK => ?_) AllReadyH.nil)
      go_simp
      refine hK.out _ _ ?_ (fun hSn => ?_)
      · exact hS
      clear hK K hS
      have hS := hSn
      clear hSn
      try dsimp only at hS
      try simp only [Act.put, List.getElem_toArray, List.getElem_cons_succ, List.getElem_cons_zero, List.setIfInBounds_toArray, List.set_cons_zero, List.set_cons_succ]
      cases rs with
      | nil =>
        have hsr2 := hS
        refine wpAnyH_ready (rs := [7]) (by kernel_rfl) (by simp) (AllReadyH.cons rfl (fun K hK => ?_) AllReadyH.nil)
        refine step_append_nil0 rfl _ _ 36 rfl 45 i31 und31 hi31 ua ucap rfl rfl ?_
        refine hK.out _ _ ?_ (fun hSn => ?_)
        · exact hS
        clear hK K hS
        have hS := hSn
        clear hSn
        try dsimp only at hS
        try simp only [Act.put, List.getElem_toArray, List.getElem_cons_succ, List.getElem_cons_zero, List.setIfInBounds_toArray, List.set_cons_zero, List.set_cons_succ]
        refine wpAnyH_take (i := 8) (v := ?_) rfl (by kernel_rfl) (by kernel_rfl) (by kernel_rfl) (fun _ _ _ h => h) (Or.inl ⟨by kernel_rfl, ?_⟩) hS ?_
        rotate_left
        · intro wz hSz; try dsimp only at hSz
          have x1z := (hSz.cell (p := ⟨b, o + i * 2 + 1, none⟩) HXB.out).trans HX1.out
          go_simp
          all_goals with_reducible rfl
        try simp only [Act.put, List.getElem_toArray, List.getElem_cons_succ, List.getElem_cons_zero, List.setIfInBounds_toArray, List.set_cons_zero, List.set_cons_succ]
        have f1 : W1.drew.frozen? ⟨wr.heap.size, 1, none⟩ = false := HK1.out.frozen 1
        refine wpAnyH_ready (rs := [9]) (by kernel_rfl) (by simp) (AllReadyH.cons rfl (fun K hK => ?_) AllReadyH.nil)
        go_simp
        refine hK.out _ _ ?_ (fun hSn => ?_)
        · exact hS.setCell (p := ⟨wr.heap.size, 1, none⟩) (Nat.le_refl _) _
        clear hK K hS
        have hS := hSn
        clear hSn
        try dsimp only at hS
        try simp only [Act.put, List.getElem_toArray, List.getElem_cons_succ, List.getElem_cons_zero, List.setIfInBounds_toArray, List.set_cons_zero, List.set_cons_succ]
        refine wpAnyH_done (by kernel_rfl) ?_ _
        obtain ⟨W2, hW2⟩ : ∃ W2, (W1.setCell ⟨wr.heap.size, 1, none⟩ (.slice none 0 0)).drew = W2 := ⟨_, rfl⟩
        rw [hW2] at hS ⊢
        have hk2 : Blk W2 wr.heap.size 43 #[.string nm, Value.slice none 0 0] := by rw [← hW2]; exact HK1.out.set_ 1 _
        have ho2 : OR wr.heap.size W2 (Value.slice none 0 0) ([] : List Rw) := by rw [← hW2]; exact World.ownsRow_nil _ _ _ _
        have z0 : W2.cell? ⟨wr.heap.size, 0, none⟩ = some (.string nm) := hk2.cell 0
        have z1 : W2.cell? ⟨wr.heap.size, 1, none⟩ = some (Value.slice none 0 0) := hk2.cell 1
        have HO2 := Lib.hid ho2
        have HS2 := Lib.hid hS
        have hfs2 := HFS.out.below hS
        have hfs3 : FS w.heap.size (W2.alloc (.cells #[.string nm, Value.slice none 0 0] 43)) u3 x := hfs2.below ((Below.refl _ _).alloc (Nat.le_refl _) _)
        have HFS3 := Lib.hid hfs3
        have HAP := Lib.hid (show ∀ t ∈ x, t.2.1.ownBlock = none ∨ t.2.1.ownBlock ≠ (Value.slice none 0 0).ownBlock from fun t ht => by
          cases ht2 : t.2.1.ownBlock with
          | none => exact .inl rfl
          | some k => exact .inr (fun e => by
              have h1 := ((HFS.out.rows t ht).lt k ht2).2
              have h2 := (HO2.out.lt k e.symm).1
              omega))
        clear hW2 hk2 ho2 hS hfs2 hfs3
        go_wp2_with (at_builtin; refine wpList_append_lies _ rfl _ _ 32 rfl w.heap.size 43 i30 (.agg #[.string ByteArray.empty, .slice none 0 0]) 2 40 und30 hi30 hz30 hs30 hb30 rfl (by decide) u3 x.length (tcs x) rfl HFS3.out.own ⟨W2.heap.size, 0, none⟩ 1 1 [.string nm, Value.slice none 0 0] rfl rfl ?n1 ?n2 (by decide) ?n3 ?n4 ?n5 _ rfl ?_)
        all_goals first
          | exact one_two (heap_alloc_new _ _)
          | (intro q hq; simp at hq; rcases hq with rfl | rfl <;> rfl)
          | (have := HXL.out; have := HF1.out; have := HLT.out; unfold maxLen; omega)
          | (have := HXL.out; have := HF1.out; have := HLT.out; omega)
          | (have := HS2.out.size; have := HB.out.size; simp; omega)
          | skip
        intro g9 cap9 w9 hown9 hgr9 hat9 hlt9
        have hfs9 := FS.snoc HFS3.out nm (Value.slice none 0 0) ([] : List Rw) (own_mono (own_below HO2.out ((Below.refl _ _).alloc (Nat.le_refl _) _)) HB.out.size) HAP.out hgr9 hown9
        have hb9 : Below w.heap.size w w9 := ((HB.out.trans (HS2.out.mono HB.out.size)).alloc (by have := HS2.out.size; have := HB.out.size; omega) _).grown hgr9 (by have := HS2.out.size; have := HB.out.size; simp; omega) (fun k hk => (HFS3.out.own.lt k hk).1)
        have HF9 := Lib.hid hfs9
        have HB9 := Lib.hid hb9
        clear hown9 hgr9 hat9 hlt9 hfs9 hb9 z0 z1
        go_wp2
        go_roundg gk
        case measure => exact Nat.lt_succ_self _
        case rel => exact ⟨i1, _, rfl, by have := HI1.out; have := HI.out; omega, HF9.out, HTN.out _, HB9.out⟩
      | cons r0 rs0 =>
        obtain ⟨rs, hrs⟩ : ∃ rs, r0 :: rs0 = rs := ⟨_, rfl⟩
        have HP : Hid (0 < rs.length) := Lib.hid (by rw [← hrs]; exact Nat.succ_pos _)
        rw [hrs] at HSZ HTN HU HX1 ⊢
        try rw [hrs] at x1
        obtain ⟨ad, rfl, _⟩ := HU.out.src HP.out
        have HAD := Lib.hid (fun (W : World) (hW : Below wr.heap.size wr W) => src_of (HU.out.below hW) HP.out)
        refine wpAnyH_ready (rs := [7]) (by kernel_rfl) (by simp) (AllReadyH.cons rfl (fun K hK => ?_) AllReadyH.nil)
        refine step_append_lies _ rfl _ _ 36 rfl wr.heap.size 45 i31 (.agg #[.int .i64 0, .int .i64 0]) 2 16 und31 hi31 hz31 hs31 hb31 rfl (by decide) (.slice none 0 0) 0 [] rfl (World.ownsRow_nil _ _ _ _) ad rs.length ucap (rcs rs) rfl (rcs_len rs) ?e1 (rcs_one rs) HP.out ?e2 ?e3 ?e4 _ rfl ?_
        case e1 => exact HAD.out _ hS
        case e2 => have := HSZ.out.2; unfold maxLen; omega
        case e3 => have := HSZ.out.2; omega
        case e4 => have := hS.size; omega
        intro g6 cap6 w6 hown6 hgr6 hat6 hlt6
        have hb6 : Below wr.heap.size wr w6 := hS.grown hgr6 hS.size (fun k hk => by cases hk)
        have HK6 := Lib.hid (HK1.out.drewN 1 |>.grown hgr6 (fun e => by cases e))
        have ho6 : OR wr.heap.size w6 (.slice (some ⟨g6, 0, none⟩) (0 + rs.length) cap6) rs := by unfold OR; rw [Nat.zero_add]; rw [Nat.zero_add] at hown6; exact hown6
        rw [Nat.zero_add] at ho6
        try rw [Nat.zero_add]
        have HO6 := Lib.hid ho6
        clear hown6 hgr6 hat6 hlt6 ho6
        refine hK.out _ _ ?_ (fun hSn => ?_)
        · exact hb6
        clear hK K hS
        have hS := hSn
        clear hSn
        try dsimp only at hS
        try simp only [Act.put, List.getElem_toArray, List.getElem_cons_succ, List.getElem_cons_zero, List.setIfInBounds_toArray, List.set_cons_zero, List.set_cons_succ]
        refine wpAnyH_take (i := 8) (v := ?_) rfl (by kernel_rfl) (by kernel_rfl) (by kernel_rfl) (fun _ _ _ h => h) (Or.inl ⟨by kernel_rfl, ?_⟩) hS ?_
        rotate_left
        · intro wz hSz; try dsimp only at hSz
          have x1z := (hSz.cell (p := ⟨b, o + i * 2 + 1, none⟩) HXB.out).trans HX1.out
          go_simp
          all_goals with_reducible rfl
        try simp only [Act.put, List.getElem_toArray, List.getElem_cons_succ, List.getElem_cons_zero, List.setIfInBounds_toArray, List.set_cons_zero, List.set_cons_succ]
        have c6 : w6.cell? ⟨wr.heap.size, 1, none⟩ = some (.slice none 0 0) := HK6.out.cell 1
        have f6 : w6.frozen? ⟨wr.heap.size, 1, none⟩ = false := HK6.out.frozen 1
        refine wpAnyH_ready (rs := [9]) (by kernel_rfl) (by simp) (AllReadyH.cons rfl (fun K hK => ?_) AllReadyH.nil)
        go_simp
        refine hK.out _ _ ?_ (fun hSn => ?_)
        · exact hS.setCell (p := ⟨wr.heap.size, 1, none⟩) (Nat.le_refl _) _
        clear hK K hS
        have hS := hSn
        clear hSn
        try dsimp only at hS
        try simp only [Act.put, List.getElem_toArray, List.getElem_cons_succ, List.getElem_cons_zero, List.setIfInBounds_toArray, List.set_cons_zero, List.set_cons_succ]
        refine wpAnyH_done (by kernel_rfl) ?_ _
        obtain ⟨W2, hW2⟩ : ∃ W2, w6.setCell ⟨wr.heap.size, 1, none⟩ (.slice (some ⟨g6, 0, none⟩) rs.length cap6) = W2 := ⟨_, rfl⟩
        rw [hW2] at hS ⊢
        have hk2 : Blk W2 wr.heap.size 43 #[.string nm, Value.slice (some ⟨g6, 0, none⟩) rs.length cap6] := by rw [← hW2]; exact HK6.out.set_ 1 _
        have ho2 : OR wr.heap.size W2 (Value.slice (some ⟨g6, 0, none⟩) rs.length cap6) rs := by rw [← hW2]; exact own_far HO6.out HK6.out
        have z0 : W2.cell? ⟨wr.heap.size, 0, none⟩ = some (.string nm) := hk2.cell 0
        have z1 : W2.cell? ⟨wr.heap.size, 1, none⟩ = some (Value.slice (some ⟨g6, 0, none⟩) rs.length cap6) := hk2.cell 1
        have HO2 := Lib.hid ho2
        have HS2 := Lib.hid hS
        have hfs2 := HFS.out.below hS
        have hfs3 : FS w.heap.size (W2.alloc (.cells #[.string nm, Value.slice (some ⟨g6, 0, none⟩) rs.length cap6] 43)) u3 x := hfs2.below ((Below.refl _ _).alloc (Nat.le_refl _) _)
        have HFS3 := Lib.hid hfs3
        have HAP := Lib.hid (show ∀ t ∈ x, t.2.1.ownBlock = none ∨ t.2.1.ownBlock ≠ (Value.slice (some ⟨g6, 0, none⟩) rs.length cap6).ownBlock from fun t ht => by
          cases ht2 : t.2.1.ownBlock with
          | none => exact .inl rfl
          | some k => exact .inr (fun e => by
              have h1 := ((HFS.out.rows t ht).lt k ht2).2
              have h2 := (HO2.out.lt k e.symm).1
              omega))
        clear hW2 hk2 ho2 hS hfs2 hfs3
        go_wp2_with (at_builtin; refine wpList_append_lies _ rfl _ _ 32 rfl w.heap.size 43 i30 (.agg #[.string ByteArray.empty, .slice none 0 0]) 2 40 und30 hi30 hz30 hs30 hb30 rfl (by decide) u3 x.length (tcs x) rfl HFS3.out.own ⟨W2.heap.size, 0, none⟩ 1 1 [.string nm, Value.slice (some ⟨g6, 0, none⟩) rs.length cap6] rfl rfl ?c1 ?c2 (by decide) ?c3 ?c4 ?c5 _ rfl ?_)
        all_goals first
          | exact one_two (heap_alloc_new _ _)
          | (intro q hq; simp at hq; rcases hq with rfl | rfl <;> rfl)
          | (have := HXL.out; have := HF1.out; have := HLT.out; unfold maxLen; omega)
          | (have := HXL.out; have := HF1.out; have := HLT.out; omega)
          | (have := HS2.out.size; have := HB.out.size; simp; omega)
          | skip
        intro g9 cap9 w9 hown9 hgr9 hat9 hlt9
        have hfs9 := FS.snoc HFS3.out nm (Value.slice (some ⟨g6, 0, none⟩) rs.length cap6) rs (own_mono (own_below HO2.out ((Below.refl _ _).alloc (Nat.le_refl _) _)) HB.out.size) HAP.out hgr9 hown9
        have hb9 : Below w.heap.size w w9 := ((HB.out.trans (HS2.out.mono HB.out.size)).alloc (by have := HS2.out.size; have := HB.out.size; omega) _).grown hgr9 (by have := HS2.out.size; have := HB.out.size; simp; omega) (fun k hk => (HFS3.out.own.lt k hk).1)
        have HF9 := Lib.hid hfs9
        have HB9 := Lib.hid hb9
        clear hown9 hgr9 hat9 hlt9 hfs9 hb9 z0 z1
        go_wp2
        go_roundg gk
        case measure => exact Nat.lt_succ_self _
        case rel => exact ⟨i1, _, rfl, by have := HI1.out; have := HI.out; omega, HF9.out, HTN.out _, HB9.out⟩
end Go.Proofs.YtjloookjlnmgdaaGreatDoor
namespace Go.Proofs.YtjloookjlnmgdaaGreatDoor
open Go.ChangeShapes Go.WideShapes Go.ChangeAt Go.RowKit
set_option maxRecDepth 100000
set_option linter.unusedVariables false
set_option linter.unusedSimpArgs false

theorem light8r (v : Value) (s : List Tb) (b : Bool) (hb : lightS s = b) (w : World) (h : SR w v s) :
    Calls Tryz.prog 14 #[v] w fun e w' => e = .returned (.bool b) ∧ Below w.heap.size w w' := by
  refine (light8_any v s w h).mono ?_
  rintro e w' ⟨he, n, rfl⟩
  exact ⟨by rw [he, hb], belN _ _ _⟩
theorem few_r {s : List Tb} (h : FewS s) : FewR s := ⟨h.1, fun t ht => (h.2 t ht).2⟩
theorem sameR (v1 v2 : Value) (s t : List Tb) (R : Bool) (hR : decide (s = t) = R) (hf : FewS s) (w : World) (h1 : SR w v1 s) (h2 : SR w v2 t) : Calls Tryz.prog 25 #[v1, v2] w fun e w' => e = .returned (.bool R) ∧ Below w.heap.size w w' := by
  subst hR
  exact same_any v1 v2 s t w h1 h2 (few_r hf)
theorem rsameR (v1 v2 : Value) (s t : List Tb) (R : Bool) (hR : decide (s = t) = R) (hf : FewS s) (w : World) (h1 : SR w v1 s) (h2 : SR w v2 t) : Calls Tryz.prog 22 #[v1, v2] w fun e w' => e = .returned (.bool R) ∧ Below w.heap.size w w' := by
  subst hR
  refine (rsame_any v1 v2 s t w h1 h2 (few_r hf)).mono ?_
  rintro e w' ⟨he, n, rfl⟩
  exact ⟨he, belN _ _ _⟩
theorem FS.srT {B : Nat} {w : World} {v : Value} {x : List Tv} {s : List Tb} (h : FS B w v x) (e : tbs x = s) : SR w v s := by
  subst e; exact h.sr
set_option maxHeartbeats 8000000 in
theorem sa_light (a b : Value) (s t : List Tb) (m : Int) (w : World) (hm : Wq m w) (h : SR w a s) (h2 : SR w b t) (hl : lightS s = false) :
    Calls Tryz.prog 5 #[a, b] w fun e w' => e = .returned (.bool true) ∧ Below w.heap.size w w' := by
  have HM0 := Lib.hid hm
  have HB0 := Lib.hid (Below.refl w.heap.size w)
  have HSR := Lib.hid h
  have HSB := Lib.hid h2
  have HA0 := Lib.hid h
  obtain ⟨va0, vc0, rfl⟩ := h.form
  obtain ⟨vb0, vd0, rfl⟩ := h2.form
  clear hm h h2
  go_enter Tryz.func5, Tryz.ntmps5
  go_wp2_with fail
  refine (light8r _ s false hl _ HSR.out).mono ?_
  rintro e w1 ⟨rfl, hb1⟩
  have HB1 := Lib.hid (HB0.out.trans (hb1.mono HB0.out.size))
  have HM1 := Lib.hid (HM0.out.below hb1)
  have HSR := Lib.hid (HSR.out.below hb1)
  have HSB := Lib.hid (HSB.out.below hb1)
  clear hb1
  go_wp2_with fail
  refine (known8_any m _ HM1.out).mono ?_
  rintro e w2 ⟨rfl, hb2⟩
  have HB2 := Lib.hid (HB1.out.trans (hb2.mono HB1.out.size))
  have HM2 := Lib.hid (HM1.out.below hb2)
  have HSR := Lib.hid (HSR.out.below hb2)
  have HSB := Lib.hid (HSB.out.below hb2)
  clear hb2
  go_wp2
  go_ret
  exact ⟨rfl, HB2.out⟩
set_option maxHeartbeats 8000000 in
theorem sa_light2 (a b : Value) (s t : List Tb) (m : Int) (w : World) (hm : Wq m w) (h : SR w a s) (h2 : SR w b t) (hl : lightS s = true) (hl2 : lightS t = false) :
    Calls Tryz.prog 5 #[a, b] w fun e w' => e = .returned (.bool true) ∧ Below w.heap.size w w' := by
  have HM0 := Lib.hid hm
  have HB0 := Lib.hid (Below.refl w.heap.size w)
  have HSR := Lib.hid h
  have HSB := Lib.hid h2
  have HA0 := Lib.hid h
  obtain ⟨va0, vc0, rfl⟩ := h.form
  obtain ⟨vb0, vd0, rfl⟩ := h2.form
  clear hm h h2
  go_enter Tryz.func5, Tryz.ntmps5
  go_wp2_with fail
  refine (light8r _ s true hl _ HSR.out).mono ?_
  rintro e w1 ⟨rfl, hb1⟩
  have HB1 := Lib.hid (HB0.out.trans (hb1.mono HB0.out.size))
  have HM1 := Lib.hid (HM0.out.below hb1)
  have HSR := Lib.hid (HSR.out.below hb1)
  have HSB := Lib.hid (HSB.out.below hb1)
  clear hb1
  go_wp2_with fail
  refine (light8r _ t false hl2 _ HSB.out).mono ?_
  rintro e w2 ⟨rfl, hb2⟩
  have HB2 := Lib.hid (HB1.out.trans (hb2.mono HB1.out.size))
  have HM2 := Lib.hid (HM1.out.below hb2)
  have HSR := Lib.hid (HSR.out.below hb2)
  have HSB := Lib.hid (HSB.out.below hb2)
  clear hb2
  go_wp2_with fail
  refine (known8_any m _ HM2.out).mono ?_
  rintro e w3 ⟨rfl, hb3⟩
  have HB3 := Lib.hid (HB2.out.trans (hb3.mono HB2.out.size))
  have HM3 := Lib.hid (HM2.out.below hb3)
  have HSR := Lib.hid (HSR.out.below hb3)
  have HSB := Lib.hid (HSB.out.below hb3)
  clear hb3
  go_wp2
  go_ret
  exact ⟨rfl, HB3.out⟩
set_option maxHeartbeats 8000000 in
theorem sa_main (a b : Value) (s t : List Tb) (m : Int) (w : World) (hm : Wq m w) (h : SR w a s) (h2 : SR w b t) (hl : lightS s = true) (hl2 : lightS t = true) :
    Calls Tryz.prog 5 #[a, b] w fun e w' => e = .returned (.bool true) ∧ Below w.heap.size w w' := by
  have HF := Lib.hid (light_few hl)
  have HL : Hid (s.length ≤ 1000000) := Lib.hid (light_few hl).1
  obtain ⟨R, hR⟩ : ∃ R, decide (s = t) = R := ⟨_, rfl⟩
  have eRR : (R == R) = true := beq_self_eq_true R
  have HR := Lib.hid hR
  clear hR
  have HM0 := Lib.hid hm
  have HB0 := Lib.hid (Below.refl w.heap.size w)
  have HSR := Lib.hid h
  have HSB := Lib.hid h2
  have HA0 := Lib.hid h
  obtain ⟨va0, vc0, rfl⟩ := h.form
  obtain ⟨vb0, vd0, rfl⟩ := h2.form
  clear hm h h2
  go_enter Tryz.func5, Tryz.ntmps5
  go_wp2_with fail
  refine (light8r _ s true hl _ HSR.out).mono ?_
  rintro e w1 ⟨rfl, hb1⟩
  have HB1 := Lib.hid (HB0.out.trans (hb1.mono HB0.out.size))
  have HM1 := Lib.hid (HM0.out.below hb1)
  have HSR := Lib.hid (HSR.out.below hb1)
  have HSB := Lib.hid (HSB.out.below hb1)
  clear hb1
  go_wp2_with fail
  refine (light8r _ t true hl2 _ HSB.out).mono ?_
  rintro e w2 ⟨rfl, hb2⟩
  have HB2 := Lib.hid (HB1.out.trans (hb2.mono HB1.out.size))
  have HM2 := Lib.hid (HM1.out.below hb2)
  have HSR := Lib.hid (HSR.out.below hb2)
  have HSB := Lib.hid (HSB.out.below hb2)
  clear hb2
  go_wp2_with fail
  refine (copy_any _ s _ HSR.out HF.out).mono ?_
  rintro e w3 ⟨gc, xc, rfl, hg0, hfs, hts, htg, hb3⟩
  have HB3 := Lib.hid (HB2.out.trans (hb3.mono HB2.out.size))
  have HM3 := Lib.hid (HM2.out.below hb3)
  have HSR := Lib.hid (HSR.out.below hb3)
  have HSB := Lib.hid (HSB.out.below hb3)
  have HC := Lib.hid hfs
  have HCS := Lib.hid (FS.srT hfs hts)
  have HG0 := Lib.hid hg0
  have HG3 := Lib.hid (hfs.own.lt gc rfl).2
  have HLO := Lib.hid (show ∀ q ∈ xc, ∀ k, q.2.1.ownBlock = some k → k < w3.heap.size from fun q hq k hk => ((hfs.rows q hq).lt k hk).2)
  have HFW := Lib.hid (show ∀ q ∈ xc, q.2.2.length ≤ 1000000 from fun q hq => (HF.out.2 (q.1, q.2.2) (by rw [← hts]; exact List.mem_map.2 ⟨q, hq, rfl⟩)).2)
  have HXL := Lib.hid (show xc.length = s.length by rw [← tbs_len, hts])
  clear hfs hts htg hg0
  clear hb3
  go_wp2_with fail
  refine (rcopy_any _ s _ HSR.out HF.out).mono ?_
  rintro e w4 ⟨vw, y, rfl, hfs, hts, hb4⟩
  have HB4 := Lib.hid (HB3.out.trans (hb4.mono HB3.out.size))
  have HM4 := Lib.hid (HM3.out.below hb4)
  have HSR := Lib.hid (HSR.out.below hb4)
  have HSB := Lib.hid (HSB.out.below hb4)
  have HC := Lib.hid (HC.out.below hb4)
  have HCS := Lib.hid (HCS.out.below hb4)
  have HW := Lib.hid hfs
  have HTY := Lib.hid hts
  clear hfs hts
  clear hb4
  go_wp2_with fail
  refine (sameR _ _ s t R HR.out HF.out _ HSR.out HSB.out).mono ?_
  rintro e w5 ⟨rfl, hb5⟩
  have HB5 := Lib.hid (HB4.out.trans (hb5.mono HB4.out.size))
  have HM5 := Lib.hid (HM4.out.below hb5)
  have HSR := Lib.hid (HSR.out.below hb5)
  have HSB := Lib.hid (HSB.out.below hb5)
  have HC := Lib.hid (HC.out.below hb5)
  have HCS := Lib.hid (HCS.out.below hb5)
  have HW := Lib.hid (HW.out.below hb5)
  clear hb5
  go_wp2_with fail
  refine (rsameR _ _ s t R HR.out HF.out _ HSR.out HSB.out).mono ?_
  rintro e w6 ⟨rfl, hb6⟩
  have HB6 := Lib.hid (HB5.out.trans (hb6.mono HB5.out.size))
  have HM6 := Lib.hid (HM5.out.below hb6)
  have HSR := Lib.hid (HSR.out.below hb6)
  have HSB := Lib.hid (HSB.out.below hb6)
  have HC := Lib.hid (HC.out.below hb6)
  have HCS := Lib.hid (HCS.out.below hb6)
  have HW := Lib.hid (HW.out.below hb6)
  clear hb6
  go_wp2_with fail
  refine (sameR _ _ s s true (decide_eq_true rfl) HF.out _ HSR.out HCS.out).mono ?_
  rintro e w7 ⟨rfl, hb7⟩
  have HB7 := Lib.hid (HB6.out.trans (hb7.mono HB6.out.size))
  have HM7 := Lib.hid (HM6.out.below hb7)
  have HSR := Lib.hid (HSR.out.below hb7)
  have HSB := Lib.hid (HSB.out.below hb7)
  have HC := Lib.hid (HC.out.below hb7)
  have HCS := Lib.hid (HCS.out.below hb7)
  have HW := Lib.hid (HW.out.below hb7)
  clear hb7
  go_wp2_with fail
  refine (rsameR _ _ s s true (decide_eq_true rfl) HF.out _ HSR.out HCS.out).mono ?_
  rintro e w8 ⟨rfl, hb8⟩
  have HB8 := Lib.hid (HB7.out.trans (hb8.mono HB7.out.size))
  have HM8 := Lib.hid (HM7.out.below hb8)
  have HSR := Lib.hid (HSR.out.below hb8)
  have HSB := Lib.hid (HSB.out.below hb8)
  have HC := Lib.hid (HC.out.below hb8)
  have HCS := Lib.hid (HCS.out.below hb8)
  have HW := Lib.hid (HW.out.below hb8)
  clear hb8
  have HSP : Hid (Spo w.heap.size w3.heap.size gc s.length s.length vw y w w8 xc) := Lib.hid ⟨by rw [HXL.out]; exact HC.out.mono HB2.out.size, HXL.out, HLO.out, HFW.out, HG3.out, HW.out, HB8.out⟩
  clear eRR
  go_wp2_with fail
  go_loopg [8] s.length (fun gk u8 wx => ∃ (i : Nat) (X : List Tv), u8 = .int .i64 (i : Int) ∧ i + gk = s.length ∧ Spo w.heap.size w3.heap.size gc s.length s.length vw y w wx X)
  case atStart => exact ⟨0, xc, rfl, by omega, HSP.out⟩
  case round =>
    obtain ⟨i, X, rfl, hi, hS⟩ := hrel
    have HS := Lib.hid hS
    have HI := Lib.hid hi
    cases gk with
    | zero =>
      have l1 : ¬ ((i : Int) < (s.length : Int)) := by omega
      have HAR := Lib.hid (HA0.out.below hS.bel)
      have HWR := Lib.hid (FS.srT hS.was HTY.out)
      have HMR := Lib.hid (HM0.out.below hS.bel)
      have HBR := Lib.hid hS.bel
      clear hi hS
      go_wp2_with fail
      refine (rsameR _ _ s s true (decide_eq_true rfl) HF.out _ HAR.out HWR.out).mono ?_
      rintro e w9 ⟨rfl, hb9⟩
      have HB9 := Lib.hid (HBR.out.trans (hb9.mono HBR.out.size))
      have HM9 := Lib.hid (HMR.out.below hb9)
      clear hb9
      go_wp2_with fail
      refine (known8_any m _ HM9.out).mono ?_
      rintro e w10 ⟨rfl, hb10⟩
      have HB10 := Lib.hid (HB9.out.trans (hb10.mono HB9.out.size))
      clear hb10
      go_wp2
      go_ret
      exact ⟨rfl, HB10.out⟩
    | succ gko =>
      have hlt : i < s.length := by omega
      have hxl : i < X.length := by rw [hS.len]; exact hlt
      obtain ⟨q, hq0⟩ : ∃ q, X[i] = q := ⟨_, rfl⟩
      have hXi : X[i]? = some q := by rw [List.getElem?_eq_getElem hxl, hq0]
      obtain ⟨nm, u, l⟩ := q
      have hfs := hS.fs
      obtain ⟨c0, c1⟩ := FS.at_ hfs i _ hXi
      have f0 := World.ownsRow.frozenAt hfs.own (i * 2)
      have hll : l.length ≤ 1000000 := hS.few _ (List.mem_of_getElem? hXi)
      have HLL := Lib.hid hll
      have l0 : (0 : Int) ≤ (i : Int) := by omega
      have l1 : (i : Int) < (s.length : Int) := by omega
      obtain ⟨i1, hi1⟩ : ∃ i1, i + 1 = i1 := ⟨_, rfl⟩
      have wk : IntKind.i64.wrap ((i : Int) + 1) = (i1 : Int) := by rw [show (i : Int) + 1 = (i1 : Int) by omega]; exact IntWalk.i64_in _ (by have := HL.out; omega)
      have HI1 := Lib.hid hi1
      obtain ⟨sp, hsp⟩ : ∃ sp : ByteArray, (⟨#[115, 112, 111, 105, 108, 116]⟩ : ByteArray) = sp := ⟨_, rfl⟩
      have HN := Lib.hid (hS.name i _ hXi sp)
      have HXI := Lib.hid (show (X.set i (sp, u, l))[i]? = some (sp, u, l) by rw [List.getElem?_set, if_pos rfl, if_pos hxl])
      have HXS := Lib.hid hxl
      clear hi hS hlt hxl hq0 hXi hfs hi1 hll
      go_wp2_with fail
      obtain ⟨W1, hW1⟩ : ∃ W1, wr.setCell ⟨gc, i * 2, none⟩ (.string sp) = W1 := ⟨_, rfl⟩
      rw [hW1]
      rw [hW1] at HN
      clear c0 c1 f0 hW1 hsp
      go_loopg [9] l.length (fun gk u9 wx => ∃ (k : Nat) (Y : List Tv) (r : List Rw), u9 = .int .i64 (k : Int) ∧ k + gk = l.length ∧ r.length = l.length ∧ Y[i]? = some (sp, u, r) ∧ Spo w.heap.size w3.heap.size gc s.length s.length vw y w wx Y)
      case atStart => exact ⟨0, _, l, rfl, by omega, rfl, HXI.out, HN.out⟩
      case round =>
        obtain ⟨k, Y, r, rfl, hk, hr, hYi, hS⟩ := hrel
        have HS1 := Lib.hid hS
        have HK := Lib.hid hk
        have HR1 := Lib.hid hr
        have HY := Lib.hid hYi
        have hfs := hS.fs
        have hyl : i < Y.length := (List.getElem?_eq_some_iff.1 hYi).1
        have HYL := Lib.hid hyl
        obtain ⟨c0, c1⟩ := FS.at_ hfs i _ hYi
        have hor : OR w.heap.size wr u r := hfs.rows _ (List.mem_of_getElem? hYi)
        cases gk with
        | zero =>
          obtain ⟨ua, uc, rfl⟩ := own_sh2 hor
          have l2 : ¬ ((k : Int) < (r.length : Int)) := by omega
          clear hk hr hYi hS hfs hyl hor
          go_wp2
          go_roundg gko
          case measure => exact Nat.lt_succ_self _
          case rel => exact ⟨i1, Y, rfl, by have := HI1.out; have := HI.out; omega, HS1.out⟩
        | succ gk =>
          have hkl : k < r.length := by omega
          obtain ⟨hb, uc, rfl, hBh, hhl⟩ := World.ownsRow.form hor (by omega)
          obtain ⟨rk, hrk⟩ : ∃ rk, r[k] = rk := ⟨_, rfl⟩
          have hrk2 : r[k]? = some rk := by rw [List.getElem?_eq_getElem hkl, hrk]
          have f2 := World.ownsRow.frozenAt hor (k * 2)
          have d2 := (World.ownsRow.cellAt hor (k * 2) (by omega)).trans (rcs_at r k rk hrk2).1
          have l2 : (k : Int) < (r.length : Int) := by omega
          have l3 : (0 : Int) ≤ (k : Int) := by omega
          obtain ⟨k1, hk1⟩ : ∃ k1, k + 1 = k1 := ⟨_, rfl⟩
          have wk2 : IntKind.i64.wrap ((k : Int) + 1) = (k1 : Int) := by rw [show (k : Int) + 1 = (k1 : Int) by omega]; exact IntWalk.i64_in _ (by have := HLL.out; omega)
          have HK1 := Lib.hid hk1
          have HRW := Lib.hid (hS.row i _ hb uc r hYi k rk hrk2 (-7))
          have HYN := Lib.hid (show (Y.set i (sp, .slice (some ⟨hb, 0, none⟩) r.length uc, r.set k (-7, rk.2)))[i]? = some (sp, .slice (some ⟨hb, 0, none⟩) r.length uc, r.set k (-7, rk.2)) by rw [List.getElem?_set, if_pos rfl, if_pos hyl])
          clear hk hr hYi hS hfs hyl hor hkl hrk hrk2 hk1
          go_wp2
          go_roundg gk
          case measure => exact Nat.lt_succ_self _
          case rel => exact ⟨k1, _, _, rfl, by have := HK1.out; have := HK.out; omega, by rw [List.length_set]; exact HR1.out, HYN.out, HRW.out⟩
theorem sames_any (a b : Value) (m : Int) (w : World) (hm : Wq m w) (ha : FitsS w a) (hb : FitsS w b) :
    Calls Tryz.prog 5 #[a, b] w fun e w' => e = .returned (.bool true) ∧ Below w.heap.size w w' := by
  obtain ⟨s, h⟩ := ha
  obtain ⟨t, h2⟩ := hb
  cases hl : lightS s with
  | false => exact sa_light a b s t m w hm h h2 hl
  | true =>
    cases hl2 : lightS t with
    | false => exact sa_light2 a b s t m w hm h h2 hl hl2
    | true => exact sa_main a b s t m w hm h h2 hl hl2
end Go.Proofs.YtjloookjlnmgdaaGreatDoor
