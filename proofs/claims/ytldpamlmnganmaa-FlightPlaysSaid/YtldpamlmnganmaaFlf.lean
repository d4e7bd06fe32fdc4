/- Package flight: lists of numbers in memory; line, the followers in the order in which they came. Conditions: how many. -/
import Derived.Test.YtldpamlmnganmaaFle
import Derived.Test.YtldpamlmnganmaaItrI
import Derived.Deep.LoopGhost
import Derived.Deep.AppendLies
import Derived.Deep.RegionWith
namespace Go.Proofs.Ytldpamlmnganmaa.FL
open Go.ChangeShapes Go.WideShapes Go.ChangeAt Go.RowKit Go.Maps Go.ChangeMaps
open Go.Proofs.Ytldpamlmnganmaa.SL
set_option maxRecDepth 100000
set_option linter.unusedVariables false
set_option linter.unusedSimpArgs false

abbrev nV (n : Int) : Value := .int .i64 n
/-- the call owns the numbers -/
def OI (B : Nat) (w : World) (v : Value) (d : List Int) : Prop := w.ownsRow B 3 1 v d.length (d.map nV)
/-- v is a slice of numbers that reads as d -/
def IS (w : World) (v : Value) (d : List Int) : Prop :=
  (∃ A cap, v = .slice A 0 cap ∧ d = []) ∨ ∃ h off cap cs fr, v = .slice (some ⟨h, off, none⟩) d.length cap ∧ d.length ≤ cap ∧ w.heap[h]? = some (.cells cs 3 fr) ∧ ∀ (i : Nat) (x : Int), d[i]? = some x → cs[off + i]? = some (nV x)
/-- blocks of numbers are as they were -/
def Ki (w w' : World) : Prop := ∀ (b : Nat) (cs : Array Value) (fr : Nat × Nat), w.heap[b]? = some (.cells cs 3 fr) → w'.heap[b]? = w.heap[b]?
section
variable {w w' : World} {v : Value} {d : List Int} {B : Nat}
theorem IS.ki (h : IS w v d) (hk : Ki w w') : IS w' v d := by
  rcases h with h | ⟨b, off, cap, cs, fr, e, hc, hb, hx⟩
  · exact .inl h
  · exact .inr ⟨b, off, cap, cs, fr, e, hc, (hk b cs fr hb).trans hb, hx⟩
theorem Ki.below (h : Below w.heap.size w w') : Ki w w' := fun b cs fr hb => h.block b (Array.getElem?_eq_some_iff.1 hb).1
theorem IS.below (h : IS w v d) (hb : Below w.heap.size w w') : IS w' v d := h.ki (.below hb)
theorem IS.form (h : IS w v d) : ∃ a cap, v = .slice a d.length cap := by
  rcases h with ⟨A, cap, rfl, rfl⟩ | ⟨h, off, cap, cs, fr, rfl, _⟩
  · exact ⟨_, _, rfl⟩
  · exact ⟨_, _, rfl⟩
theorem IS.nil (w : World) : IS w (.slice none 0 0) [] := .inl ⟨_, _, rfl, rfl⟩
theorem IS.at_ (h : IS w v d) (hp : 0 < d.length) : ∃ b off cap, v = .slice (some ⟨b, off, none⟩) d.length cap ∧ d.length ≤ cap ∧ ∀ (i : Nat) (x : Int), d[i]? = some x → w.cell? ⟨b, off + i, none⟩ = some (nV x) := by
  rcases h with ⟨A, cap, rfl, rfl⟩ | ⟨b, off, cap, cs, fr, e, hc, hb, hx⟩
  · simp at hp
  · exact ⟨b, off, cap, e, hc, fun i x hi => (cell_of_row w b (off + i) cs _ fr hb).trans (hx i x hi)⟩
theorem OI.is (h : OI B w v d) : IS w v d := by
  rcases h.2 with ⟨rfl, hz⟩ | ⟨g, cap, cur, rfl, hb, hh, hc, hm, hs, ht⟩
  · exact .inl ⟨none, 0, rfl, List.eq_nil_of_length_eq_zero hz⟩
  · refine .inr ⟨g, 0, cap, cur, _, rfl, hc, hh, fun i x hi => ?_⟩
    have := World.ownsRow.cells h (g := g) rfl i (nV x) (by rw [List.getElem?_map, hi]; rfl)
    rw [Addr.add_lit, Nat.zero_add, cell_of_row w g i cur _ _ hh] at this
    rw [Nat.zero_add]; exact this
theorem OI.keep (h : OI B w v d) (hk : ∀ g, v.ownBlock = some g → w'.heap[g]? = w.heap[g]?) : OI B w' v d := by
  refine ⟨h.1, ?_⟩
  rcases h.2 with h2 | ⟨g, cap, cur, rfl, hb, hg, hr⟩
  · exact .inl h2
  · exact .inr ⟨g, cap, cur, rfl, hb, (hk g rfl).trans hg, hr⟩
theorem OI.below (h : OI B w v d) (hb : Below w.heap.size w w') : OI B w' v d := h.keep fun g hg => hb.block g (World.ownsRow.lt h g hg).2
theorem OI.nil (B : Nat) (w : World) : OI B w (.slice none 0 0) [] := World.ownsRow_nil _ _ _ _
theorem OI.mono (h : OI B w v d) {B' : Nat} (hB : B' ≤ B) : OI B' w v d := by
  refine ⟨h.1, ?_⟩
  rcases h.2 with h2 | ⟨g, cap, cur, rfl, hb, hr⟩
  · exact .inl h2
  · exact .inr ⟨g, cap, cur, rfl, Nat.le_trans hB hb, hr⟩
theorem OI.form (h : OI B w v d) : ∃ a cap, v = .slice a d.length cap := h.is.form
end
theorem sl_oneI {W : World} {b : Nat} {k : Int} (h : Bk W b 3 #[nV k]) : ∀ (i : Nat) (v : Value), [nV k][i]? = some v → W.cell? ((⟨b, 0, none⟩ : Addr).add i) = some v := by
  intro i v hi
  rw [Addr.add_lit, Nat.zero_add]
  rw [h.cell i]
  simpa using hi
theorem iInt : ∃ i, Try.prog.info? 3 = some i ∧ i.zero = some (nV 0) ∧ i.size = 1 ∧ i.bytes = 8 := by
  have h : (Try.prog.info? 3).bind (fun i => if i.size = 1 ∧ i.bytes = 8 then i.zero else none) = some (nV 0) := by kernel_rfl
  cases hi : Try.prog.info? 3 with
  | none => rw [hi] at h; cases h
  | some j =>
    rw [hi] at h
    by_cases hc : j.size = 1 ∧ j.bytes = 8
    · simp [hc] at h
      exact ⟨j, rfl, h, hc.1, hc.2⟩
    · simp [hc] at h
/-- one number more -/
theorem wpList_app_int {w : World} {ops : Array Oper} {rest : List Oper} {o : Oper} {a : Act} {Q : Exit → Act → World → Prop} (B : Nat) (v : Value) (d : List Int) (k : Int) (b : Nat) (hgd : o.guard = none) (s x : Operand)
    (ho : o.op = .call { callee := .builtin .append, args := #[s, x], argTypes := #[40, 40] }) (hs : a.eval s = v) (hown : OI B w v d) (hx : a.eval x = .slice (some ⟨b, 0, none⟩) 1 1) (hb : Bk w b 3 #[nV k])
    (hd : d.length ≤ 1099511627776) (hB : B ≤ w.heap.size)
    (hk : ∀ g cap w', OI B w' (.slice (some ⟨g, 0, none⟩) (d.length + 1) cap) (d ++ [k]) → w.grownBy w' v.ownBlock → wpList Try.prog ops Q rest (a.put o.dst (.slice (some ⟨g, 0, none⟩) (d.length + 1) cap)) w') : wpList Try.prog ops Q (o :: rest) a w := by
  obtain ⟨i, hi, hz, hsz, hby⟩ := iInt
  refine wpList_append_lies _ hgd s x 40 ho B 3 i (nV 0) 1 8 Try.underlying40 hi hz hsz hby rfl (by decide) v d.length (d.map nV) hs hown ⟨b, 0, none⟩ 1 1 [nV k] hx rfl (sl_oneI hb) (by intro u hu; simp at hu; subst hu; rfl) (by decide) (by unfold maxLen; omega) (by omega) hB _ rfl ?_
  intro g cap w' h1 h2 h3 h4
  refine hk g cap w' ?_ h2
  unfold OI
  rw [List.length_append, List.map_append]
  exact h1
/-- the numbers of a flight's followers, sorted, are these -/
theorem RowP.perm {w : World} {N : Nat} {k : Ky} {r : Fr} (h : RowP w N k r) {D0 : DataW Value} (hown : w.ownsMap Try.prog 3 MV.vE r.m r.last D0) (ha : MV.Agr D0 (MV.fI fun j => (lk r.fl j).map nV)) : (r.fl.map (·.1)).Perm (intKeys D0) := by
  obtain ⟨es, hD, hpw, _⟩ := hown.entries iK
  obtain ⟨es', hD', hko⟩ := hown.keysOf
  obtain rfl : es = es' := by rw [hD] at hD'; simpa using hD'
  subst hD
  have hnd : (r.fl.map (·.1)).Nodup := by
    refine List.pairwise_map.2 (h.up.imp ?_)
    intro a b hab e
    omega
  refine perm_intKeys hpw (fun p hp => by obtain ⟨v, hv⟩ := hko p hp; obtain ⟨x, _, hx, _⟩ := Maps.keyOf_i64 Try.underlying3 hv; exact ⟨x, hx⟩) hnd fun x => ?_
  rw [(ha (.int .i64 x) (show WideAt.IsKeyLit (Lit.int .i64 _) from trivial)).1]
  show _ ↔ ((lk r.fl x).map nV).isSome = true
  rw [Option.isSome_map, lk_isSome]
theorem nums_sort {T : List (Int × Int)} (hT : T.Pairwise fun p q => p.1 < q.1) {ss : List Int} (hp : ss.Perm (T.map (·.1))) : (ss.mergeSort fun x y => decide (x ≤ y)) = T.map (·.1) := by
  have tr : ∀ a b c : Int, (decide (a ≤ b)) = true → (decide (b ≤ c)) = true → (decide (a ≤ c)) = true := fun a b c h1 h2 => by simp only [decide_eq_true_eq] at *; omega
  have tot : ∀ a b : Int, (decide (a ≤ b) || decide (b ≤ a)) = true := fun a b => by simp only [Bool.or_eq_true, decide_eq_true_eq]; omega
  refine List.Perm.eq_of_pairwise (le := fun a b => decide (a ≤ b) = true) (fun a b _ _ h1 h2 => ?_) (List.pairwise_mergeSort tr tot ss) ?_ ((List.mergeSort_perm ss _).trans hp)
  · simp only [decide_eq_true_eq] at h1 h2
    omega
  · refine List.pairwise_map.2 (List.Pairwise.imp ?_ hT)
    intro a b h
    exact decide_eq_true (Int.le_of_lt h)
theorem zInt_any (w : World) : (zeroValue 3).run Try.prog w = .ok (nV 0) w := by
  obtain ⟨i, hi, hz, _, _⟩ := iInt
  simp [zeroValue, typeInfo, hi, hz]
/-- 'f.followers[number]' -/
theorem RowP.look {w : World} {N : Nat} {k : Ky} {r : Fr} (h : RowP w N k r) {j c : Int} (hm : (j, c) ∈ r.fl) (hj : I9 j) :
    (Instr.lookup 78 (.map (some r.m)) (nV j) false).run Try.prog w = .ok (nV c) w := by
  have := h.mp.look1 iK Try.underlying78 (zInt_any w) (keyI j hj)
  rw [this]
  simp only [MV.fI, (lk_mem h.up).2 hm]
  rfl
theorem RowP.len {w : World} {N : Nat} {k : Ky} {r : Fr} (h : RowP w N k r) : r.fl.length ≤ N := by
  obtain ⟨D0, hown, ha⟩ := h.mp
  have hsz := hown.size_le
  have hla := h.la
  have := (h.perm hown ha).length_eq
  rw [List.length_map] at this
  have h2 : (intKeys D0).length = Maps.size D0 := by
    obtain ⟨es, hD, _⟩ := hown.entries iK
    subst hD
    simp [intKeys, size_eq]
  omega
def LineP (d : List Int) (w : World) (e : Ending) (w' : World) : Prop := ∃ v, e = .returned v ∧ OI w.heap.size w' v d ∧ Below w.heap.size w w'
set_option maxHeartbeats 4000000 in
theorem line_any {w : World} {N : Nat} {k : Ky} {r : Fr} (h : RowP w N k r) (hN : N ≤ 1000000) :
    Calls Try.prog 35 #[ptr r.g] w (LineP (r.fl.map (·.2)) w) := by
  obtain ⟨D0, hown, ha⟩ := h.mp
  have hsz := hown.size_le
  have hla := h.la
  have HP := Lib.hid (h.perm hown ha)
  have HK := Lib.hid (Try.mapKeys_any (some r.m) w)
  have HS := Lib.hid (Try.sortedKeys_any r.m r.last D0 MV.vE w hown (by unfold maxLen; omega) (by omega))
  have HB := Lib.hid ((Below.refl w.heap.size w).alloc (Nat.le_refl _) (.cells #[.map (some r.m)] 78))
  have c0 : w.cell? ⟨r.g, 6, none⟩ = some (nV r.last) := h.bk.cell 6
  have c5 : w.cell? ⟨r.g, 5, none⟩ = some (.map (some r.m)) := h.bk.cell 5
  have hlen : r.fl.length ≤ 1000000 := by
    have := (h.perm hown ha).length_eq
    rw [List.length_map] at this
    have h2 : (intKeys D0).length = Maps.size D0 := by
      obtain ⟨es, hD, _⟩ := hown.entries iK
      subst hD
      simp [intKeys, size_eq]
    omega
  have HL := Lib.hid hlen
  have H := Lib.hid h
  clear h hown ha hsz hla hlen c0
  go_enter Try.func35, Try.ntmps35
  go_wp2_with fail
  refine HK.out.mono ?_
  rintro e w1 ⟨rfl, hw1⟩
  subst hw1
  go_wp2_with fail
  refine HS.out.mono ?_
  rintro e w2 ⟨v, ss, rfl, hp, hrow, _, hb2⟩
  have HB2 := Lib.hid (HB.out.trans (hb2.mono HB.out.size))
  have hss := nums_sort H.out.up (hp.trans HP.out.symm)
  have hln : ss.length = (r.fl.map (·.1)).length := (hp.trans HP.out.symm).length_eq
  rw [hss, hln] at hrow
  have hlm : (r.fl.map (·.1)).length = r.fl.length := List.length_map ..
  have HROW : Hid (IS w2 v (r.fl.map (·.1))) := Lib.hid (OI.is (B := w.heap.size) (OI.mono (show OI _ w2 v (r.fl.map (·.1)) from hrow) HB.out.size))
  clear hp hrow hb2 hss hln
  obtain ⟨n, hn⟩ : ∃ n, r.fl.length = n := ⟨_, rfl⟩
  obtain ⟨av, cv, hv⟩ := HROW.out.form
  rw [hlm, hn] at hv
  subst hv
  have HN := Lib.hid hn
  have HC : Hid (n ≤ 1000000) := Lib.hid (by rw [← hn]; exact HL.out)
  clear hlm hn HK HS HP HL
  go_wp2
  go_loopg [3, 13] n (fun gk u3 u13 wx => ∃ j : Nat, u13 = .int .i64 (j : Int) ∧ j + gk = n ∧ OI w2.heap.size wx u3 ((r.fl.map (·.2)).take j) ∧ Below w2.heap.size w2 wx)
  case atStart => exact ⟨0, rfl, by omega, OI.nil _ _, Below.refl _ _⟩
  case round =>
    obtain ⟨j, rfl, hj, hot, hbel⟩ := hrel
    have HOT := Lib.hid hot
    have HBE := Lib.hid hbel
    cases gk with
    | zero =>
      have hjn : j = n := by omega
      have HFIN : Hid (OI w2.heap.size wr u3 (r.fl.map (·.2))) := Lib.hid (by rw [List.take_of_length_le (by rw [List.length_map, HN.out, hjn]; exact Nat.le_refl _)] at hot; exact hot)
      have l1 : ¬ ((j : Int) < (n : Int)) := by omega
      clear hot hbel hj hjn
      go_wp2
      go_ret
      exact ⟨_, rfl, HFIN.out.mono HB2.out.size, HB2.out.trans (HBE.out.mono HB2.out.size)⟩
    | succ gk1 =>
      have hlt : j < r.fl.length := by rw [HN.out]; omega
      obtain ⟨b, off, cp, he, hcp, hx⟩ := (HROW.out.below hbel).at_ (by rw [List.length_map]; omega)
      rw [List.length_map, HN.out] at he
      injection he with e1 _ e2
      subst e1 e2
      obtain ⟨pe, hpe⟩ : ∃ e, r.fl[j] = e := ⟨_, rfl⟩
      have hje : r.fl[j]? = some pe := by rw [List.getElem?_eq_getElem hlt, hpe]
      have x0 := hx j pe.1 (by rw [List.getElem?_map, hje]; rfl)
      have hmem : pe ∈ r.fl := List.mem_of_getElem? hje
      have hrow := H.out.keep (w' := wr) ((hbel.block _ (Nat.lt_of_lt_of_le H.out.lt.1 HB2.out.size)).trans (HB2.out.block _ H.out.lt.1)) ((hbel.block _ (Nat.lt_of_lt_of_le H.out.lt.2 HB2.out.size)).trans (HB2.out.block _ H.out.lt.2))
      have hlo := H.out.lo pe hmem
      have hla := H.out.la
      have hlk := fun (w' : World) (hb : Below wr.heap.size wr w') => (hrow.keep (w' := w') (hb.block _ hrow.lt.1) (hb.block _ hrow.lt.2)).look hmem ⟨by omega, by omega⟩
      have g5 : wr.cell? ⟨r.g, 5, none⟩ = some (.map (some r.m)) := hrow.bk.cell 5
      have HLK := Lib.hid hlk
      have l0 : (0 : Int) ≤ (j : Int) := by omega
      have l1 : (j : Int) < (n : Int) := by omega
      have l2 : (j : Int) < ((n : Nat) : Int) := l1
      obtain ⟨j1, hj1⟩ : ∃ j1, j + 1 = j1 := ⟨_, rfl⟩
      have wk : IntKind.i64.wrap ((j : Int) + 1) = (j1 : Int) := by rw [show (j : Int) + 1 = (j1 : Int) by omega]; exact IntWalk.i64_in _ (by have := HC.out; omega)
      have HJ : Hid (j1 + gk1 = n) := Lib.hid (by omega)
      have HKT : Hid ((r.fl.map (·.2)).take j1 = (r.fl.map (·.2)).take j ++ [pe.2]) := Lib.hid (by rw [← hj1, List.take_add_one, List.getElem?_map, hje]; rfl)
      have HJL : Hid (j ≤ n) := Lib.hid (by omega)
      have HWS : Hid (w2.heap.size ≤ wr.heap.size) := Lib.hid hbel.size
      have HTL : Hid (((r.fl.map (·.2)).take j).length ≤ 1000000) := Lib.hid (by rw [List.length_take, List.length_map]; have := HC.out; omega)
      have hlk0 := hlk wr (Below.refl _ _)
      clear hot hbel hj hlt hx hje hj1 hrow hlo hla hlk hmem hpe hcp
      obtain ⟨pn, pc⟩ := pe
      simp only at x0 HKT HLK hlk0
      go_wp2_with (at_builtin; refine wpList_app_int w2.heap.size u3 ((r.fl.map (·.2)).take j) pc wr.heap.size rfl _ _ rfl rfl (HOT.out.below ((Below.refl _ _).alloc (Nat.le_refl _) _)) rfl (Bk.new _ _ _) (by have := HTL.out; omega) (by have := HWS.out; simp; omega) ?_; intro g9 cap9 w9 o9 gr9)
      have hb9 : Below w2.heap.size w2 w9 := (HBE.out.alloc HBE.out.size _).grown gr9 (by simp; exact Nat.le_trans HBE.out.size (Nat.le_succ _)) (fun k hk => (World.ownsRow.lt HOT.out k hk).1)
      have ho9 : OI w2.heap.size w9 (.slice (some ⟨g9, 0, none⟩) (min j r.fl.length + 1) cap9) ((r.fl.map (·.2)).take j1) := by
        rw [HKT.out]
        rw [List.length_take, List.length_map] at o9
        exact o9
      have HO9 := Lib.hid ho9
      have HB9 := Lib.hid hb9
      clear o9 gr9 hb9 ho9
      go_roundg gk1
      case measure => exact Nat.lt_succ_self _
      case rel => exact ⟨j1, rfl, HJ.out, HO9.out, HB9.out⟩
end Go.Proofs.Ytldpamlmnganmaa.FL
