/- Package pool, gather: what goes from each group, by their names. Conditions: how many. -/
import Derived.Test.YtochjbmighijgaaPom
namespace Go.Proofs.Ytochjbmighijgaa.PO
open Go.ChangeShapes Go.WideShapes Go.ChangeAt Go.RowKit Go.Maps Go.ChangeMaps
open Go.Proofs.Ytochjbmighijgaa.SL Go.Proofs.Ytochjbmighijgaa.RW
open Go.Proofs.Ytochjbmighijgaa.LN (tkY tkN pu OI IS RdP)
set_option maxRecDepth 100000
set_option linter.unusedVariables false
set_option linter.unusedSimpArgs false

/-- what is asked of each group: a function value that turns a group alone, and tells numbers -/
structure Lv (fg : Nat) (cb : Array Value) (act : Row → Row) (out : Row → List Int) (B : Nat) (w : World) (a : Nat) (C : Cf) : Prop where
  enter : ∀ args W, (callFunc fg args).run Try.prog W = .ok (.enter fg args) W
  nm : ∀ q, (act q).name = q.name
  says : ∀ W N R, PL B W a N C R → Kt w W → ∀ g q m, RowP B W C.most g q m → q.idle.length ≤ 100000 → Calls Try.prog fg (#[ptr g] ++ cb) W fun e W' => ∃ v, e = .returned v ∧ OI W.heap.size W' v (out q) ∧ Turned B W C.most g m (act q) W'
def GatP (B : Nat) (w : World) (a N : Nat) (C : Cf) (R : Raw) (act : Row → Row) (out : Row → List Int) (e : Ending) (w' : World) : Prop :=
  ∃ (v : Value) (d : List Int) (ks : List ByteArray), e = .returned v ∧ OI w.heap.size w' v d ∧ PL B w' a N C { R with rows := actR R act fun _ => false } ∧ Fr B w w' ∧ ks.Nodup ∧ (∀ k, k ∈ ks ↔ (gonR R out (fun _ => false) k).isSome = true) ∧ (d = ks.flatMap fun k => (gonR R out (fun _ => false) k).getD []) ∧ d.length ≤ 100000000000
def lB (left : Lit → Bool) : ByteArray → Bool := fun k => left (.string k.data.toList)
/-- what was told so far: a map by names, each told list owned -/
structure Gon (R : Raw) (out : Row → List Int) (N0 : Nat) (w : World) (mb n : Nat) (left : Lit → Bool) (G : ByteArray → Option (Value × List Int)) (V : List ByteArray) : Prop where
  mp : MV.MapV Try.prog 9 w mb n (MV.fS fun k => (G k).map (·.1))
  eq : ∀ k, (G k).map (·.2) = gonR R out (lB left) k
  oi : ∀ k v d, G k = some (v, d) → OI N0 w v d
  nd : V.Nodup
  mem : ∀ k, k ∈ V ↔ (G k).isSome = true
section
variable {R : Raw} {out : Row → List Int} {N0 mb n : Nat} {w w' : World} {left : Lit → Bool} {G : ByteArray → Option (Value × List Int)} {V : List ByteArray}
theorem Gon.keep (h : Gon R out N0 w mb n left G V) (hm : w'.heap[mb]? = w.heap[mb]?) (ho : ∀ k v d, G k = some (v, d) → OI N0 w' v d) : Gon R out N0 w' mb n left G V := ⟨h.mp.keep hm, h.eq, ho, h.nd, h.mem⟩
theorem Gon.below (h : Gon R out N0 w mb n left G V) (hb : Below w.heap.size w w') : Gon R out N0 w' mb n left G V := h.keep (hb.block mb h.mp.lt) fun k v d e => (h.oi k v d e).below hb
theorem Gon.iter {r : Nat} (h : Gon R out N0 w mb n left G V) (hr : ∃ m s se c, w.heap[r]? = some (.mapIter m s se c)) (hg : w.grownBy w' (some r)) : Gon R out N0 w' mb n left G V := by
  obtain ⟨m, s, se, c, hx⟩ := hr
  refine h.keep (hg.block mb h.mp.lt fun e => ?_) fun k v d e => (h.oi k v d e).keep fun b hb => hg.block b (World.ownsRow.lt (h.oi k v d e) b hb).2 fun e2 => ?_
  · injection e with e; subst e
    obtain ⟨es, cl, he⟩ := h.mp.obj
    rw [hx] at he; cases he
  · injection e2 with e2; subst e2
    rcases (h.oi k v d e).2 with ⟨rfl, _⟩ | ⟨x, cap, cu, rfl, _, hh, _⟩
    · cases hb
    · injection hb with hb; subst hb
      rw [hx] at hh; cases hh
theorem Gon.turned {B mo g : Nat} {q q' : Row} {m : Mem} (h : Gon R out N0 w mb n left G V) (hr : RowP B w mo g q m) (ht : Turned B w mo g m q' w') : Gon R out N0 w' mb n left G V := by
  refine h.keep ?_ fun k v d e => oi_turned (h.oi k v d e) hr ht
  obtain ⟨m', _, hc, _⟩ := ht
  obtain ⟨es, cl, he⟩ := h.mp.obj
  exact hc.block mb h.mp.lt (hr.not_own he fun _ _ _ e => by cases e)
/-- a group gone over that told nothing -/
theorem Gon.pass (h : Gon R out N0 w mb n left G V) {k : ByteArray} {g : Nat} {q : Row} (hg : R.gm k = some g) (hq : R.rows g = some q) (left' : Lit → Bool) (hl : ∀ x, lB left' x = if x = k then false else lB left x) (hlk : lB left k = true) (ho : out q = []) : Gon R out N0 w mb n left' G V := by
  have h0 : gonR R out (lB left) k = none := by
    unfold gonR
    rw [hg]
    simp only [Option.bind_some]
    rw [hq]
    simp only [Option.bind_some]
    rw [if_neg]
    rintro ⟨h1, _⟩
    rw [hlk] at h1; cases h1
  refine ⟨h.mp, fun x => ?_, h.oi, h.nd, h.mem⟩
  rw [gonR_step hg hq (lB left') hl]
  by_cases e : x = k
  · subst e
    rw [if_pos rfl, if_neg (fun h => h ho), h.eq, h0]
  · rw [if_neg e]; exact h.eq x
/-- one that told something -/
theorem Gon.put (h : Gon R out N0 w mb n left G V) {k : ByteArray} {g : Nat} {q : Row} (hg : R.gm k = some g) (hq : R.rows g = some q) (left' : Lit → Bool) (hl : ∀ x, lB left' x = if x = k then false else lB left x) (hlk : lB left k = true) (ho : out q ≠ []) {v : Value} (hv : OI N0 w v (out q)) {n' : Nat}
    (hm : MV.MapV Try.prog 9 w' mb n' (MV.fS fun x => if x = k then some v else (G x).map (·.1))) (ht : w.mapTurned w' mb) : Gon R out N0 w' mb n' left' (fun x => if x = k then some (v, out q) else G x) (V ++ [k]) := by
  have h0 : (G k).map (·.2) = none := by
    rw [h.eq]
    unfold gonR
    rw [hg]
    simp only [Option.bind_some]
    rw [hq]
    simp only [Option.bind_some]
    rw [if_neg]
    rintro ⟨h1, _⟩
    rw [hlk] at h1; cases h1
  have h1 : G k = none := by
    cases e : G k with
    | none => rfl
    | some p => rw [e] at h0; cases h0
  have hk : k ∉ V := fun hk => by have := (h.mem k).1 hk; rw [h1] at this; cases this
  have same : ∀ {v : Value} {d : List Int}, OI N0 w v d → OI N0 w' v d := fun ho => ho.keep fun b hb => (mapTurned_chg ht).block b (World.ownsRow.lt ho b hb).2 fun e => by
    subst e
    obtain ⟨es, cl, he⟩ := h.mp.obj
    rcases ho.2 with ⟨rfl, _⟩ | ⟨x, cap, cu, rfl, _, hh, _⟩
    · cases hb
    · injection hb with hb; subst hb
      rw [hh] at he; cases he
  refine ⟨hm.congr fun kl => ?_, fun x => ?_, fun x u d e => ?_, ?_, fun x => ?_⟩
  · congr 1
    funext x
    show (if x = k then some v else (G x).map (·.1)) = ((if x = k then some (v, out q) else G x).map (·.1))
    split <;> rfl
  · rw [gonR_step hg hq (lB left') hl]
    show ((if x = k then some (v, out q) else G x).map (·.2)) = _
    by_cases e : x = k
    · rw [if_pos e, if_pos e, if_pos ho]; rfl
    · rw [if_neg e, if_neg e]; exact h.eq x
  · have e : (if x = k then some (v, out q) else G x) = some (u, d) := e
    by_cases ex : x = k
    · rw [if_pos ex] at e
      injection e with e
      injection e with e1 e2
      subst e1 e2
      exact same hv
    · rw [if_neg ex] at e
      exact same (h.oi x u d e)
  · exact List.nodup_append.2 ⟨h.nd, by simp, fun x hx y hy e => by
      simp only [List.mem_singleton] at hy
      subst hy e
      exact hk hx⟩
  · rw [List.mem_append, List.mem_singleton, h.mem x]
    show _ ↔ (if x = k then some (v, out q) else G x).isSome = true
    by_cases e : x = k
    · rw [if_pos e]; simp [e]
    · rw [if_neg e]; simp [e]
end
theorem keys_perm {w : World} {b n : Nat} {f : ByteArray → Option Value} {D0 : DataW Value} {V : List ByteArray} (hown : w.ownsMap Try.prog 9 MV.vE b n D0) (ha : MV.Agr D0 (MV.fS f)) (hnd : V.Nodup) (hm : ∀ k, k ∈ V ↔ (f k).isSome = true) : (V.map fun k => k.data.toList).Perm (strKeys D0) := by
  obtain ⟨es, hD, hpw, _⟩ := hown.entries strK
  obtain ⟨es', hD', hko⟩ := hown.keysOf
  obtain rfl : es = es' := by rw [hD] at hD'; simpa using hD'
  subst hD
  refine perm_strKeys hpw (fun p hp => by obtain ⟨v, hv⟩ := hko p hp; obtain ⟨x, _, hx, _⟩ := Maps.keyOf_str Try.underlying9 hv; exact ⟨x, hx⟩) (List.pairwise_map.2 (hnd.imp fun hne e => hne (MV.ba_of e))) fun x => ?_
  rw [(ha (.string x) (show WideAt.IsKeyLit (Lit.string _) from trivial)).1]
  show _ ↔ (f ⟨x.toArray⟩).isSome = true
  rw [List.mem_map, ← hm]
  constructor
  · rintro ⟨k, hk, rfl⟩
    rw [show (⟨k.data.toList.toArray⟩ : ByteArray) = k from MV.ba_of (by simp)]
    exact hk
  · intro h
    exact ⟨_, h, by simp⟩
theorem flat_len {f : ByteArray → List Int} (h : ∀ k, (f k).length ≤ 100000) : ∀ ks : List ByteArray, (ks.flatMap f).length ≤ ks.length * 100000
  | [] => Nat.le_refl _
  | k :: ks => by
    have := flat_len h ks
    have := h k
    simp only [List.flatMap_cons, List.length_append, List.length_cons]
    omega
set_option maxHeartbeats 16000000 in
theorem gather_any {B : Nat} {w : World} {a N : Nat} {C : Cf} {R : Raw} (h : PL B w a N C R) (hN : N ≤ 1000000) {fg : Nat} {cb : Array Value} {act : Row → Row} {out : Row → List Int} (hl : Lv fg cb act out B w a C)
    (hgm : ∀ k g, R.gm k = some g → ∃ q, R.rows g = some q ∧ q.name = k ∧ q.idle.length ≤ 100000 ∧ (out q).length ≤ 100000) :
    Calls Try.prog 32 #[ptr a, .func (.func fg) #[] cb] w (GatP B w a N C R act out) := by
  have hmm := @run_makeMap Try.prog
  obtain ⟨c0, _⟩ := h.cells
  have HG := Lib.hid (given_yes w a c0)
  obtain ⟨W1, hW1⟩ : ∃ W, w.alloc (.map #[] 0) = W := ⟨_, rfl⟩
  obtain ⟨mb, hmb⟩ : ∃ b, w.heap.size = b := ⟨_, rfl⟩
  have hb1 : Below w.heap.size w W1 := by rw [← hW1]; exact (Below.refl _ _).alloc (Nat.le_refl _) _
  have HM1 : Hid (MV.MapV Try.prog 9 W1 mb 0 (fun _ => none)) := Lib.hid (by rw [← hW1, ← hmb]; exact MV.MapV.made _ _ _)
  have HP1 := Lib.hid (h.below hb1)
  have HF1 := Lib.hid (h.fr hb1)
  have HB1 := Lib.hid hb1
  have d7 := HP1.out.cells.2.2.2.2.2.2.2.1
  have HGM := Lib.hid hgm
  have HL := Lib.hid hl
  have henter := hl.enter
  have HN := Lib.hid hN
  have HMB := Lib.hid hmb
  have HPL := Lib.hid h
  clear h hN hl hgm hb1 c0
  obtain ⟨M1, hpb⟩ := HP1.out
  have HPB := Lib.hid hpb
  clear hpb
  go_enter Try.func32, Try.ntmps32
  go_wp2_with fail
  refine HG.out.mono ?_
  rintro e w' ⟨rfl, rfl⟩
  go_wp2_with (at_range; refine MV.wpList_range rfl _ 49 rfl 57 strK Try.underlying49 rfl HPB.out.mg ?_; intro w0 cnt0 left0 hrg0 hleft0 hcnt0 hg0 hs0)
  have hb0 : Below W1.heap.size W1 w0 := ⟨hg0.os, hg0.tape, hg0.output, hg0.size, fun k hk => hg0.block k hk (by simp)⟩
  have HRG0 := Lib.hid hrg0
  have HLE0 := Lib.hid hleft0
  have HCN0 := Lib.hid hcnt0
  have HB0 := Lib.hid hb0
  have HP0 := Lib.hid (HP1.out.below hb0)
  have HM0 := Lib.hid (HM1.out.below hb0)
  have HF0 := Lib.hid (HF1.out.trans (HP1.out.fr hb0))
  clear hrg0 hleft0 hcnt0 hg0 hs0 hb0 d7
  try rw [hW1]
  try rw [hmb]
  obtain ⟨r, hr⟩ : ∃ r, W1.heap.size = r := ⟨_, rfl⟩
  rw [hr] at HRG0
  have HRB : Hid (B ≤ r) := Lib.hid (by rw [← hr]; exact HP1.out.le)
  try rw [hr]
  clear hW1 hmb
  go_frame
  go_loopw [8] (fun u8 wr => ∃ (left : Lit → Bool) (cnt n : Nat) (G : ByteArray → Option (Value × List Int)) (V : List ByteArray), Hid (MV.RangeV Try.prog 9 wr C.gb r N (gV R) left cnt) ∧ Hid (PL B wr a N C { R with rows := actR R act (lB left) }) ∧ Hid (Gon R out w.heap.size wr mb n left G V) ∧ Hid (n + cnt ≤ N) ∧ Hid (Fr B w wr) ∧ Hid (V.length ≤ n)) (fun _ wr => wr.rangeLeft C.gb r)
  case atStart =>
    have hall : ∀ k g, R.gm k = some g → lB left0 k = true := fun k g hk => by
      unfold lB
      rw [HLE0.out _ (show WideAt.IsKeyLit (Lit.string _) from trivial)]
      show ((R.gm k).map ptr).isSome = true
      rw [hk]; rfl
    refine ⟨left0, cnt0, 0, fun _ => none, [], HRG0, Lib.hid ?_, Lib.hid ⟨HM0.out.congr fun kl => ?_, fun k => (gonR_none hall k).symm, fun k v d e => (by cases e), List.nodup_nil, fun k => by simp⟩, Lib.hid (by have := HCN0.out; omega), HF0, Lib.hid (Nat.zero_le _)⟩
    · rw [actR_none hall]; exact HP0.out
    · unfold MV.fS; cases kl <;> rfl
  case round =>
    obtain ⟨left, cnt, n, G, V, hrg, hp, hgo, hn, hf, hvl⟩ := hrel
    clear HRG0 HLE0 HCN0 HB0 HP0 HM0 HF0
    go_wp2_with (at_next; refine MV.wpList_step (fun x : ByteArray => Value.string x) keyStr_inv rfl _ rfl strK r left cnt rfl hrg.out ?_ ?_)
    · intro hl0
      have hfin : lB left = fun _ => false := funext fun k => hl0 _
      have HFIN := Lib.hid hfin
      obtain ⟨D0, hown, ha⟩ := hgo.out.mp
      have hsz := hown.size_le
      have hn1 : n ≤ 1000000 := by have := hn.out; have := HN.out; omega
      have HPM := Lib.hid (keys_perm hown ha hgo.out.nd (fun k => by rw [hgo.out.mem k, Option.isSome_map]))
      have HK := Lib.hid (Try.mapKeys_any (some mb) wr)
      have HS := Lib.hid (Try.sortedKeys_any mb n D0 MV.vE wr hown (by unfold maxLen; omega) (by omega))
      have hb1 : Below wr.heap.size wr (wr.alloc (.cells #[.map (some mb)] 102)) := (Below.refl _ _).alloc (Nat.le_refl _) _
      have HB1 := Lib.hid hb1
      have HN1 := Lib.hid hn1
      clear hl0 hfin hown ha hsz hb1 hn1
      go_wp2_with fail
      refine HK.out.mono ?_
      rintro e w1 ⟨rfl, hw1⟩
      subst hw1
      go_wp2_with fail
      refine HS.out.mono ?_
      rintro e w2 ⟨v, ss, rfl, hpm, hrow, _, hb2⟩
      have hperm := hpm.trans HPM.out.symm
      obtain ⟨L, hL⟩ : ∃ L, ss.mergeSort (fun x y => decide (x ≤ y)) = L := ⟨_, rfl⟩
      rw [hL] at hrow
      have hLp : L.Perm (V.map fun k => k.data.toList) := by rw [← hL]; exact (List.mergeSort_perm ss _).trans hperm
      obtain ⟨ks, hks⟩ : ∃ ks : List ByteArray, L.map (fun x => (⟨x.toArray⟩ : ByteArray)) = ks := ⟨_, rfl⟩
      have hksp : ks.Perm V := by
        rw [← hks]
        have := hLp.map (fun x => (⟨x.toArray⟩ : ByteArray))
        rw [List.map_map] at this
        rw [show ((fun x => (⟨x.toArray⟩ : ByteArray)) ∘ fun k : ByteArray => k.data.toList) = id from funext fun k => MV.ba_of (by simp), List.map_id] at this
        exact this
      have hlen : ss.length = ks.length := by
        rw [← hks, List.length_map, ← hL]
        exact (List.mergeSort_perm ss _).length_eq.symm
      have hrow2 : SL.OT wr.heap.size w2 v ks := by
        have e1 : L.map encStr = ks.map SL.bV := by
          rw [← hks, List.map_map]; rfl
        unfold SL.OT
        rw [e1, hlen] at hrow
        refine ⟨hrow.1, ?_⟩
        rcases hrow.2 with h2 | ⟨g9, cap, cur, rfl, hb, hr9⟩
        · exact .inl h2
        · exact .inr ⟨g9, cap, cur, rfl, Nat.le_trans HB1.out.size hb, hr9⟩
      have hb12 := HB1.out.trans (hb2.mono HB1.out.size)
      have HROW := Lib.hid hrow2
      have HNDK : Hid (ks.Nodup ∧ (∀ k, k ∈ ks ↔ (gonR R out (fun _ => false) k).isSome = true) ∧ ks.length ≤ n) := Lib.hid ⟨hksp.nodup_iff.2 hgo.out.nd, fun k => by
        rw [hksp.mem_iff, hgo.out.mem k, ← HFIN.out, ← hgo.out.eq, Option.isSome_map], by rw [hksp.length_eq]; exact hvl.out⟩
      have HP2 := Lib.hid (show PL B w2 a N C { R with rows := actR R act fun _ => false } from by rw [← HFIN.out]; exact hp.out.below hb12)
      have HF2 := Lib.hid (hf.out.trans (hp.out.fr hb12))
      have HGO2 := Lib.hid (hgo.out.below hb12)
      have HGE : Hid (∀ k, k ∈ ks → ∃ v d, G k = some (v, d) ∧ d = (gonR R out (fun _ => false) k).getD [] ∧ 0 < d.length) := Lib.hid fun k hk => by
        have h1 := (hgo.out.mem k).1 (hksp.mem_iff.1 hk)
        obtain ⟨p, hp⟩ := Option.isSome_iff_exists.1 h1
        obtain ⟨v, d⟩ := p
        have h2 := hgo.out.eq k
        rw [hp, HFIN.out] at h2
        refine ⟨v, d, hp, by rw [← h2]; rfl, ?_⟩
        have h2 : some d = gonR R out (fun _ => false) k := h2
        unfold gonR at h2
        cases hg : R.gm k with
        | none => rw [hg] at h2; cases h2
        | some g =>
          rw [hg] at h2
          simp only [Option.bind_some] at h2
          cases hq : R.rows g with
          | none => rw [hq] at h2; cases h2
          | some q =>
            rw [hq] at h2
            simp only [Option.bind_some] at h2
            split at h2
            · rename_i hc
              injection h2 with h2
              rw [h2]
              exact List.length_pos_iff.2 hc.2
            · cases h2
      obtain ⟨F, hFF⟩ : ∃ F : ByteArray → List Int, (fun k => (gonR R out (fun _ => false) k).getD []) = F := ⟨_, rfl⟩
      have HFF := Lib.hid hFF
      have HFL : Hid (∀ k, (F k).length ≤ 100000) := Lib.hid fun k => by
        rw [← hFF]
        show ((gonR R out (fun _ => false) k).getD []).length ≤ 100000
        unfold gonR
        cases hg : R.gm k with
        | none => simp
        | some g =>
          obtain ⟨q, hq, _, _, h4⟩ := HGM.out k g hg
          simp only [Option.bind_some]
          rw [hq]
          simp only [Option.bind_some]
          split
          · exact h4
          · simp
      have HGE2 : Hid (∀ k, k ∈ ks → ∃ v, G k = some (v, F k) ∧ 0 < (F k).length) := Lib.hid fun k hk => by
        obtain ⟨v, d, h1, h2, h3⟩ := HGE.out k hk
        have e9 : d = F k := by rw [h2, ← hFF]
        subst e9
        exact ⟨v, h1, h3⟩
      obtain ⟨m, hm⟩ : ∃ m, ks.length = m := ⟨_, rfl⟩
      have HM := Lib.hid hm
      have HWR : Hid (w.heap.size ≤ w2.heap.size) := Lib.hid HF2.out.size
      obtain ⟨va, vc, rfl⟩ := hrow2.ts.form
      rw [hm] at HROW ⊢
      clear hpm hrow hb2 hperm hL hLp hks hksp hlen hrow2 hb12 hFF hm HGE HK HS HPM HB1 hrg hp hgo hn hf hvl
      go_wp2
      go_loopg [9, 39] m (fun gk u9 u39 wx => ∃ j : Nat, u39 = .int .i64 (j : Int) ∧ j + gk = m ∧ Hid (OI w2.heap.size wx u9 ((ks.take j).flatMap F)) ∧ Hid (Below w2.heap.size w2 wx))
      case atStart => exact ⟨0, rfl, by omega, OI.nil _ _, Below.refl _ _⟩
      case round =>
        obtain ⟨j, rfl, hj, HOI, HBX⟩ := hrel
        cases gk with
        | zero =>
          have l1 : ¬ ((j : Int) < (m : Int)) := by omega
          have hjm : j = m := by omega
          have hF : Hid (GatP B w a N C R act out (.returned u9) wr) := Lib.hid ⟨u9, (ks.take j).flatMap F, ks, rfl, HOI.out.mono HWR.out, HP2.out.below HBX.out, HF2.out.trans (HP2.out.fr HBX.out), HNDK.out.1, HNDK.out.2.1, by rw [HFF.out, List.take_of_length_le (by rw [HM.out]; omega)], by
            have h1 := flat_len HFL.out (ks.take j)
            have h3 : (ks.take j).length ≤ 1000000 := by rw [List.length_take]; have := HNDK.out.2.2; have := HN1.out; omega
            omega⟩
          clear hj hjm
          go_wp2
          go_ret
          exact hF.out
        | succ g1 =>
          have hjl : j < ks.length := by have := HM.out; omega
          obtain ⟨x, hx⟩ : ∃ x, ks[j]? = some x := ⟨_, List.getElem?_eq_getElem hjl⟩
          have hot := HROW.out.keep (w' := wr) (fun b hb => HBX.out.block b (World.ownsRow.lt HROW.out b hb).2)
          obtain ⟨b, off, cap, he, hc, hcells⟩ := hot.ts.inv (by omega)
          rw [HM.out] at he
          injection he with e1 en e3
          clear en
          subst e1 e3
          have x0 := hcells j x hx
          obtain ⟨gv, hgx, hpos⟩ := HGE2.out x (List.mem_of_getElem? hx)
          have hgo3 := HGO2.out.below HBX.out
          have hoi := hgo3.oi x gv _ hgx
          have hsz : x.size ≤ 281474976710656 := by
            have h1 := (HNDK.out.2.1 x).1 (List.mem_of_getElem? hx)
            unfold gonR at h1
            cases hg : R.gm x with
            | none => rw [hg] at h1; simp at h1
            | some g =>
              obtain ⟨q, hq, hqn, _, _⟩ := HGM.out x g hg
              have := (HPB.out.row g q hq).nm
              rw [hqn] at this; exact this
          have hlook := hgo3.mp.look1 strK Try.underlying102 (zero_of 38 (.slice none 0 0) (by kernel_rfl) wr) (keyB x hsz)
          rw [show (MV.fS fun k => (G k).map (·.1)) (.string x.data.toList) = some gv from by show (G x).map (·.1) = _; rw [hgx]; rfl] at hlook
          simp only [Option.getD_some] at hlook
          obtain ⟨ob, ooff, ocap, hov, hoc, hocells⟩ := hoi.is.at_ hpos
          subst hov
          have l0 : (0 : Int) ≤ (j : Int) := by omega
          have l1 : (j : Int) < (m : Int) := by omega
          obtain ⟨j1, hj1⟩ : ∃ j1, j + 1 = j1 := ⟨_, rfl⟩
          have wk : IntKind.i64.wrap ((j : Int) + 1) = (j1 : Int) := by rw [show (j : Int) + 1 = (j1 : Int) by omega]; exact IntWalk.i64_in _ (by have := HNDK.out.2.2; have := HN1.out; omega)
          have HJ : Hid (j1 + g1 = m) := Lib.hid (by omega)
          have HTK : Hid ((ks.take j1).flatMap F = (ks.take j).flatMap F ++ F x) := Lib.hid (by
            rw [← hj1, List.take_add_one, hx, List.flatMap_append]
            simp)
          have HBD : Hid (((ks.take j).flatMap F).length + (F x).length ≤ 1099511627776) := Lib.hid (by
            have h1 := flat_len HFL.out (ks.take j)
            have h2 := HFL.out x
            have h3 : (ks.take j).length ≤ 1000000 := by rw [List.length_take]; have := HNDK.out.2.2; have := HN1.out; omega
            omega)
          have HCE := Lib.hid hocells
          have HPOS := Lib.hid hpos
          obtain ⟨D, hD⟩ : ∃ D, (ks.take j).flatMap F = D := ⟨_, rfl⟩
          obtain ⟨E, hE⟩ : ∃ E, F x = E := ⟨_, rfl⟩
          rw [hD] at HOI HTK HBD
          rw [hE] at HTK HBD HCE HPOS
          rw [hE] at hlook
          have HOI := HOI
          clear hj hjl hx hot hc hcells hgx hgo3 hoi hoc hocells hpos hj1 hD hsz
          clear hE
          go_wp2_with (at_builtin; refine wpList_app_ints w2.heap.size u9 D E ob ooff ocap rfl _ _ rfl rfl HOI.out rfl HCE.out HPOS.out HBD.out HBX.out.size ?_; intro g9 cap9 w9 o9 gr9)
          have hb9 : Below w2.heap.size w2 w9 := HBX.out.grown gr9 HBX.out.size fun k hk => (World.ownsRow.lt HOI.out k hk).1
          have ho9 : OI w2.heap.size w9 (.slice (some ⟨g9, 0, none⟩) (D.length + E.length) cap9) ((ks.take j1).flatMap F) := by rw [HTK.out]; exact o9
          have HO9 := Lib.hid ho9
          have HB9 := Lib.hid hb9
          clear o9 gr9 hb9 ho9
          go_roundg g1
          case measure => exact Nat.lt_succ_self _
          case rel => exact ⟨j1, rfl, HJ.out, HO9, HB9⟩
    · intro x c kl w1 cnt1 hkey hlk hfk hrg1 hlt hg1 hs1 hen
      obtain ⟨hkl, hxs⟩ := keyStr_lit hkey
      subst hkl
      have hfk2 : (R.gm x).map ptr = some c := hfk
      obtain ⟨g, hg⟩ : ∃ g, R.gm x = some g := by
        cases hg : R.gm x with
        | none => rw [hg] at hfk2; cases hfk2
        | some g => exact ⟨g, rfl⟩
      have hc : c = ptr g := by
        rw [hg] at hfk2
        injection hfk2 with hfk2
        exact hfk2.symm
      subst hc
      obtain ⟨q, hq, hqn, hqi, hqo⟩ := HGM.out x g hg
      have hrow := actR_at (act := act) hg hq hqn (left := lB left) hlk
      have hit := rangeV_iter hrg.out
      have hp1 := hp.out.iter hit hg1
      have hf1 : Fr B wr w1 := by
        refine ⟨(Below.refl B wr).grown hg1 hp.out.le fun j hj => ?_, fun b cs t fr _ _ hb => hg1.block b (Array.getElem?_eq_some_iff.1 hb).1 fun e => ?_⟩
        · injection hj with hj
          have := HRB.out; omega
        · injection e with e
          obtain ⟨m, s, se, c, hx⟩ := hit
          first | rw [← e] at hx | rw [e] at hx
          rw [hb] at hx; cases hx
      have hff := hf.out.trans hf1
      have hgo1 := hgo.out.iter hit hg1
      obtain ⟨M2, hpb2⟩ := hp1
      have hr2 := hpb2.row g q hrow
      have HC := Lib.hid (HL.out.says w1 N _ ⟨M2, hpb2⟩ hff.kt g q (M2 g) hr2 hqi)
      obtain ⟨left', hleft'⟩ : ∃ left' : Lit → Bool, (fun z => left z && !z.sameKey (.string x.data.toList)) = left' := ⟨_, rfl⟩
      have hl2 : ∀ y, lB left' y = if y = x then false else lB left y := fun y => by
        rw [← hleft']
        show (left (.string y.data.toList) && !(Lit.string y.data.toList).sameKey (.string x.data.toList)) = _
        by_cases e : y = x
        · rw [if_pos e, e]
          simp [Lit.sameKey]
        · rw [if_neg e]
          have : (Lit.string y.data.toList).sameKey (.string x.data.toList) = false := by
            simp only [Lit.sameKey, beq_eq_false_iff_ne, ne_eq]
            intro h
            exact e (MV.ba_of (by first | exact h | (injection h)))
          rw [this]
          simp [lB]
      rw [hleft'] at hrg1
      have HPB2 := Lib.hid hpb2
      have HR2 := Lib.hid hr2
      have HGO1 := Lib.hid hgo1
      have HRG1 := Lib.hid hrg1
      have HFF := Lib.hid hff
      have HL2 := Lib.hid hl2
      have HG := Lib.hid hg
      have HQ := Lib.hid hq
      have HQN := Lib.hid hqn
      have HQO := Lib.hid hqo
      have HROW := Lib.hid hrow
      have HLK := Lib.hid (show lB left x = true from hlk)
      have HXS : Hid (x.size ≤ 281474976710656) := Lib.hid (by have := (HPB.out.row g q hq).nm; rw [hqn] at this; exact this)
      have HCN : Hid (n + cnt1 + 1 ≤ N) := Lib.hid (by have := hn.out; omega)
      have HME : Hid (cnt1 < wr.rangeLeft C.gb r) := Lib.hid (by rw [hrg.out.left_eq]; exact hlt)
      have HVL := Lib.hid hvl.out
      clear hfk2 hfk hgo1 hlk hq hqn hqi hqo hrow hit hf1 hff hpb2 hr2 hleft' hl2 hrg1 hlt hg1 hs1 hkey hxs hg hrg hp hgo hn hf hvl
      go_wp2_with fail
      refine HC.out.mono ?_
      rintro e w3 ⟨v, rfl, hoi, ht⟩
      obtain ⟨⟨M3, hpb3⟩, hf3⟩ := HPB2.out.turn HROW.out ht
      have hgo3 := HGO1.out.turned HR2.out ht
      have hrg3 : MV.RangeV Try.prog 9 w3 C.gb r N (gV R) left' cnt1 := by
        obtain ⟨m', _, hc, _⟩ := ht
        refine HRG1.out.kept (hc.block _ HRG1.out.map.lt ?_) (hc.block _ HRG1.out.lt ?_)
        · obtain ⟨es, cl, he⟩ := HRG1.out.map.obj
          exact HR2.out.not_own he fun _ _ _ e => by cases e
        · obtain ⟨m, s, se, c, he⟩ := rangeV_iter HRG1.out
          exact HR2.out.not_own he fun _ _ _ e => by cases e
      have hp3 : PL B w3 a N C { R with rows := actR R act (lB left') } := ⟨M3, by
        rw [actR_step HG.out HQ.out HQN.out (lB left') HL2.out]; exact hpb3⟩
      have hoi3 : OI w.heap.size w3 v (out q) := hoi.mono HFF.out.size
      have HOI3 := Lib.hid hoi3
      obtain ⟨va, vc, rfl⟩ := hoi.form
      obtain ⟨len, hlen⟩ : ∃ n, (out q).length = n := ⟨_, rfl⟩
      rw [hlen] at HOI3 ⊢
      have HLEN := Lib.hid hlen
      have HP3 := Lib.hid hp3
      have HF3 := Lib.hid (HFF.out.trans hf3)
      have HRG3 := Lib.hid hrg3
      have HGO3 := Lib.hid hgo3
      clear hpb3 hf3 hgo3 hrg3 hp3 hoi3 hoi ht hlen
      by_cases h0 : len = 0
      · subst h0
        have HGOF := Lib.hid (HGO3.out.pass HG.out HQ.out left' HL2.out HLK.out (List.eq_nil_of_length_eq_zero HLEN.out))
        go_wp2
        go_roundw
        case rel => exact ⟨left', cnt1, n, G, V, HRG3, HP3, HGOF, Lib.hid (by have := HCN.out; omega), HF3, HVL⟩
        case measure => rw [HRG3.out.left_eq]; exact HME.out
      · have l0 : (0 : Int) < (len : Int) := by omega
        obtain ⟨w4, hrun, hm4, ht4⟩ := HGO3.out.mp.put strK Try.underlying102 (by have := HCN.out; have := HN.out; unfold maxLen; omega) (keyB x HXS.out) (.slice va len vc)
        have hgo4 := HGO3.out.put HG.out HQ.out left' HL2.out HLK.out (fun e => h0 (by rw [← HLEN.out, e]; rfl)) HOI3.out (hm4.congr fun kl => MV.fS_put _ _ _ _) ht4
        have k4 : ∀ b, b ≠ mb → b < w3.heap.size → w4.heap[b]? = w3.heap[b]? := fun b hb hlt => (mapTurned_chg ht4).block b hlt hb
        obtain ⟨es, cl, hobj⟩ := HGO3.out.mp.obj
        have hp4 : PL B w4 a N C { R with rows := actR R act (lB left') } := by
          obtain ⟨M3, hp3⟩ := HP3.out
          obtain ⟨M9, hp9⟩ := HPL.out
          refine ⟨M3, hp3.keep fun b hb => k4 b ?_ (hp3.lt hb)⟩
          have hmb := HMB.out
          rcases hb with rfl | rfl | rfl | rfl | rfl | ⟨g', q', hq', hb⟩
          · have := hp9.bk.lt; omega
          · have := hp9.pk.lt; omega
          · have := hp9.mg.lt; omega
          · have := hp9.ms.lt; omega
          · have := hp9.mn.lt; omega
          · rintro rfl
            exact (hp3.row g' q' hq').not_own hobj (fun _ _ _ e => by cases e) hb
        have hrg4 : MV.RangeV Try.prog 9 w4 C.gb r N (gV R) left' cnt1 := by
          refine HRG3.out.kept (k4 _ ?_ HRG3.out.map.lt) (k4 _ ?_ HRG3.out.lt)
          · obtain ⟨M9, hp9⟩ := HPL.out
            have := hp9.mg.lt
            have := HMB.out
            omega
          · rintro rfl
            obtain ⟨m, s, se, c, he⟩ := rangeV_iter HRG3.out
            rw [hobj] at he; cases he
        have HF4 := Lib.hid (HF3.out.trans (map_fr HGO3.out.mp (by have := HPL.out.le; have := HMB.out; omega) ht4))
        have HP4 := Lib.hid hp4
        have HRG4 := Lib.hid hrg4
        have HGO4 := Lib.hid hgo4
        clear hm4 ht4 hgo4 k4 hobj hp4 hrg4
        go_wp2
        go_roundw
        case rel => exact ⟨left', cnt1, n + 1, _, V ++ [x], HRG4, HP4, HGO4, Lib.hid (by have := HCN.out; omega), HF4, Lib.hid (by rw [List.length_append]; have := HVL.out; simp; omega)⟩
        case measure => rw [HRG4.out.left_eq]; exact HME.out
end Go.Proofs.Ytochjbmighijgaa.PO
