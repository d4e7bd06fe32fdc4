/- Package sess, plain: what is to be done in each phase; asks, a session and the laid table in memory. No program is walked here; no condition. -/
import Derived.Test.YtpnjjllkbnmakaaDoorPpt
import Derived.Test.YtpnjjllkbnmakaaDoorTie
import Derived.Test.YtpnjjllkbnmakaaDoorCards
import Derived.Lib.LaidU8
import Derived.Deep.Slices
import Derived.Deep.Fields
import Derived.SizedLaws
namespace Go.Proofs.YtpnjjllkbnmakaaDoor.SE
open Go.ChangeShapes Go.WideShapes Go.ChangeAt Go.RowKit
open Go.Deep
open Go.Proofs.YtpnjjllkbnmakaaDoor.SL
set_option maxRecDepth 100000
set_option linter.unusedVariables false
set_option linter.unusedSimpArgs false

abbrev Tx := ByteArray
abbrev nV (n : Int) : Value := .int .i64 n
abbrev e0 : Tx := ByteArray.empty
abbrev R4 := Int × Int × Int × Int
/-- what matters of an ask: its kind, its keys, their values, does it cancel -/
structure Ak where
  k : Int
  ks : List Tx
  vs : List Tx
  c : Bool
/-- a session: its phase, its user, its database -/
structure St where
  p : Nat
  u : Tx
  d : Tx
/-- the first value of a key -/
def valL (key : Tx) : List Tx → List Tx → Tx
  | k :: ks, v :: vs => if k = key then v else valL key ks vs
  | _, _ => e0
abbrev userT : Tx := ⟨#[117, 115, 101, 114]⟩
abbrev dbT : Tx := ⟨#[100, 97, 116, 97, 98, 97, 115, 101]⟩
def Ak.user (a : Ak) : Tx := valL userT a.ks a.vs
def Ak.db (a : Ak) : Tx := if valL dbT a.ks a.vs = e0 then a.user else valL dbT a.ks a.vs
def firN (a : Ak) : Int := if a.c = true then 2 else if a.user = e0 then 0 else 1
def kndN (k : Int) : Int :=
  if k = 112 then 3 else if k = 81 then 4 else if k = 80 ∨ k = 66 ∨ k = 68 ∨ k = 69 ∨ k = 67 ∨ k = 72 then 5 else if k = 83 then 6 else if k = 88 then 7 else 0
def saidN (a : Ak) : Int := if a.k = 0 then firN a else kndN a.k
def rulesT : List (List R4) :=
  [[(2, 8, 6, 0), (1, 1, 1, 0), (0, 9, 6, 4)],
   [(3, 2, 1, 0), (0, 9, 6, 10)],
   [(4, 3, 3, 0), (5, 4, 4, 0), (6, 5, 2, 0), (7, 9, 6, 0), (0, 9, 6, 10)],
   [(7, 9, 6, 0), (0, 6, 3, 0)],
   [(4, 3, 3, 0), (5, 4, 4, 0), (6, 5, 2, 0), (7, 9, 6, 0), (0, 9, 6, 10)],
   [(6, 5, 2, 0), (7, 9, 6, 0), (0, 7, 5, 0)],
   [(0, 0, 6, 10)]]
/-- the rule that holds: the first one that fits, or the last one -/
def ruleL (n : Int) : List R4 → R4
  | [] => (0, 0, 0, 0)
  | [r] => r
  | r :: s :: l => if r.1 = n then r else ruleL n (s :: l)
def ruleP (p : Nat) (n : Int) : R4 := ruleL n (rulesT.getD p [])
def stepS (S : St) (a : Ak) : St :=
  if (ruleP S.p (saidN a)).2.1 = 1 then ⟨(ruleP S.p (saidN a)).2.2.1.toNat, a.user, a.db⟩ else ⟨(ruleP S.p (saidN a)).2.2.1.toNat, S.u, S.d⟩
def stepD (S : St) (a : Ak) : Int := (ruleP S.p (saidN a)).2.1
def stepE (S : St) (a : Ak) : Int := (ruleP S.p (saidN a)).2.2.2
def accS (b : Bool) (S : St) : St := if S.p = 1 then (if b = true then { S with p := 2 } else { S with p := 6 }) else S
def accE (b : Bool) (S : St) : Int := if S.p = 1 then (if b = true then 0 else 14) else 10
def donS (S : St) : St := if S.p = 3 then { S with p := 2 } else S
def donE (S : St) : Int := if S.p = 3 then 0 else 10
def faiS (S : St) : St := if S.p = 3 then { S with p := 2 } else if S.p = 4 then { S with p := 5 } else S
def faiE (S : St) : Int := if S.p = 3 then 0 else if S.p = 4 then 0 else 10

theorem rule_ok : ∀ l ∈ rulesT, l ≠ [] ∧ ∀ r ∈ l, 0 ≤ r.2.2.1 ∧ r.2.2.1 < 7 := by decide
theorem ruleL_mem (n : Int) : ∀ l, l ≠ [] → ruleL n l ∈ l
  | [], h => absurd rfl h
  | [r], _ => by simp [ruleL]
  | r :: s :: l, _ => by
    rw [ruleL]
    split
    · exact List.mem_cons_self
    · exact List.mem_cons_of_mem _ (ruleL_mem n (s :: l) (by simp))
theorem rules_at (p : Nat) (h : p < 7) : rulesT[p]? = some (rulesT.getD p []) := by
  have : p < rulesT.length := h
  rw [List.getD_eq_getElem?_getD, List.getElem?_eq_getElem this]; rfl
theorem ruleP_then (p : Nat) (h : p < 7) (n : Int) : 0 ≤ (ruleP p n).2.2.1 ∧ (ruleP p n).2.2.1 < 7 := by
  have h1 := List.mem_of_getElem? (rules_at p h)
  obtain ⟨h2, h3⟩ := rule_ok _ h1
  exact h3 _ (ruleL_mem n _ h2)
theorem stepS_p (S : St) (a : Ak) (h : S.p < 7) : (stepS S a).p < 7 := by
  have := ruleP_then S.p h (saidN a)
  unfold stepS
  split <;> (simp only; omega)
theorem accS_p (b : Bool) (S : St) (h : S.p < 7) : (accS b S).p < 7 := by
  unfold accS; split
  · split <;> simp
  · exact h
theorem donS_p (S : St) (h : S.p < 7) : (donS S).p < 7 := by
  unfold donS; split
  · simp
  · exact h
theorem faiS_p (S : St) (h : S.p < 7) : (faiS S).p < 7 := by
  unfold faiS; split
  · simp
  · split
    · simp
    · exact h
/-- a session of the code at block a -/
def Sx (w : World) (a : Nat) (S : St) : Prop := Bk w a 49 #[ptr a, nV S.p, .string S.u, .string S.d] ∧ S.p < 7
theorem Sx.chg {Q : Nat → Prop} {w w' : World} {a : Nat} {S : St} (h : Sx w a S) (hc : Chg Q w w') (hn : ¬ Q a) : Sx w' a S := ⟨h.1.chg hc hn, h.2⟩
theorem Sx.below {w w' : World} {a : Nat} {S : St} (h : Sx w a S) (hb : Below w.heap.size w w') : Sx w' a S := h.chg (Q := fun _ => False) (.of_below hb) id
/-- a slice, whatever it holds -/
def IsSl (v : Value) : Prop := ∃ A n c, v = .slice A n c
/-- as TS, in a block that is not z -/
def TQ (z : Nat) (w : World) (v : Value) (d : List Tx) : Prop :=
  (∃ A cap, v = .slice A 0 cap ∧ d = []) ∨
  ∃ h off cap, h ≠ z ∧ v = .slice (some ⟨h, off, none⟩) d.length cap ∧ d.length ≤ cap ∧ ∀ (i : Nat) (x : Tx), d[i]? = some x → w.cell? ⟨h, off + i, none⟩ = some (.string x)
theorem TQ.ts {z : Nat} {w : World} {v : Value} {d : List Tx} (h : TQ z w v d) : TS w v d := by
  rcases h with h | ⟨h, off, cap, _, r⟩
  · exact .inl h
  · exact .inr ⟨h, off, cap, r⟩
theorem TQ.of_ts {w : World} {v : Value} {d : List Tx} (h : TS w v d) (z : Nat) (hz : w.heap.size ≤ z) : TQ z w v d := by
  by_cases h0 : 0 < d.length
  · obtain ⟨g, off, cap, e, hc, hx⟩ := h.inv h0
    refine .inr ⟨g, off, cap, ?_, e, hc, hx⟩
    obtain ⟨x, hx0⟩ : ∃ x, d[0]? = some x := ⟨d[0], List.getElem?_eq_getElem h0⟩
    have := World.block_lt_of_cell? w _ (hx 0 x hx0)
    simp only at this
    omega
  · have : d = [] := List.eq_nil_of_length_eq_zero (by omega)
    subst this
    obtain ⟨A, c, rfl⟩ := h.form
    exact .inl ⟨A, c, rfl, rfl⟩
theorem TQ.nil (z : Nat) (w : World) : TQ z w (.slice none 0 0) [] := .inl ⟨_, _, rfl, rfl⟩
theorem TQ.below {z : Nat} {w w' : World} {v : Value} {d : List Tx} (h : TQ z w v d) (hb : Below w.heap.size w w') : TQ z w' v d := by
  rcases h with h | ⟨h, off, cap, n, e, hc, hm⟩
  · exact .inl h
  · exact .inr ⟨h, off, cap, n, e, hc, fun i x hi => (hb.cell (World.block_lt_of_cell? w _ (hm i x hi))).trans (hm i x hi)⟩
theorem TQ.chg {z : Nat} {w w' : World} {v : Value} {d : List Tx} (h : TQ z w v d) (hb : Chg (fun b => b = z) w w') : TQ z w' v d := by
  rcases h with h | ⟨h, off, cap, n, e, hc, hm⟩
  · exact .inl h
  · exact .inr ⟨h, off, cap, n, e, hc, fun i x hi => (hb.cell (p := ⟨h, off + i, none⟩) (World.block_lt_of_cell? w _ (hm i x hi)) n).trans (hm i x hi)⟩
/-- v is an ask, of which a is what matters; its rows are not in block z -/
def AkR (z : Nat) (w : World) (v : Value) (a : Ak) : Prop :=
  ∃ (n po sq : Tx) (kv vv av nv fv : Value) (m wh pid sec : Int), v = .agg #[.int .u8 a.k, .string n, .string po, .string sq, kv, vv, av, nv, fv, nV m, .int .u8 wh, .bool a.c, nV pid, nV sec] ∧
    TQ z w kv a.ks ∧ TQ z w vv a.vs ∧ (∀ t ∈ a.vs, t.size ≤ 140737488351232) ∧ IsSl av ∧ IsSl nv ∧ IsSl fv
theorem AkR.below {z : Nat} {w w' : World} {v : Value} {a : Ak} (h : AkR z w v a) (hb : Below w.heap.size w w') : AkR z w' v a := by
  obtain ⟨n, po, sq, kv, vv, av, nv, fv, m, wh, pid, sec, e, h1, h2, h3⟩ := h
  exact ⟨n, po, sq, kv, vv, av, nv, fv, m, wh, pid, sec, e, h1.below hb, h2.below hb, h3⟩
theorem AkR.chg {z : Nat} {w w' : World} {v : Value} {a : Ak} (h : AkR z w v a) (hb : Chg (fun b => b = z) w w') : AkR z w' v a := by
  obtain ⟨n, po, sq, kv, vv, av, nv, fv, m, wh, pid, sec, e, h1, h2, h3⟩ := h
  exact ⟨n, po, sq, kv, vv, av, nv, fv, m, wh, pid, sec, e, h1.chg hb, h2.chg hb, h3⟩
/-- a text that is told is not too long -/
theorem valL_size {N : Nat} (key : Tx) : ∀ (ks vs : List Tx), (∀ t ∈ vs, t.size ≤ N) → (valL key ks vs).size ≤ N
  | [], vs, _ => by rw [show valL key [] vs = e0 from rfl]; exact Nat.zero_le _
  | k :: ks, [], _ => by rw [show valL key (k :: ks) [] = e0 from rfl]; exact Nat.zero_le _
  | k :: ks, v :: vs, h => by
    rw [show valL key (k :: ks) (v :: vs) = if k = key then v else valL key ks vs from rfl]
    split
    · exact h v (by simp)
    · exact valL_size key ks vs fun t ht => h t (by simp [ht])
/-- few keys -/
def Lt (a : Ak) : Prop := a.ks.length ≤ 30 ∧ a.vs.length ≤ 30
instance (a : Ak) : Decidable (Lt a) := inferInstanceAs (Decidable (_ ∧ _))
/-- the table of rules; none of it in block z -/
def Ru (z : Nat) (w : World) : Prop := 0 ≠ z ∧ ∀ (p : Nat) (l : List R4), rulesT[p]? = some l → ∃ g o cap, g ≠ z ∧ w.cell? ⟨0, p, none⟩ = some (.slice (some ⟨g, o, none⟩) l.length cap) ∧ l.length ≤ cap ∧
  ∀ (k : Nat) (r : R4), l[k]? = some r → w.cell? ⟨g, o + k * 4, none⟩ = some (nV r.1) ∧ w.cell? ⟨g, o + k * 4 + 1, none⟩ = some (nV r.2.1) ∧ w.cell? ⟨g, o + k * 4 + 2, none⟩ = some (nV r.2.2.1) ∧ w.cell? ⟨g, o + k * 4 + 3, none⟩ = some (nV r.2.2.2)
theorem Ru.chg {z : Nat} {w w' : World} (h : Ru z w) (hb : Chg (fun b => b = z) w w') : Ru z w' := by
  refine ⟨h.1, fun p l hl => ?_⟩
  obtain ⟨g, o, cap, hn, h1, h2, h3⟩ := h.2 p l hl
  have c : ∀ (q : Addr) (v : Value), q.block ≠ z → w.cell? q = some v → w'.cell? q = some v := fun q v hq e => (hb.cell (World.block_lt_of_cell? w q e) hq).trans e
  refine ⟨g, o, cap, hn, c _ _ h.1 h1, h2, fun k r hr => ?_⟩
  obtain ⟨a1, a2, a3, a4⟩ := h3 k r hr
  exact ⟨c _ _ hn a1, c _ _ hn a2, c _ _ hn a3, c _ _ hn a4⟩
theorem Ru.below {z : Nat} {w w' : World} (h : Ru z w) (hb : Below w.heap.size w w') : Ru z w' := h.chg (.of_below hb)
def ruleD (r : R4) : DataW Unit := .agg [.lit (.int .i64 r.1), .lit (.int .i64 r.2.1), .lit (.int .i64 r.2.2.1), .lit (.int .i64 r.2.2.2)]
theorem spot_none {W : World} {ad : Addr} {x : Value} (h : W.cell? ad = some x) : ad.spot = none := by
  unfold World.cell? at h
  cases hs : ad.spot with
  | none => rfl
  | some q => rw [hs] at h; revert h; split <;> simp
theorem rules_laid {W : World} (h : Lib.VarReads Tryd.prog W "pontoon/sess.rules" Rows.laid_pontoon_sess_rules) (z : Nat) (hz : W.heap.size ≤ z) : Ru z W := by
  obtain ⟨g, t, cs, fuel, p, hg, hty, hvar, hd⟩ := h
  obtain rfl := Option.some.inj ((show Tryd.prog.globalNamed "pontoon/sess.rules" = some 0 by kernel_rfl).symm.trans hg)
  obtain rfl := Option.some.inj ((show (Tryd.prog.globals[0]?).map (·.type) = some 60 by kernel_rfl).symm.trans hty)
  have hc59 : Tryd.prog.cellsOf 59 = 1 := by kernel_rfl
  have hc52 : Tryd.prog.cellsOf 52 = 4 := by kernel_rfl
  have hcell : ∀ (p : Nat) (v : Value), cs.toList[p]? = some v → W.cell? ⟨0, p, none⟩ = some v := by
    intro p v hv
    unfold World.var? at hvar
    rw [hg] at hvar
    simp only [Option.bind_some] at hvar
    split at hvar
    · rename_i c t fr he
      injection hvar with hvar
      subst hvar
      rw [cell_of_row W _ _ _ _ _ he]
      simpa using hv
    · cases hvar
  have hrd : (Rows.laid_pontoon_sess_rules : DataW Unit) = .agg (rulesT.map fun l => .slice (l.map ruleD) []) := rfl
  rw [hrd] at hd
  have hlt : ∀ (q : Addr) (v : Value), W.cell? q = some v → q.block < W.heap.size := fun q v e => World.block_lt_of_cell? W q e
  have hcz : ∃ v, cs.toList[0]? = some v := by
    obtain ⟨f', d, q, h1, h2⟩ := Lib.array_elem Tryd.underlying60 hd 0 (by omega)
    rw [hc59, Nat.mul_one] at h2
    cases e : cs.toList with
    | nil =>
      rw [e] at h2
      have : DataW.trod (fun _ => ()) Tryd.prog W 0 (fun _ => true) false f' 59 [] = some (d, q) := h2
      rcases open_slice Tryd.underlying59 this with ⟨e, _⟩ | ⟨_, _, _, _, _, _, _, e, _⟩ <;> cases e
    | cons x l => exact ⟨x, rfl⟩
  obtain ⟨vz, hvz⟩ := hcz
  refine ⟨by have := hlt _ _ (hcell 0 vz hvz); simp only at this; omega, ?_⟩
  intro p l hl
  have hp : p < 7 := (List.getElem?_eq_some_iff.1 hl).1
  obtain ⟨f', d, q, h1, h2⟩ := Lib.array_elem Tryd.underlying60 hd p hp
  rw [hc59, Nat.mul_one] at h2
  rw [List.getElem?_map, hl] at h1
  injection h1 with h1
  subst h1
  rcases open_slice Tryd.underlying59 h2 with ⟨_, e⟩ | ⟨ad, len, cap, m, n, D, Pl, hcs, hb, hlc, hm, hmm, hx, hi⟩
  · cases e
  · rw [hc52] at hi
    have hm2 : m = len := by
      have e1 := congrArg Prod.fst hx
      have e2 := congrArg (fun (z : DataW Unit) => match z with | .slice _ s => s.length | _ => 0) e1
      simp only [List.length_nil, List.length_map, List.length_range] at e2
      have : len ≤ m := by rw [hmm]; split <;> omega
      omega
    have hel : l.map ruleD = (List.range len).map D := by
      have e1 := congrArg Prod.fst hx
      injection e1
    have hlen : l.length = len := by have := congrArg List.length hel; simpa using this
    have hv0 : cs.toList[p]? = some (.slice (some ad) len cap) := by
      have := congrArg (fun z => z[0]?) hcs
      simpa [List.getElem?_take, List.getElem?_drop] using this
    have hl0 : 0 < len := by
      have := (rule_ok l (List.mem_of_getElem? hl)).1
      have := List.length_pos_iff.2 this
      omega
    have cells : ∀ (k : Nat) (r : R4), l[k]? = some r → ∀ j u, [nV r.1, nV r.2.1, nV r.2.2.1, nV r.2.2.2][j]? = some u → W.cell? ((ad.add (k * 4)).add j) = some u := by
      intro k r hr j u hu
      have hk : k < len := by have := (List.getElem?_eq_some_iff.1 hr).1; omega
      obtain ⟨cs', hc, ht⟩ := hi k (by omega)
      obtain ⟨_, hcl, hat⟩ := World.cells?_some hc
      have hD : D k = ruleD r := by
        have e1 : (l.map ruleD)[k]? = some (ruleD r) := by rw [List.getElem?_map, hr]; rfl
        rw [hel] at e1
        simpa [hk] using e1
      rw [hD] at ht
      have := Lib.ints_of_struct (zs := [r.1, r.2.1, r.2.2.1, r.2.2.2]) Tryd.underlying52 (k := .i64) (fun i f hf => by
        match i, hf with
        | 0, hf => injection hf with hf; subst hf; exact ⟨Tryd.underlying3, rfl, by kernel_rfl⟩
        | 1, hf => injection hf with hf; subst hf; exact ⟨Tryd.underlying3, rfl, by kernel_rfl⟩
        | 2, hf => injection hf with hf; subst hf; exact ⟨Tryd.underlying3, rfl, by kernel_rfl⟩
        | 3, hf => injection hf with hf; subst hf; exact ⟨Tryd.underlying36, rfl, by kernel_rfl⟩
        | i + 4, hf => simp at hf) hc52 ht
      have hj : j < 4 := (List.getElem?_eq_some_iff.1 hu).1
      rw [hat j hj, this]
      exact hu
    obtain ⟨r0, hr0⟩ : ∃ r, l[0]? = some r := ⟨l[0]'(by omega), List.getElem?_eq_getElem _⟩
    have hsp := spot_none (cells 0 r0 hr0 0 _ rfl)
    obtain ⟨bl, of, sp⟩ := ad
    simp only [Addr.add] at hsp
    subst hsp
    refine ⟨bl, of, cap, ?_, ?_, by omega, fun k r hr => ?_⟩
    · have cc := cells 0 r0 hr0 0 _ rfl
      simp only [Addr.add_lit] at cc
      have := hlt _ _ cc
      simp only at this
      omega
    · rw [hlen]; exact hcell p _ hv0
    · have := cells k r hr
      simp only [Addr.add_lit] at this
      exact ⟨this 0 _ rfl, this 1 _ rfl, this 2 _ rfl, this 3 _ rfl⟩
theorem ru_laid {W : World} {l : List (String × DataW Unit)} (hL : laidMet Tryd.prog l W) (hm : ("pontoon/sess.rules", Rows.laid_pontoon_sess_rules) ∈ l) (z : Nat) (hz : W.heap.size ≤ z) : Ru z W := rules_laid (Lib.laidMet.reads hL hm) z hz
end Go.Proofs.YtpnjjllkbnmakaaDoor.SE
