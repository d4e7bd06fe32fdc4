/- Laws of no program for elements of any number of cells: copy, clear, the cut, more of a row, the append of a make, on rows that a call owns. -/
import Derived.Test.YtpnjjllkbnmakaaDoorSla
import Derived.Lib.AppendZerosOnto
import Derived.Lib.SliceRun
import Derived.Laws.CopyOwn
import Derived.Deep.AppendLies
import Derived.Deep.DeepAppendRoom
import Derived.Lib.Overlaps
namespace Go.Proofs.YtpnjjllkbnmakaaDoor.RW
open Go.ChangeShapes Go.WideShapes Go.ChangeAt Go.RowKit
set_option maxRecDepth 100000
set_option linter.unusedVariables false
set_option linter.unusedSimpArgs false

/-- rows, one behind the other -/
def fz (l : List (List Value)) : List Value := l.flatten
def Uni (z : Nat) (l : List (List Value)) : Prop := ∀ r ∈ l, r.length = z
theorem fz_append (a b : List (List Value)) : fz (a ++ b) = fz a ++ fz b := List.flatten_append
theorem Uni.cons {z : Nat} {r : List Value} {l : List (List Value)} (h : Uni z (r :: l)) : r.length = z ∧ Uni z l := ⟨h r (List.mem_cons_self ..), fun x hx => h x (List.mem_cons_of_mem _ hx)⟩
theorem Uni.take {z : Nat} {l : List (List Value)} (h : Uni z l) (i : Nat) : Uni z (l.take i) := fun r hr => h r (List.mem_of_mem_take hr)
theorem Uni.drop {z : Nat} {l : List (List Value)} (h : Uni z l) (i : Nat) : Uni z (l.drop i) := fun r hr => h r (List.mem_of_mem_drop hr)
theorem Uni.app {z : Nat} {a b : List (List Value)} (h : Uni z a) (k : Uni z b) : Uni z (a ++ b) := fun r hr => (List.mem_append.1 hr).elim (h r) (k r)
theorem Uni.rep {z k : Nat} {r : List Value} (h : r.length = z) : Uni z (List.replicate k r) := fun x hx => by rw [List.eq_of_mem_replicate hx]; exact h
theorem fz_len {z : Nat} : ∀ {l : List (List Value)}, Uni z l → (fz l).length = l.length * z
  | [], _ => by simp [fz]
  | r :: l, h => by
    have ih := fz_len (l := l) h.cons.2
    have h1 := h.cons.1
    rw [show fz (r :: l) = r ++ fz l from rfl, List.length_append, ih, List.length_cons, h1, Nat.add_mul]; omega
theorem fz_take {z : Nat} : ∀ {l : List (List Value)}, Uni z l → ∀ i, fz (l.take i) = (fz l).take (i * z)
  | l, _, 0 => by simp [fz]
  | [], _, i + 1 => by simp [fz]
  | r :: l, h, i + 1 => by
    have h1 := h.cons.1
    rw [List.take_succ_cons, show fz (r :: l.take i) = r ++ fz (l.take i) from rfl, show fz (r :: l) = r ++ fz l from rfl, fz_take h.cons.2 i, List.take_append, List.take_of_length_le (l := r) (by rw [h1, Nat.add_mul]; omega)]
    congr 2
    rw [h1, Nat.add_mul]; omega
theorem fz_drop {z : Nat} : ∀ {l : List (List Value)}, Uni z l → ∀ i, fz (l.drop i) = (fz l).drop (i * z)
  | l, _, 0 => by simp
  | [], _, i + 1 => by simp [fz]
  | r :: l, h, i + 1 => by
    have h1 := h.cons.1
    rw [List.drop_succ_cons, show fz (r :: l) = r ++ fz l from rfl, fz_drop h.cons.2 i, List.drop_append, List.drop_of_length_le (l := r) (by rw [h1, Nat.add_mul]; omega), List.nil_append]
    congr 1
    rw [h1, Nat.add_mul]; omega
theorem fz_at {z : Nat} {l : List (List Value)} (h : Uni z l) {i : Nat} {r : List Value} (hi : l[i]? = some r) (j : Nat) (hj : j < z) : (fz l)[i * z + j]? = r[j]? := by
  have h0 := (List.getElem?_eq_some_iff.1 hi).1
  have e1 := fz_drop h i
  rw [List.drop_eq_getElem_cons h0] at e1
  have e2 : l[i] = r := by rw [List.getElem?_eq_getElem h0] at hi; injection hi
  rw [e2] at e1
  have hr : r.length = z := h r (List.mem_of_getElem? hi)
  have e3 := congrArg (fun q => q[j]?) e1
  simp only [List.getElem?_drop] at e3
  rw [← e3, show fz (r :: l.drop (i + 1)) = r ++ fz (l.drop (i + 1)) from rfl, List.getElem?_append_left (by omega)]
theorem fz_all {q : Value → Prop} {l : List (List Value)} (h : ∀ r ∈ l, ∀ v ∈ r, q v) : ∀ v ∈ fz l, q v := fun v hv => by
  obtain ⟨r, hr, hv⟩ := List.mem_flatten.1 hv
  exact h r hr v hv
theorem fz_rep (cs : List Value) (k : Nat) : ∀ j, j < k * cs.length → (fz (List.replicate k cs))[j]? = cs[j % cs.length]? := by
  intro j hj
  have hz : 0 < cs.length := by
    rcases Nat.eq_zero_or_pos cs.length with h | h
    · rw [h, Nat.mul_zero] at hj; omega
    · exact h
  have h1 : j / cs.length < k := Nat.div_lt_of_lt_mul (by rw [Nat.mul_comm]; exact hj)
  have := fz_at (z := cs.length) (l := List.replicate k cs) (Uni.rep rfl) (i := j / cs.length) (r := cs) (by rw [List.getElem?_replicate, if_pos h1]) (j % cs.length) (Nat.mod_lt _ hz)
  rwa [show j / cs.length * cs.length + j % cs.length = j from Nat.div_add_mod' ..] at this
theorem zero_fz (cs : Array Value) (k : Nat) : (Builtin.zeroCells cs k).toList = fz (List.replicate k cs.toList) := by
  apply List.ext_getElem?
  intro j
  by_cases hj : j < k * cs.size
  · have hz : 0 < cs.size := by
      rcases Nat.eq_zero_or_pos cs.size with h | h
      · rw [h, Nat.mul_zero] at hj; omega
      · exact h
    have h2 := Nat.mod_lt j hz
    rw [fz_rep cs.toList k j (by simpa using hj)]
    simp [Builtin.zeroCells, hj, h2]
  · have e2 : (fz (List.replicate k cs.toList))[j]? = none := by
      rw [List.getElem?_eq_none_iff, fz_len (z := cs.size) (Uni.rep (by simp)), List.length_replicate]; omega
    rw [e2]
    simp [Builtin.zeroCells]; omega
theorem take_splice {α : Type} (L : List α) (o N : Nat) (cs : List α) (h1 : o + cs.length ≤ N) (h2 : N ≤ L.length) : (L.take o ++ cs ++ L.drop (o + cs.length)).take N = splice (L.take N) o cs := by
  unfold splice
  apply List.ext_getElem?
  intro j
  rw [List.getElem?_take]
  have hlo : (L.take o).length = o := by rw [List.length_take]; omega
  have hlo2 : ((L.take N).take o).length = o := by rw [List.length_take, List.length_take]; omega
  by_cases hj : j < N
  · rw [if_pos hj, List.append_assoc, List.getElem?_append (l₁ := L.take o), List.getElem?_append (l₁ := (L.take N).take o), hlo, hlo2]
    by_cases h3 : j < o
    · rw [if_pos h3, if_pos h3, List.getElem?_take, if_pos h3, List.getElem?_take, if_pos h3, List.getElem?_take, if_pos hj]
    · rw [if_neg h3, if_neg h3, List.getElem?_append, List.getElem?_append]
      by_cases h4 : j - o < cs.length
      · rw [if_pos h4, if_pos h4]
      · rw [if_neg h4, if_neg h4, List.getElem?_drop, List.getElem?_drop, List.getElem?_take, if_pos (by omega)]
  · rw [if_neg hj]
    symm
    rw [List.getElem?_eq_none_iff, List.length_append, List.length_append, hlo2, List.length_drop, List.length_take]; omega
section
variable {P : Program} {w : World} {B g n cap z : Nat} {e : TypeId} {xs : List Value}
/-- cells stored into a row that the call owns -/
theorem run_store_own (h : w.ownsRow B e z (.slice (some ⟨g, 0, none⟩) n cap) n xs) (o : Nat) (cs : List Value) (hfit : o + cs.length ≤ n * z) (h1 : ∀ v ∈ cs, v.oneCell' = true) :
    ∃ w', (storeCells ⟨g, o, none⟩ cs).run P w = .ok () w' ∧ w'.ownsRow B e z (.slice (some ⟨g, 0, none⟩) n cap) n (splice xs o cs) ∧ w.grownBy w' (some g) := by
  rcases h.2 with ⟨h', _⟩ | ⟨g', cap', cur, h', hb, hg, hnc, hcm, hcs, htake⟩
  · simp at h'
  · simp only [Value.slice.injEq, Option.some.injEq, Addr.mk.injEq, and_true, true_and] at h'
    obtain ⟨rfl, rfl⟩ := h'
    have hN : n * z ≤ cur.toList.length := by rw [Array.length_toList, hcs]; exact Nat.mul_le_mul_right _ hnc
    have hst := run_storeCells_at P g o e cs 0 cur w hg (by rw [Array.length_toList] at hN; omega) h1
    simp only [Nat.add_zero] at hst
    have hl : (splice xs o cs).length = n * z := by rw [length_splice _ _ _ (by rw [h.1]; exact hfit), h.1]
    refine ⟨_, hst, ⟨hl, .inr ⟨g, cap, _, rfl, hb, setRow_heap w g cur _ e _ hg, hnc, hcm, ?_, ?_⟩⟩, ⟨rfl, rfl, rfl, by simp, fun k _ hk => setRow_other w g k _ (fun e => hk (by simp [e]))⟩⟩
    · simp only [List.size_toArray, List.length_append, List.length_take, List.length_drop, Array.length_toList]
      rw [Array.length_toList] at hN
      omega
    · rw [show (cur.toList.take o ++ cs ++ cur.toList.drop (o + cs.length)).toArray.toList = cur.toList.take o ++ cs ++ cur.toList.drop (o + cs.length) from rfl, take_splice _ _ _ _ hfit hN, htake]
/-- a shorter slice of the same row -/
theorem own_cut (h : w.ownsRow B e z (.slice (some ⟨g, 0, none⟩) n cap) n xs) (k : Nat) (hk : k ≤ n) : w.ownsRow B e z (.slice (some ⟨g, 0, none⟩) k cap) k (xs.take (k * z)) := by
  rcases h.2 with ⟨h', _⟩ | ⟨g', cap', cur, h', hb, hg, hnc, hcm, hcs, htake⟩
  · simp at h'
  · simp only [Value.slice.injEq, Option.some.injEq, Addr.mk.injEq, and_true, true_and] at h'
    obtain ⟨rfl, rfl⟩ := h'
    have hkz : k * z ≤ n * z := Nat.mul_le_mul_right _ hk
    refine ⟨by rw [List.length_take, h.1]; omega, .inr ⟨g, cap, cur, rfl, hb, hg, by omega, hcm, hcs, ?_⟩⟩
    rw [← htake, List.take_take]
    congr 1; omega
theorem run_clear (t ty : TypeId) (i : TypeInfo) (zc : Array Value) (ht : P.underlying t = some (.slice e)) (hi : P.info? e = some i) (hz : i.zero = some (.agg zc)) (hzs : zc.size = z) (h1 : ∀ v ∈ zc.toList, v.oneCell' = true)
    (h : w.ownsRow B e z (.slice (some ⟨g, 0, none⟩) n cap) n xs) (k c : Nat) (hk : k < n) :
    ∃ w', (Builtin.clear_ #[t] ty #[.slice (some ⟨g, k * z, none⟩) (n - k) c]).run P w = .ok (.tuple #[]) w' ∧ w'.ownsRow B e z (.slice (some ⟨g, 0, none⟩) n cap) n (splice xs (k * z) (fz (List.replicate (n - k) zc.toList))) ∧ w.grownBy w' (some g) := by
  have hone : ∀ v ∈ fz (List.replicate (n - k) zc.toList), v.oneCell' = true := fz_all fun r hr => by
    rw [List.eq_of_mem_replicate hr]; exact h1
  obtain ⟨w', hs, ho, hg⟩ := run_store_own (P := P) h (k * z) (fz (List.replicate (n - k) zc.toList)) (by rw [fz_len (z := z) (Uni.rep (by simpa using hzs)), List.length_replicate, ← Nat.add_mul]; exact Nat.mul_le_mul_right _ (by omega)) hone
  refine ⟨w', ?_, ho, hg⟩
  obtain ⟨m, hm⟩ : ∃ m, n - k = m + 1 := ⟨n - k - 1, by omega⟩
  rw [hm] at hs ⊢
  have hzc2 : (Builtin.zeroCells (Value.agg zc).cells (m + 1)).toList = fz (List.replicate (m + 1) zc.toList) := zero_fz zc (m + 1)
  simp [Builtin.clear_, run_underlying ht, zeroValue, typeInfo, hi, hz, hzc2, hs]
theorem wpList_clear {ops : Array Oper} {rest : List Oper} {o : Oper} {x : Act} {Q : Exit → Act → World → Prop} (hgd : o.guard = none) (s : Operand) (t : TypeId)
    (ho : o.op = .call { callee := .builtin .clear, args := #[s], argTypes := #[t] }) (i : TypeInfo) (zc : Array Value) (ht : P.underlying t = some (.slice e)) (hi : P.info? e = some i) (hz : i.zero = some (.agg zc)) (hzs : zc.size = z) (h1 : ∀ v ∈ zc.toList, v.oneCell' = true)
    (k c : Nat) (hs : x.eval s = .slice (some ⟨g, k * z, none⟩) (n - k) c) (h : w.ownsRow B e z (.slice (some ⟨g, 0, none⟩) n cap) n xs) (hk : k < n)
    (hq : ∀ w', w'.ownsRow B e z (.slice (some ⟨g, 0, none⟩) n cap) n (splice xs (k * z) (fz (List.replicate (n - k) zc.toList))) → w.grownBy w' (some g) → wpList P ops Q rest (x.put o.dst (.tuple #[])) w') : wpList P ops Q (o :: rest) x w := by
  refine wpList_plain hgd fun K hK => ?_
  obtain ⟨w', hr, h3, h4⟩ := run_clear (P := P) t o.type i zc ht hi hz hzs h1 h k c hk
  unfold Oper.wp
  simp [execOp, ho, resolve, invoke, builtin, hs, hr, Result.andThen]
  exact hK _ _ (hq w' h3 h4)
/-- more of the same row -/
theorem own_more (h : w.ownsRow B e z (.slice (some ⟨g, 0, none⟩) n cap) n xs) (k : Nat) (hn : n ≤ k) (hk : k ≤ cap) : ∃ ys, ys.length = (k - n) * z ∧ w.ownsRow B e z (.slice (some ⟨g, 0, none⟩) k cap) k (xs ++ ys) := by
  rcases h.2 with ⟨h', _⟩ | ⟨g', cap', cur, h', hb, hg, hnc, hcm, hcs, htake⟩
  · simp at h'
  · simp only [Value.slice.injEq, Option.some.injEq, Addr.mk.injEq, and_true, true_and] at h'
    obtain ⟨rfl, rfl⟩ := h'
    have hkz : k * z ≤ cap * z := Nat.mul_le_mul_right _ hk
    have hnz : n * z ≤ k * z := Nat.mul_le_mul_right _ hn
    have hl : cur.toList.length = cap * z := by simpa using hcs
    refine ⟨(cur.toList.take (k * z)).drop (n * z), by rw [List.length_drop, List.length_take, hl, Nat.sub_mul]; omega, ?_, .inr ⟨g, cap, cur, rfl, hb, hg, by omega, hcm, hcs, ?_⟩⟩
    · rw [List.length_append, List.length_drop, List.length_take, hl, h.1]; omega
    · rw [← htake, ← show (cur.toList.take (k * z)).take (n * z) = cur.toList.take (n * z) by rw [List.take_take]; congr 1; omega, List.take_append_drop]
theorem run_copy2 (dT sT ty : TypeId) (i : TypeInfo) (ht : P.underlying dT = some (.slice e)) (hi : P.info? e = some i) (hsz : i.size = z)
    (h : w.ownsRow B e z (.slice (some ⟨g, 0, none⟩) n cap) n xs) (o dLen dCap : Nat) (sp : Option Addr) (sLen sCap : Nat) (cs : List Value) (hl : cs.length = Nat.min sLen dLen * z)
    (hsrc : 0 < Nat.min sLen dLen → ∃ ad, sp = some ad ∧ ∀ j v, cs[j]? = some v → w.cell? (ad.add j) = some v) (hfit : o + cs.length ≤ n * z) (h1 : ∀ v ∈ cs, v.oneCell' = true) :
    ∃ w', (Builtin.copy_ #[dT, sT] ty #[.slice (some ⟨g, o, none⟩) dLen dCap, .slice sp sLen sCap]).run P w = .ok (goInt (Nat.min sLen dLen)) w' ∧ w'.ownsRow B e z (.slice (some ⟨g, 0, none⟩) n cap) n (splice xs o cs) ∧ w.grownBy w' (some g) := by
  obtain ⟨w', hs, ho, hg⟩ := run_store_own (P := P) h o cs hfit h1
  refine ⟨w', ?_, ho, hg⟩
  have hf : (Builtin.firstCells z (Nat.min sLen dLen) (.slice sp sLen sCap)).run P w = .ok cs.toArray w := by
    by_cases h0 : 0 < Nat.min sLen dLen
    · obtain ⟨ad, rfl, hc⟩ := hsrc h0
      exact run_firstCells_some w z _ ad sLen sCap cs hl hc
    · have e0 : Nat.min sLen dLen = 0 := by omega
      rw [e0, Nat.zero_mul] at hl
      have : cs = [] := List.eq_nil_of_length_eq_zero hl
      subst this
      rw [e0]
      cases sp with
      | none => exact run_firstCells_none w z 0 sLen sCap
      | some ad => exact run_firstCells_some w z 0 ad sLen sCap [] (by simp) (fun j v hj => by simp at hj)
  subst hsz
  simp [Builtin.copy_, run_underlying ht, Builtin.lenOf, sizeOf, typeInfo, hi, hf, hs]
theorem wpList_copy2 {ops : Array Oper} {rest : List Oper} {o : Oper} {a : Act} {Q : Exit → Act → World → Prop} (hgd : o.guard = none) (d s : Operand) (dT sT : TypeId)
    (ho : o.op = .call { callee := .builtin .copy, args := #[d, s], argTypes := #[dT, sT] }) (i : TypeInfo) (ht : P.underlying dT = some (.slice e)) (hi : P.info? e = some i) (hsz : i.size = z)
    (off dLen dCap : Nat) (sp : Option Addr) (sLen sCap : Nat) (hd : a.eval d = .slice (some ⟨g, off, none⟩) dLen dCap) (hs : a.eval s = .slice sp sLen sCap)
    (h : w.ownsRow B e z (.slice (some ⟨g, 0, none⟩) n cap) n xs) (cs : List Value) (hl : cs.length = Nat.min sLen dLen * z)
    (hsrc : 0 < Nat.min sLen dLen → ∃ ad, sp = some ad ∧ ∀ j v, cs[j]? = some v → w.cell? (ad.add j) = some v) (hfit : off + cs.length ≤ n * z) (h1 : ∀ v ∈ cs, v.oneCell' = true)
    (hk : ∀ w', w'.ownsRow B e z (.slice (some ⟨g, 0, none⟩) n cap) n (splice xs off cs) → w.grownBy w' (some g) → wpList P ops Q rest (a.put o.dst (goInt (Nat.min sLen dLen))) w') : wpList P ops Q (o :: rest) a w := by
  refine wpList_plain hgd fun K hK => ?_
  obtain ⟨w', hr, h2, h3⟩ := run_copy2 (P := P) dT sT o.type i ht hi hsz h off dLen dCap sp sLen sCap cs hl hsrc hfit h1
  unfold Oper.wp
  simp [execOp, ho, resolve, invoke, builtin, hd, hs, hr, Result.andThen]
  exact hK _ _ (hk w' h2 h3)
theorem step_copy2 {ops : Array Oper} {o : Oper} {a : Act} {K : Act → World → Prop} {Q : Exit → Act → World → Prop} {E : Prop} (hgd : o.guard = none) (d s : Operand) (dT sT : TypeId)
    (ho : o.op = .call { callee := .builtin .copy, args := #[d, s], argTypes := #[dT, sT] }) (i : TypeInfo) (ht : P.underlying dT = some (.slice e)) (hi : P.info? e = some i) (hsz : i.size = z)
    (off dLen dCap : Nat) (sp : Option Addr) (sLen sCap : Nat) (hd : a.eval d = .slice (some ⟨g, off, none⟩) dLen dCap) (hs : a.eval s = .slice sp sLen sCap)
    (h : w.ownsRow B e z (.slice (some ⟨g, 0, none⟩) n cap) n xs) (cs : List Value) (hl : cs.length = Nat.min sLen dLen * z)
    (hsrc : 0 < Nat.min sLen dLen → ∃ ad, sp = some ad ∧ ∀ j v, cs[j]? = some v → w.cell? (ad.add j) = some v) (hfit : off + cs.length ≤ n * z) (h1 : ∀ v ∈ cs, v.oneCell' = true)
    (hk : ∀ w', w'.ownsRow B e z (.slice (some ⟨g, 0, none⟩) n cap) n (splice xs off cs) → w.grownBy w' (some g) → K (a.put o.dst (goInt (Nat.min sLen dLen))) w') :
    if Region.wanted o (yielded ops a.tmps) = true then Oper.wp P o a w K Q else E := by
  have hw : Region.wanted o (yielded ops a.tmps) = true := by simp [Region.wanted, hgd]
  rw [if_pos hw]
  obtain ⟨w', hr, h2, h3⟩ := run_copy2 (P := P) dT sT o.type i ht hi hsz h off dLen dCap sp sLen sCap cs hl hsrc hfit h1
  unfold Oper.wp
  simp [execOp, ho, resolve, invoke, builtin, hd, hs, hr, Result.andThen]
  exact hk w' h2 h3
/-- append(s[:i], make(S, k)...) where there is no room: a new row -/
theorem run_app_zeros (t tn ty : TypeId) (i : TypeInfo) (zc : Array Value) (bytes : Nat) (kq kn : IntKind) (ht : P.underlying t = some (.slice e)) (htn : P.underlying tn = some (.int kn)) (hi : P.info? e = some i) (hz : i.zero = some (.agg zc)) (hzs : zc.size = z) (hz0 : 0 < z) (hsz : i.size = z) (hby : i.bytes = bytes)
    (base : Option Addr) (m sCap : Nat) (olds : List Value) (hol : olds.length = m * z) (hold : 0 < m → ∃ ad, base = some ad ∧ ∀ j v, olds[j]? = some v → w.cell? (ad.add j) = some v)
    (k : Nat) (h0 : 0 < k) (hg : sCap < m + k) (hb : B ≤ w.heap.size) (h48 : (m + k) * bytes ≤ 140737488355328) (h63 : m + k ≤ maxLen) :
    ∃ c w', (Builtin.append_ #[t, tn] ty #[.slice base m sCap, .int kq k]).run P w = .ok (.slice (some ⟨w.heap.size, 0, none⟩) (m + k) c) w' ∧
      w'.ownsRow B e z (.slice (some ⟨w.heap.size, 0, none⟩) (m + k) c) (m + k) (olds ++ fz (List.replicate k zc.toList)) ∧ w.grownBy w' none := by
  have hf : (Builtin.firstCells i.size m (.slice base m sCap)).run P w.drew = .ok olds.toArray w.drew := by
    rw [hsz]
    by_cases hm : 0 < m
    · obtain ⟨ad, rfl, hc⟩ := hold hm
      exact run_firstCells_some w.drew z m ad m sCap olds hol hc
    · have : m = 0 := by omega
      subst this
      have : olds = [] := List.eq_nil_of_length_eq_zero (by simpa using hol)
      subst this
      cases base with
      | none => exact run_firstCells_none w.drew z 0 0 sCap
      | some ad => exact run_firstCells_some w.drew z 0 ad 0 sCap [] (by simp) (fun j v hj => by simp at hj)
  have hmk : k * bytes ≤ (m + k) * bytes := Nat.mul_le_mul_right _ (by omega)
  have hr := Lib.run_append_grow_zeros w t tn ty e i (.agg zc) kq kn ht htn hi hz base m sCap olds hf k h0 (by omega) hg (by unfold maxLen at h63; omega) (by rw [hby]; omega) (by rw [hby]; exact growslice_fits hg h48)
  refine ⟨_, _, hr, ?_, ?_⟩
  · have e1 : (Value.agg zc).cells = zc := rfl
    rw [e1]
    have hcl : m + k ≤ grownCap w (m + k) sCap e := grownCap_ge w _ _ _
    have hs2 : ∀ q, (Builtin.zeroCells zc q).size = q * z := fun q => by rw [size_zeroCells, hzs]
    have hfl : (fz (List.replicate k zc.toList)).length = k * z := by rw [fz_len (z := z) (Uni.rep (by simpa using hzs)), List.length_replicate]
    refine ⟨by rw [List.length_append, hol, hfl, Nat.add_mul], .inr ⟨w.heap.size, _, (olds.toArray ++ Builtin.zeroCells zc k ++ Builtin.zeroCells zc (grownCap w (m + k) sCap e - (m + k))), rfl, hb, ?_, hcl, grownCap_le_maxLen w _ _ _ h63, ?_, ?_⟩⟩
    · exact heap_alloc_new w.drew _
    · rw [Array.size_append, Array.size_append, hs2, hs2, List.size_toArray, hol, ← Nat.add_mul, ← Nat.add_mul]; congr 1; omega
    · rw [Array.toList_append, Array.toList_append, zero_fz, List.take_append_of_le_length (by rw [List.length_append, hfl, hol, Nat.add_mul]; omega), List.take_of_length_le (by rw [List.length_append, hfl, hol, Nat.add_mul]; omega)]
  · have G := World.grownBy_alloc w.drew (.cells (olds.toArray ++ Builtin.zeroCells (Value.agg zc).cells k ++ Builtin.zeroCells (Value.agg zc).cells (grownCap w (m + k) sCap e - (m + k))) e) none
    exact ⟨G.os, G.tape, G.output, G.size, fun j hj hn => G.block j hj hn⟩
end
end Go.Proofs.YtpnjjllkbnmakaaDoor.RW
