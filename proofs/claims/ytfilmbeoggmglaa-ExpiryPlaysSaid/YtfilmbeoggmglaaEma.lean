/- Eyp, Exz, Eya, Eyb, Eyc, Eyd -/
import Derived.Test.YtfilmbeoggmglaaExv
import Derived.Test.YtfilmbeoggmglaaSmx
import Derived.Test.YtfilmbeoggmglaaSna
import Derived.Deep.CutBlock
import Derived.Deep.DeepCutAuto
set_option linter.unusedSimpArgs false
set_option linter.unusedVariables false
namespace Go.Proofs.Ytfilmbeoggmglaa.EX
open Go.ChangeShapes Go.WideShapes Go.ChangeAt Go.RowKit Go.Maps Go.ChangeMaps
open Go.Proofs.Ytfilmbeoggmglaa.SL Go.Proofs.Ytfilmbeoggmglaa.RW
set_option maxRecDepth 100000
set_option linter.unusedVariables false
set_option linter.unusedSimpArgs false

def Rng (I : List It) : Prop := ∀ e ∈ I, 0 ≤ e.2 ∧ e.2 ≤ 1099511627776
theorem Rng.setI {k : ByteArray} {t : Int} {I : List It} (h : Rng I) (ht : 0 ≤ t ∧ t ≤ 1099511627776) : Rng (setI k t I) := fun y hy => by
  rcases mem_setI hy with rfl | hy
  · exact ht
  · exact h y hy
theorem drop_len (k : ByteArray) : ∀ I : List It, (keysI I).Nodup → (dropI k I).length + (if (atI k I).isSome then 1 else 0) = I.length
  | [], _ => rfl
  | e :: I, h => by
    obtain ⟨h1, h2⟩ := List.nodup_cons.1 h
    have ih := drop_len k I h2
    by_cases hk : e.1 = k
    · have e1 : dropI k (e :: I) = I := by
        unfold dropI
        rw [List.filter_cons, if_neg (by simp [hk]), List.filter_eq_self]
        intro y hy
        exact decide_eq_true fun hy2 => h1 (by show e.1 ∈ _; rw [hk, ← hy2]; exact List.mem_map_of_mem (f := (·.1)) hy)
      have e2 : atI k (e :: I) = some e.2 := by unfold atI; simp [hk]
      rw [e1, e2]; rfl
    · have e1 : dropI k (e :: I) = e :: dropI k I := by unfold dropI; rw [List.filter_cons, if_pos (by simp [hk])]
      have e2 : atI k (e :: I) = atI k I := by unfold atI; rw [List.find?_cons, decide_eq_false hk]
      rw [e1, e2, List.length_cons, List.length_cons]; omega
theorem le_gt_len (t : Int) : ∀ I : List It, (leI t I).length + (gtI t I).length = I.length
  | [] => rfl
  | e :: I => by
    have ih := le_gt_len t I
    unfold leI gtI at ih ⊢
    rw [List.filter_cons, List.filter_cons]
    by_cases hx : t < e.2 <;> simp [hx] <;> omega
theorem set_len {k : ByteArray} {I : List It} (h : (keysI I).Nodup) (t : Int) : (setI k t I).length + (if (atI k I).isSome then 1 else 0) = I.length + 1 := by
  have h1 := drop_len k I h
  have h2 := le_gt_len t (dropI k I)
  unfold setI
  rw [List.length_append, List.length_cons]; omega
theorem atI_of : ∀ {I : List It}, (keysI I).Nodup → ∀ {e : It}, e ∈ I → atI e.1 I = some e.2
  | f :: I, h, e, he => by
    obtain ⟨h1, h2⟩ := List.nodup_cons.1 h
    rcases List.mem_cons.1 he with rfl | he
    · unfold atI; simp
    · have hne : f.1 ≠ e.1 := fun hy2 => h1 (by show f.1 ∈ _; rw [hy2]; exact List.mem_map_of_mem (f := (·.1)) he)
      have e2 : atI e.1 (f :: I) = atI e.1 I := by unfold atI; rw [List.find?_cons, decide_eq_false hne]
      rw [e2]; exact atI_of h2 he
theorem at_le_gt {I : List It} (h : (keysI I).Nodup) {now : Int} {e : It} (he : e ∈ leI now I) : atI e.1 I = some e.2 ∧ atI e.1 (gtI now I) = none ∧ ¬ now < e.2 := by
  obtain ⟨h1, h2⟩ := List.mem_filter.1 he
  have h3 : ¬ now < e.2 := by simpa using h2
  refine ⟨atI_of h h1, atI_none fun f hf hfe => ?_, h3⟩
  obtain ⟨f1, f2⟩ := List.mem_filter.1 hf
  have a1 := atI_of h h1
  have a2 := atI_of h f1
  rw [hfe, a1] at a2
  injection a2 with a2
  have f3 : now < f.2 := by simpa using f2
  omega
theorem gt_gt (now : Int) (I : List It) : gtI now (gtI now I) = gtI now I := by unfold gtI; rw [List.filter_filter]; simp
theorem le_gt (now : Int) (I : List It) : leI now (gtI now I) = [] := by
  unfold leI; rw [List.filter_eq_nil_iff]; intro y hy
  have := (List.mem_filter.1 hy).2
  simpa using this
theorem Rng.le {I : List It} (h : Rng I) : leI 1099511627776 I = I := by
  unfold leI; rw [List.filter_eq_self]; intro y hy
  have := h y hy
  simp; omega
theorem Rng.gt {I : List It} (h : Rng I) : gtI 1099511627776 I = [] := by
  unfold gtI; rw [List.filter_eq_nil_iff]; intro y hy
  have := h y hy
  simp; omega
theorem lq_keysN {w0 w : World} {g n : Nat} {I : List It} {O : List Kp} (h : LQ w0 w g n I O) (hn : n ≤ 1000000) (d : List ByteArray) (hd : keysI I = d) (N : Nat) (hN : d.length = N) :
    Calls Try.prog 38 #[ptr g] w fun e w' => ∃ v c, e = .returned (.slice v N c) ∧ Below w.heap.size w w' ∧ LQ w0 w' g n I (.txt (.slice v N c) d :: O) := by
  subst hN; exact lq_keys h hn d hd
open Go.Proofs.Ytfilmbeoggmglaa.SL Go.Proofs.Ytfilmbeoggmglaa.RW
set_option maxRecDepth 100000
set_option linter.unusedVariables false
set_option linter.unusedSimpArgs false

def EI (B : Nat) (w : World) (v : Value) (l : List En) : Prop := w.ownsRow B 104 2 v l.length (SL.eC l)
theorem EI.er {B : Nat} {w : World} {v : Value} {l : List En} (h : EI B w v l) : ER w v l := by
  rcases h.2 with ⟨rfl, hz⟩ | ⟨g, cap, cur, rfl, hb, hh, hc, hm, hs, ht⟩
  · exact .inl ⟨none, 0, rfl, List.eq_nil_of_length_eq_zero hz⟩
  · refine .inr ⟨g, 0, cap, rfl, hc, fun i y hi => ?_⟩
    obtain ⟨e1, e2⟩ := SL.eC_at l i y hi
    have h1 := World.ownsRow.cells h (g := g) rfl _ _ e1
    have h2 := World.ownsRow.cells h (g := g) rfl _ _ e2
    rw [Addr.add_lit] at h1 h2
    exact ⟨h1, by rw [Nat.add_assoc]; exact h2⟩
theorem EI.nil (B : Nat) (w : World) : EI B w (.slice none 0 0) [] := World.ownsRow_nil _ _ _ _
theorem EI.below {B : Nat} {w w' : World} {v : Value} {l : List En} (h : EI B w v l) (hb : Below w.heap.size w w') : EI B w' v l := by
  refine ⟨h.1, ?_⟩
  rcases h.2 with h2 | ⟨g, cap, cur, rfl, hbb, hg, hr⟩
  · exact .inl h2
  · exact .inr ⟨g, cap, cur, rfl, hbb, (hb.block g (World.ownsRow.lt h g rfl).2).trans hg, hr⟩
theorem iItm : ∃ i, Try.prog.info? 104 = some i ∧ i.zero = some (.agg #[.string ByteArray.empty, .int .i64 0]) ∧ i.size = 2 ∧ i.bytes = 24 := by
  have h : (Try.prog.info? 104).bind (fun i => if i.size = 2 ∧ i.bytes = 24 then i.zero else none) = some (.agg #[.string ByteArray.empty, .int .i64 0]) := by kernel_rfl
  cases hi : Try.prog.info? 104 with
  | none => rw [hi] at h; cases h
  | some j =>
    rw [hi] at h
    by_cases hc : j.size = 2 ∧ j.bytes = 24
    · simp [hc] at h
      exact ⟨j, rfl, h, hc.1, hc.2⟩
    · simp [hc] at h
theorem wpList_app_its {w : World} {ops : Array Oper} {rest : List Oper} {o : Oper} {a : Act} {Q : Exit → Act → World → Prop} (B : Nat) (v : Value) (d : List En) (v2 : Value) (e : List En) (L : List En) (hL : d ++ e = L) (hgd : o.guard = none) (s x : Operand)
    (ho : o.op = .call { callee := .builtin .append, args := #[s, x], argTypes := #[56, 56] }) (hs : a.eval s = v) (hown : EI B w v d) (hx : a.eval x = v2) (h2 : ER w v2 e)
    (hd : d.length + e.length ≤ 1099511627776) (hB : B ≤ w.heap.size)
    (hk : ∀ va c w', EI B w' (.slice va L.length c) L → w.grownBy w' v.ownBlock ∨ w = w' → wpList Try.prog ops Q rest (a.put o.dst (.slice va L.length c)) w') : wpList Try.prog ops Q (o :: rest) a w := by
  subst hL
  obtain ⟨i, hi, hz, hsz, hby⟩ := iItm
  have none_ : ∀ p c, v2 = .slice p 0 c → e = [] → wpList Try.prog ops Q (o :: rest) a w := by
    rintro p c rfl rfl
    have hown0 := hown
    obtain ⟨va, vc, rfl⟩ := hown.er.form
    refine wpList_plain hgd fun K' hK => ?_
    have hrun := run_app_nothing (P := Try.prog) (w := w) B 56 o.type 104 i 2 Try.underlying56 hi _ _ _ hown p c
    unfold Oper.wp
    simp [execOp, ho, resolve, invoke, builtin, hs, hx, hrun, Result.andThen]
    refine hK _ _ ?_
    have := hk va vc w (by rw [List.append_nil]; exact hown0) (.inr rfl)
    rw [List.append_nil] at this
    exact this
  rcases h2 with ⟨A, cap, e1, e2⟩ | ⟨b, off, cap, e1, hcap, hx2⟩
  · exact none_ A cap e1 e2
  · by_cases h0 : e.length = 0
    · exact none_ _ cap (by rw [e1, h0]) (List.eq_nil_of_length_eq_zero h0)
    · subst e1
      refine wpList_append_lies _ hgd s x 56 ho B 104 i (.agg #[.string ByteArray.empty, .int .i64 0]) 2 24 Try.underlying56 hi hz hsz hby rfl (by decide) v d.length (SL.eC d) hs hown ⟨b, off, none⟩ e.length cap (SL.eC e) hx (SL.eC_len e) ?_ SL.eC_one (by omega) (by unfold maxLen; omega) (by omega) hB _ rfl ?_
      · intro j u hu
        obtain ⟨q, y, hq, h | h⟩ := SL.eC_inv e j u hu
        · rw [Addr.add_lit, h.1, h.2]; exact (hx2 q y hq).1
        · rw [Addr.add_lit, h.1, h.2, ← Nat.add_assoc]; exact (hx2 q y hq).2
      · intro g' cap' w' o1 o2 o3 o4
        have e1 : d.length + e.length = (d ++ e).length := by rw [List.length_append]
        rw [e1] at o1 ⊢
        exact hk _ _ _ (by unfold EI; rw [SL.eC_app]; exact o1) (.inl o2)
theorem one_it {w : World} {b : Nat} {y : En} (h : Bk w b 104 #[.string y.1, .int .i64 y.2]) : ER w (.slice (some ⟨b, 0, none⟩) 1 1) [y] :=
  .inr ⟨b, 0, 1, rfl, Nat.le_refl _, fun i x hi => by
    cases i with
    | zero => simp at hi; subst hi; exact ⟨h.cell 0, h.cell 1⟩
    | succ i => simp at hi⟩

theorem EI.keepB {B : Nat} {w w' : World} {v : Value} {l : List It} (h : EI B w v l) (hk : ∀ b, v.ownBlock = some b → w'.heap[b]? = w.heap[b]?) : EI B w' v l := by
  refine ⟨h.1, ?_⟩
  rcases h.2 with h2 | ⟨q, cap, cur, rfl, hbb, hg, hr⟩
  · exact .inl h2
  · exact .inr ⟨q, cap, cur, rfl, hbb, (hk q rfl).trans hg, hr⟩
theorem EI.ty {B : Nat} {w : World} {v : Value} {l : List It} (h : EI B w v l) : ∀ b, v.ownBlock = some b → B ≤ b ∧ b < w.heap.size ∧ ∃ cur fz, w.heap[b]? = some (.cells cur 104 fz) := by
  intro b hb
  refine ⟨(World.ownsRow.lt h b hb).1, (World.ownsRow.lt h b hb).2, ?_⟩
  rcases h.2 with ⟨rfl, _⟩ | ⟨q, cap, cur, rfl, hbb, hg, hr⟩
  · cases hb
  · injection hb with hb
    subst hb
    exact ⟨cur, _, hg⟩
theorem EI.mono {B B' : Nat} {w : World} {v : Value} {l : List It} (h : EI B w v l) (hB : B' ≤ B) : EI B' w v l := by
  refine ⟨h.1, ?_⟩
  rcases h.2 with h2 | ⟨q, cap, cur, rfl, hbb, hr⟩
  · exact .inl h2
  · exact .inr ⟨q, cap, cur, rfl, Nat.le_trans hB hbb, hr⟩
def RQ (B : Nat) (w : World) (r : Nat) (I : List It) : Prop := ∃ a c, Bk w r 58 #[.slice a I.length c] ∧ EI B w (.slice a I.length c) I ∧ B ≤ r
theorem RQ.below {B : Nat} {w w' : World} {r : Nat} {I : List It} (h : RQ B w r I) (hb : Below w.heap.size w w') : RQ B w' r I := by
  obtain ⟨a, c, h1, h2, h3⟩ := h
  exact ⟨a, c, h1.below hb, h2.below hb, h3⟩
theorem RQ.lt {B : Nat} {w : World} {r : Nat} {I : List It} (h : RQ B w r I) : r < w.heap.size := by obtain ⟨a, c, h1, _⟩ := h; exact h1.lt
theorem at_found {k : ByteArray} {t : Int} {I : List It} {i : Nat} (h : I[i]? = some (k, t)) (hn : ∀ e ∈ I.take i, e.1 ≠ k) : atI k I = some t := by
  have hlt := (List.getElem?_eq_some_iff.1 h).1
  have e1 : I = I.take i ++ (k, t) :: I.drop (i + 1) := by
    have h2 := List.drop_eq_getElem_cons hlt
    have h3 : I[i] = (k, t) := by have := List.getElem?_eq_getElem hlt; rw [this] at h; injection h
    rw [h3] at h2
    rw [← h2, List.take_append_drop]
  rw [e1]
  exact atI_mid hn
section
variable {B : Nat} {w : World} {r : Nat} {I : List It}
set_option maxHeartbeats 2000000 in
theorem rat_any (h : RQ B w r I) (hl : I.length ≤ 1000000) (k : ByteArray) (v : Value) (hv : AtI (atI k I) = v) :
    Calls Try.prog 35 #[ptr r, .string k] w fun e w' => e = .returned v ∧ ∃ n, w' = w.drewN n := by
  subst hv
  obtain ⟨a, c, hb, he, _⟩ := h
  have HE := Lib.hid he.er
  have HL := Lib.hid hl
  have HR := Lib.hid hb.lt
  have q0 := hb.cell 0
  clear hb he hl
  go_enter Try.func35, Try.ntmps35
  go_wp2
  go_loopg [6] I.length (fun g u6 wx => ∃ i : Nat, u6 = .int .i64 (i : Int) ∧ i + g = I.length ∧ (∀ e ∈ I.take i, e.1 ≠ k) ∧ ∃ n, wx = w.drewN n)
  case atStart => exact ⟨0, rfl, by omega, by simp, 0, rfl⟩
  case round =>
    obtain ⟨i, rfl, hi, hn, n0, rfl⟩ := hrel
    have HN := Lib.hid hn
    cases gk with
    | zero =>
      have hil : i = I.length := by omega
      have l1 : ¬ ((i : Int) < (I.length : Int)) := by omega
      have HA : Hid (atI k I = none) := Lib.hid (by rw [hil, List.take_length] at hn; exact atI_none hn)
      clear hi hil hn
      go_wp2
      go_ret2
      exact ⟨by rw [HA.out]; rfl, _, rfl⟩
    | succ g =>
      have hlt : i < I.length := by omega
      obtain ⟨b, off, cap, he, hc, hx⟩ := HE.out.inv (by omega)
      injection he with e1 _ e3
      subst e1 e3
      obtain ⟨y, hy⟩ : ∃ y, I[i] = y := ⟨_, rfl⟩
      have hyi : I[i]? = some y := by rw [List.getElem?_eq_getElem hlt, hy]
      obtain ⟨x0, x1⟩ := hx i y hyi
      have l0 : (0 : Int) ≤ (i : Int) := by omega
      have l1 : (i : Int) < (I.length : Int) := by omega
      obtain ⟨i1, hi1⟩ : ∃ i1, i + 1 = i1 := ⟨_, rfl⟩
      have wk : IntKind.i64.wrap ((i : Int) + 1) = (i1 : Int) := by rw [show (i : Int) + 1 = (i1 : Int) by omega]; exact IntWalk.i64_in _ (by have := HL.out; omega)
      have HI1 : Hid (i1 + g = I.length) := Lib.hid (by omega)
      have HYI := Lib.hid hyi
      obtain ⟨yk, yz⟩ := y
      simp only at x0 x1
      by_cases hk : yk = k
      · have es : (yk.toList == k.toList) = true := by rw [tl_dec]; exact decide_eq_true hk
        have HA : Hid (atI k I = some yz) := Lib.hid (by rw [hk] at hyi; exact at_found hyi hn)
        clear hi hx hc hy hyi hi1 hlt hn hk
        go_wp2
        go_ret2
        exact ⟨by rw [HA.out]; rfl, _, rfl⟩
      · have es : (yk.toList == k.toList) = false := by rw [tl_dec]; exact decide_eq_false hk
        have HN1 : Hid (∀ e ∈ I.take i1, e.1 ≠ k) := Lib.hid (by
          rw [← hi1, List.take_add_one, hyi]
          intro e he
          rcases List.mem_append.1 he with he | he
          · exact hn e he
          · simp at he; subst he; exact hk)
        clear hi hx hc hy hyi hi1 hlt hn hk
        go_wp2
        go_roundg g
        case measure => exact Nat.lt_succ_self _
        case rel => exact ⟨i1, rfl, HI1.out, HN1.out, _, rfl⟩
set_option maxHeartbeats 2000000 in
theorem rnext_any (h : RQ B w r I) (hl : I.length ≤ 1000000) (v : Value) (hv : NexI I.head? = v) :
    Calls Try.prog 37 #[ptr r] w fun e w' => e = .returned v ∧ ∃ n, w' = w.drewN n := by
  subst hv
  obtain ⟨a, c, hb, he, _⟩ := h
  have q0 := hb.cell 0
  have HE := Lib.hid he.er
  clear hb he
  go_enter Try.func37, Try.ntmps37
  cases I with
  | nil =>
    go_wp2
    go_ret2
    exact ⟨rfl, 0, rfl⟩
  | cons y L =>
    obtain ⟨b, off, cap, he, hc, hx⟩ := HE.out.inv (Nat.succ_pos _)
    injection he with e1 _ e3
    subst e1 e3
    obtain ⟨x0, x1⟩ := hx 0 y rfl
    obtain ⟨N, hN⟩ : ∃ N, (y :: L).length = N := ⟨_, rfl⟩
    have n1 : (0 : Int) < (N : Int) := by rw [← hN, List.length_cons]; omega
    have n2 : ¬ ((N : Int) = 0) := by omega
    have n0 : ((N : Int) == 0) = false := beq_eq_false_iff_ne.2 n2
    rw [hN] at q0
    rw [Nat.zero_mul, Nat.add_zero] at x0 x1
    clear hx hc hN hl
    go_wp2
    go_ret2
    exact ⟨rfl, 0, rfl⟩
set_option maxHeartbeats 2000000 in
theorem rkeys_any (h : RQ B w r I) (hl : I.length ≤ 1000000) (d : List ByteArray) (hd : keysI I = d) :
    Calls Try.prog 39 #[ptr r] w fun e w' => ∃ v, e = .returned v ∧ OT w.heap.size w' v d ∧ Below w.heap.size w w' := by
  subst hd
  obtain ⟨a, c, hb, he, _⟩ := h
  have HE := Lib.hid he.er
  have HL := Lib.hid hl
  have HR := Lib.hid hb.lt
  have HQ := Lib.hid (hb.cell 0)
  clear hb he hl
  go_enter Try.func39, Try.ntmps39
  go_wp2
  go_loopg [3, 4] I.length (fun g u3 u4 wx => ∃ i : Nat, u4 = .int .i64 (i : Int) ∧ i + g = I.length ∧ OT w.heap.size wx u3 (keysI (I.take i)) ∧ Below w.heap.size w wx)
  case atStart => exact ⟨0, rfl, by omega, OT.nil _ _, Below.refl _ _⟩
  case round =>
    obtain ⟨i, rfl, hi, hot, hbel⟩ := hrel
    have HOT := Lib.hid hot
    have HB := Lib.hid hbel
    have q0 := (hbel.cell (p := ⟨r, 0, none⟩) HR.out).trans HQ.out
    cases gk with
    | zero =>
      have hil : i = I.length := by omega
      have l1 : ¬ ((i : Int) < (I.length : Int)) := by omega
      have HF : Hid (OT w.heap.size wr u3 (keysI I)) := Lib.hid (by rw [hil, List.take_length] at hot; exact hot)
      clear hi hil hot hbel
      go_wp2
      go_ret
      exact ⟨_, rfl, HF.out, HB.out⟩
    | succ g =>
      have hlt : i < I.length := by omega
      obtain ⟨b, off, cap, he, hc, hx⟩ := (HE.out.below hbel).inv (by omega)
      injection he with e1 _ e3
      subst e1 e3
      obtain ⟨y, hy⟩ : ∃ y, I[i] = y := ⟨_, rfl⟩
      have hyi : I[i]? = some y := by rw [List.getElem?_eq_getElem hlt, hy]
      obtain ⟨x0, x1⟩ := hx i y hyi
      have l0 : (0 : Int) ≤ (i : Int) := by omega
      have l1 : (i : Int) < (I.length : Int) := by omega
      obtain ⟨i1, hi1⟩ : ∃ i1, i + 1 = i1 := ⟨_, rfl⟩
      have wk : IntKind.i64.wrap ((i : Int) + 1) = (i1 : Int) := by rw [show (i : Int) + 1 = (i1 : Int) by omega]; exact IntWalk.i64_in _ (by have := HL.out; omega)
      have HI1 : Hid (i1 + g = I.length) := Lib.hid (by omega)
      have HK : Hid (keysI (I.take i1) = keysI (I.take i) ++ [y.1]) := Lib.hid (by rw [← hi1, List.take_add_one, hyi]; unfold keysI; simp)
      have HKL : Hid ((keysI (I.take i)).length ≤ 1000000) := Lib.hid (by have := HL.out; unfold keysI; rw [List.length_map, List.length_take]; omega)
      have HWS : Hid (w.heap.size ≤ wr.heap.size) := Lib.hid hbel.size
      obtain ⟨yk, yz⟩ := y
      simp only at x0 x1 HK
      clear hi hx hc hy hyi hi1 hlt hot hbel
      go_wp2_with (at_builtin; refine wpList_app_text w.heap.size u3 (keysI (I.take i)) yk wr.heap.size rfl _ _ rfl rfl (HOT.out.below ((Below.refl _ _).alloc (Nat.le_refl _) _)) rfl (Bk.new _ _ _) (by have := HKL.out; omega) (by have := HWS.out; simp; omega) ?_; intro g9 cap9 w9 o9 gr9)
      have hbl9 : Below w.heap.size w w9 := (HB.out.alloc HWS.out _).grown gr9 (by have := HWS.out; simp; omega) (fun k hk => (World.ownsRow.lt HOT.out k hk).1)
      have ho9 : OT w.heap.size w9 (.slice (some ⟨g9, 0, none⟩) ((keysI (I.take i)).length + 1) cap9) (keysI (I.take i1)) := by rw [HK.out]; exact o9
      have HO9 := Lib.hid ho9
      have HB9 := Lib.hid hbl9
      clear o9 gr9 hbl9 ho9 x0 x1 q0
      go_wp2
      go_roundg g
      case measure => exact Nat.lt_succ_self _
      case rel => exact ⟨i1, rfl, HI1.out, HO9.out, HB9.out⟩
end
open Go.Proofs.Ytfilmbeoggmglaa.SL Go.Proofs.Ytfilmbeoggmglaa.RW
set_option maxRecDepth 100000
set_option linter.unusedVariables false
set_option linter.unusedSimpArgs false

theorem EI.grown' {B : Nat} {w w' : World} {u : Value} {d : List It} {row : Option Nat} (h : EI B w u d) (hg : w.grownBy w' row) (hn : ∀ q, row = some q → u.ownBlock ≠ some q) : EI B w' u d := h.keepB fun q hq => hg.block q (World.ownsRow.lt h q hq).2 (fun e => hn q e.symm hq)
theorem ot_ei_ne {B B' : Nat} {w : World} {u v : Value} {d : List ByteArray} {l : List It} (h1 : OT B w u d) (h2 : EI B' w v l) : ∀ q, u.ownBlock = some q → v.ownBlock ≠ some q := by
  intro q hq hv
  obtain ⟨_, c1, f1, e1⟩ := h1.ty q hq
  obtain ⟨_, _, c2, f2, e2⟩ := h2.ty q hv
  rw [e1] at e2
  injection e2 with e2
  injection e2 with _ e3 _
  exact absurd e3 (by decide)
theorem its_below {B : Nat} {w0 w w1 w' : World} {v : Value} {l : List It} (h : EI B w v l) (hb : Below B w0 w1) (hs : B ≤ w1.heap.size) (hg : w1.grownBy w' v.ownBlock ∨ w1 = w') : Below B w0 w' := by
  rcases hg with hg | hg
  · exact hb.grown hg hs fun q hq => (World.ownsRow.lt h q hq).1
  · rw [← hg]; exact hb
theorem RQ.stored {B B' : Nat} {w : World} {r : Nat} {cs : Value} {a : Option Addr} {c : Nat} {L : List It} (h : Bk w r 58 #[cs]) (he : EI B' w (.slice a L.length c) L) (hr : r < B') (hB : B ≤ r) : RQ B (w.setCell ⟨r, 0, none⟩ (.slice a L.length c)) r L :=
  ⟨a, c, h.set_ 0 _, (he.keepB fun b hb => Below.heap_setCell w _ _ b (by have := (he.ty b hb).1; show b ≠ r; omega)).mono (by omega), hB⟩
theorem ot_far {B : Nat} {w : World} {v : Value} {d : List ByteArray} (h : OT B w v d) {p : Addr} (hp : p.block < B) (u : Value) : OT B (w.setCell p u) v d := h.keep fun b hb => Below.heap_setCell w p u b (by have := (World.ownsRow.lt h b hb).1; omega)
theorem chg_stored {w w' : World} {r : Nat} (h : Below w.heap.size w w') (u : Value) : Chg (fun b => b = r) w (w'.setCell ⟨r, 0, none⟩ u) := (Chg.of_below (S := fun b => b = r) h).setCell (p := ⟨r, 0, none⟩) rfl u
theorem gt_take {now : Int} {I : List It} {i : Nat} {y : It} (h : I[i]? = some y) : gtI now (I.take (i + 1)) = if now < y.2 then gtI now (I.take i) ++ [y] else gtI now (I.take i) := by
  rw [List.take_add_one, h]; unfold gtI; rw [List.filter_append]
  by_cases e : now < y.2
  · rw [if_pos e]; simp [e]
  · rw [if_neg e]; simp [e]
theorem le_take {now : Int} {I : List It} {i : Nat} {y : It} (h : I[i]? = some y) : keysI (leI now (I.take (i + 1))) = if now < y.2 then keysI (leI now (I.take i)) else keysI (leI now (I.take i)) ++ [y.1] := by
  rw [List.take_add_one, h]; unfold leI keysI; rw [List.filter_append, List.map_append]
  by_cases e : now < y.2
  · rw [if_pos e]; simp [e]
  · rw [if_neg e]; simp [e]
section
variable {B : Nat} {w : World} {r : Nat} {I : List It}
set_option maxHeartbeats 4000000 in
theorem rdrop_any (h : RQ B w r I) (hl : I.length ≤ 1000000) (k : ByteArray) (R : List It) (hR : dropI k I = R) (bb : Bool) (hbb : decide (R.length < I.length) = bb) :
    Calls Try.prog 30 #[ptr r, .string k] w fun e w' => e = .returned (.bool bb) ∧ RQ B w' r R ∧ Chg (fun b => b = r) w w' := by
  obtain ⟨a, c, hb, he, hB0⟩ := h
  have HE := Lib.hid he.er
  have HLEN := Lib.hid hl
  have HBK := Lib.hid hb
  have HR := Lib.hid hR
  have HBB := Lib.hid hbb
  have HB0 := Lib.hid hB0
  clear hb he hl hR hB0 hbb
  go_enter Try.func30, Try.ntmps30
  go_wp2
  go_loopg [5, 6] I.length (fun g u5 u6 wx => ∃ (i : Nat) (D : List It), u6 = .int .i64 (i : Int) ∧ i + g = I.length ∧ dropI k (I.take i) = D ∧ (∃ a c, u5 = .slice a D.length c) ∧ EI w.heap.size wx u5 D ∧ Below w.heap.size w wx)
  case atStart => exact ⟨0, [], rfl, by omega, rfl, ⟨_, _, rfl⟩, EI.nil _ _, Below.refl _ _⟩
  case round =>
    obtain ⟨i, D, rfl, hi, hD, ⟨ua, uc, rfl⟩, hO, hB⟩ := hrel
    have HO := Lib.hid hO
    have HB := Lib.hid hB
    have HK := Lib.hid (HBK.out.below hB)
    have q0 := HK.out.cell 0
    cases gk with
    | zero =>
      have hil : i = I.length := by omega
      have l1 : ¬ ((i : Int) < (I.length : Int)) := by omega
      have hd2 : D = R := by rw [← hD, hil, List.take_length]; exact HR.out
      subst hd2
      have f0 := HK.out.frozen 0
      have HQ := Lib.hid (RQ.stored (B := B) HK.out HO.out HBK.out.lt HB0.out)
      have HC := Lib.hid (chg_stored (r := r) hB (.slice ua D.length uc))
      clear hi hil hO hB hD
      by_cases hlt : D.length < I.length
      · have l3 : (D.length : Int) < (I.length : Int) := by omega
        have HBT : Hid (bb = true) := Lib.hid (by rw [← HBB.out]; exact decide_eq_true hlt)
        clear hlt
        go_wp2
        go_ret
        exact ⟨by rw [HBT.out]; rfl, HQ.out, HC.out⟩
      · have l3 : ¬ ((D.length : Int) < (I.length : Int)) := by omega
        have HBT : Hid (bb = false) := Lib.hid (by rw [← HBB.out]; exact decide_eq_false hlt)
        clear hlt
        go_wp2
        go_ret
        exact ⟨by rw [HBT.out]; rfl, HQ.out, HC.out⟩
    | succ g =>
      have hlt : i < I.length := by omega
      obtain ⟨b, off, cap, he, hc, hx⟩ := (HE.out.below hB).inv (by omega)
      injection he with e1 _ e3
      subst e1 e3
      obtain ⟨y, hy⟩ : ∃ y, I[i] = y := ⟨_, rfl⟩
      have hyi : I[i]? = some y := by rw [List.getElem?_eq_getElem hlt, hy]
      obtain ⟨x0, x1⟩ := hx i y hyi
      have l0 : (0 : Int) ≤ (i : Int) := by omega
      have l1 : (i : Int) < (I.length : Int) := by omega
      obtain ⟨i1, hi1⟩ : ∃ i1, i + 1 = i1 := ⟨_, rfl⟩
      have wk : IntKind.i64.wrap ((i : Int) + 1) = (i1 : Int) := by rw [show (i : Int) + 1 = (i1 : Int) by omega]; exact IntWalk.i64_in _ (by have := HLEN.out; omega)
      have hdl : dropI k (I.take (i + 1)) = if y.1 = k then dropI k (I.take i) else dropI k (I.take i) ++ [y] := delE_take (k := k) hyi
      rw [hi1, hD] at hdl
      have HDL : Hid (D.length ≤ 1073741824) := Lib.hid (by
        rw [← hD]
        unfold dropI
        have := List.length_filter_le (fun x : It => decide (x.1 ≠ k)) (I.take i)
        rw [List.length_take] at this
        have := HLEN.out; omega)
      have HI1 : Hid (i1 + g = I.length) := Lib.hid (by omega)
      obtain ⟨yk, yz⟩ := y
      simp only at hdl x0 x1
      by_cases hk : yk = k
      · have es : (yk.toList == k.toList) = true := by rw [tl_dec]; exact decide_eq_true hk
        have es2 : (!(yk.toList == k.toList)) = false := by rw [es]; rfl
        rw [if_pos hk] at hdl
        have HDD := Lib.hid hdl
        clear hi hx hc hy hyi hi1 hk hlt hdl hD hO hB
        go_wp2
        go_roundg g
        case measure => exact Nat.lt_succ_self _
        case rel => exact ⟨i1, D, rfl, HI1.out, HDD.out, ⟨_, _, rfl⟩, HO.out, HB.out⟩
      · have es : (yk.toList == k.toList) = false := by rw [tl_dec]; exact decide_eq_false hk
        have es2 : (!(yk.toList == k.toList)) = true := by rw [es]; rfl
        rw [if_neg hk] at hdl
        obtain ⟨D2, hD2⟩ : ∃ D2, D ++ [(yk, yz)] = D2 := ⟨_, rfl⟩
        rw [hD2] at hdl
        have HDD := Lib.hid hdl
        have HD2 := Lib.hid hD2
        clear hi hx hc hy hyi hi1 hk hlt hdl hD hO hB hD2
        have hbx : Below wr.heap.size wr (wr.alloc (.cells #[.string yk, .int .i64 yz] 104)) := (Below.refl _ _).alloc (Nat.le_refl _) _
        have HBX := Lib.hid hbx
        clear hbx
        go_wp2_with (at_builtin; refine wpList_app_its w.heap.size (.slice ua D.length uc) D (.slice (some ⟨wr.heap.size, 0, none⟩) 1 1) [(yk, yz)] D2 HD2.out rfl _ _ rfl rfl (HO.out.below HBX.out) rfl (one_it (Bk.new wr _ _)) (by have := HDL.out; simp; omega) (by have := HB.out.size; simp; omega) ?_; intro va9 c9 w9 o9 b9)
        have HB9 : Hid (Below w.heap.size w w9) := Lib.hid (its_below (HO.out) (HB.out.alloc HB.out.size _) (by have := HB.out.size; simp; omega) b9)
        have HO9 := Lib.hid o9
        clear o9 b9
        go_wp2
        go_roundg g
        case measure => exact Nat.lt_succ_self _
        case rel => exact ⟨i1, D2, rfl, HI1.out, HDD.out, ⟨_, _, rfl⟩, HO9.out, HB9.out⟩
set_option maxHeartbeats 4000000 in
theorem rdue_any (h : RQ B w r I) (hl : I.length ≤ 1000000) (now : Int) (R : List It) (hR : gtI now I = R) (d : List ByteArray) (hd : keysI (leI now I) = d) :
    Calls Try.prog 32 #[ptr r, .int .i64 now] w fun e w' => ∃ v, e = .returned v ∧ OT w.heap.size w' v d ∧ RQ B w' r R ∧ Chg (fun b => b = r) w w' := by
  obtain ⟨a, c, hb, he, hB0⟩ := h
  have HE := Lib.hid he.er
  have HLEN := Lib.hid hl
  have HBK := Lib.hid hb
  have HR := Lib.hid hR
  have HD := Lib.hid hd
  have HB0 := Lib.hid hB0
  clear hb he hl hR hB0 hd
  go_enter Try.func32, Try.ntmps32
  go_wp2
  go_loopg [5, 6, 7] I.length (fun g u5 u6 u7 wx => ∃ (i : Nat) (D : List It), u7 = .int .i64 (i : Int) ∧ i + g = I.length ∧ gtI now (I.take i) = D ∧ (∃ a c, u6 = .slice a D.length c) ∧ OT w.heap.size wx u5 (keysI (leI now (I.take i))) ∧ EI w.heap.size wx u6 D ∧ Below w.heap.size w wx)
  case atStart => exact ⟨0, [], rfl, by omega, rfl, ⟨_, _, rfl⟩, OT.nil _ _, EI.nil _ _, Below.refl _ _⟩
  case round =>
    obtain ⟨i, D, rfl, hi, hD, ⟨ua, uc, rfl⟩, hot, hO, hB⟩ := hrel
    have HO := Lib.hid hO
    have HOT := Lib.hid hot
    have HB := Lib.hid hB
    have HK := Lib.hid (HBK.out.below hB)
    have q0 := HK.out.cell 0
    cases gk with
    | zero =>
      have hil : i = I.length := by omega
      have l1 : ¬ ((i : Int) < (I.length : Int)) := by omega
      have hd2 : D = R := by rw [← hD, hil, List.take_length]; exact HR.out
      subst hd2
      have f0 := HK.out.frozen 0
      have HQ := Lib.hid (RQ.stored (B := B) HK.out HO.out HBK.out.lt HB0.out)
      have HC := Lib.hid (chg_stored (r := r) hB (.slice ua D.length uc))
      have HF : Hid (OT w.heap.size (wr.setCell ⟨r, 0, none⟩ (.slice ua D.length uc)) u5 d) := Lib.hid (by rw [hil, List.take_length, HD.out] at hot; exact ot_far hot (show r < w.heap.size from HBK.out.lt) _)
      clear hi hil hO hB hD hot
      go_wp2
      go_ret
      exact ⟨_, rfl, HF.out, HQ.out, HC.out⟩
    | succ g =>
      have hlt : i < I.length := by omega
      obtain ⟨b, off, cap, he, hc, hx⟩ := (HE.out.below hB).inv (by omega)
      injection he with e1 _ e3
      subst e1 e3
      obtain ⟨y, hy⟩ : ∃ y, I[i] = y := ⟨_, rfl⟩
      have hyi : I[i]? = some y := by rw [List.getElem?_eq_getElem hlt, hy]
      obtain ⟨x0, x1⟩ := hx i y hyi
      have l0 : (0 : Int) ≤ (i : Int) := by omega
      have l1 : (i : Int) < (I.length : Int) := by omega
      obtain ⟨i1, hi1⟩ : ∃ i1, i + 1 = i1 := ⟨_, rfl⟩
      have wk : IntKind.i64.wrap ((i : Int) + 1) = (i1 : Int) := by rw [show (i : Int) + 1 = (i1 : Int) by omega]; exact IntWalk.i64_in _ (by have := HLEN.out; omega)
      have hgt := gt_take (now := now) hyi
      have hle := le_take (now := now) hyi
      rw [hi1, hD] at hgt
      rw [hi1] at hle
      have HDL : Hid (D.length ≤ 1073741824 ∧ (keysI (leI now (I.take i))).length ≤ 1073741824) := Lib.hid (by
        rw [← hD]
        have h1 := le_gt_len now (I.take i)
        rw [List.length_take] at h1
        have h2 : (keysI (leI now (I.take i))).length = (leI now (I.take i)).length := by unfold keysI; rw [List.length_map]
        have := HLEN.out; omega)
      have HI1 : Hid (i1 + g = I.length) := Lib.hid (by omega)
      have HWS : Hid (w.heap.size ≤ wr.heap.size) := Lib.hid hB.size
      obtain ⟨yk, yz⟩ := y
      simp only at hgt hle x0 x1
      by_cases hk : now < yz
      · have hk2 : ¬ (yz ≤ now) := by omega
        rw [if_pos hk] at hgt hle
        obtain ⟨D2, hD2⟩ : ∃ D2, D ++ [(yk, yz)] = D2 := ⟨_, rfl⟩
        rw [hD2] at hgt
        have HGT := Lib.hid hgt
        have HLE := Lib.hid hle
        have HD2 := Lib.hid hD2
        clear hi hx hc hy hyi hi1 hk hlt hgt hle hD hO hB hD2 hot
        have hbx : Below wr.heap.size wr (wr.alloc (.cells #[.string yk, .int .i64 yz] 104)) := (Below.refl _ _).alloc (Nat.le_refl _) _
        have HBX := Lib.hid hbx
        clear hbx
        go_wp2_with (at_builtin; refine wpList_app_its w.heap.size (.slice ua D.length uc) D (.slice (some ⟨wr.heap.size, 0, none⟩) 1 1) [(yk, yz)] D2 HD2.out rfl _ _ rfl rfl (HO.out.below HBX.out) rfl (one_it (Bk.new wr _ _)) (by have := HDL.out; simp; omega) (by have := HB.out.size; simp; omega) ?_; intro va9 c9 w9 o9 b9)
        have HB9 : Hid (Below w.heap.size w w9) := Lib.hid (its_below (HO.out) (HB.out.alloc HB.out.size _) (by have := HB.out.size; simp; omega) b9)
        have HO9 := Lib.hid o9
        have HT9 : Hid (OT w.heap.size w9 u5 (keysI (leI now (I.take i1)))) := Lib.hid (by
          rw [HLE.out]
          have h1 := HOT.out.below HBX.out
          rcases b9 with b9 | b9
          · exact OT.grown' h1 b9 fun q hq => fun hu => ot_ei_ne h1 (HO.out.below HBX.out) q hu hq
          · rw [← b9]; exact h1)
        clear o9 b9
        go_wp2
        go_roundg g
        case measure => exact Nat.lt_succ_self _
        case rel => exact ⟨i1, D2, rfl, HI1.out, HGT.out, ⟨_, _, rfl⟩, HT9.out, HO9.out, HB9.out⟩
      · have hk2 : yz ≤ now := by omega
        rw [if_neg hk] at hgt hle
        have HGT := Lib.hid hgt
        have HLE := Lib.hid hle
        clear hi hx hc hy hyi hi1 hk hlt hgt hle hD hO hB hot
        have hbx : Below wr.heap.size wr (wr.alloc (.cells #[.string yk] 9)) := (Below.refl _ _).alloc (Nat.le_refl _) _
        have HBX := Lib.hid hbx
        clear hbx
        go_wp2_with (at_builtin; refine wpList_app_text w.heap.size u5 (keysI (leI now (I.take i))) yk wr.heap.size rfl _ _ rfl rfl (HOT.out.below HBX.out) rfl (Bk.new _ _ _) (by have := HDL.out; omega) (by have := HWS.out; simp; omega) ?_; intro g9 cap9 w9 o9 gr9)
        have hbl9 : Below w.heap.size w w9 := (HB.out.alloc HWS.out _).grown gr9 (by have := HWS.out; simp; omega) (fun k hk => (World.ownsRow.lt HOT.out k hk).1)
        have ho9 : OT w.heap.size w9 (.slice (some ⟨g9, 0, none⟩) ((keysI (leI now (I.take i))).length + 1) cap9) (keysI (leI now (I.take i1))) := by rw [HLE.out]; exact o9
        have HI9 : Hid (EI w.heap.size w9 (.slice ua D.length uc) D) := Lib.hid ((HO.out.below HBX.out).grown' gr9 fun q hq => ot_ei_ne (HOT.out.below HBX.out) (HO.out.below HBX.out) q hq)
        have HO9 := Lib.hid ho9
        have HB9 := Lib.hid hbl9
        clear o9 gr9 hbl9 ho9
        go_wp2
        go_roundg g
        case measure => exact Nat.lt_succ_self _
        case rel => exact ⟨i1, D, rfl, HI1.out, HGT.out, ⟨_, _, rfl⟩, HO9.out, HI9.out, HB9.out⟩
end
open Go.Proofs.Ytfilmbeoggmglaa.SL Go.Proofs.Ytfilmbeoggmglaa.RW
set_option maxRecDepth 100000
set_option linter.unusedVariables false
set_option linter.unusedSimpArgs false

theorem rise_split (t : Int) : ∀ L : List It, L.Pairwise (fun a b => a.2 ≤ b.2) → L = leI t L ++ gtI t L
  | [], _ => rfl
  | x :: L, hp => by
    obtain ⟨h1, h2⟩ := List.pairwise_cons.1 hp
    have ih := rise_split t L h2
    by_cases hx : t < x.2
    · have hall : ∀ y ∈ L, t < y.2 := fun y hy => by have := h1 y hy; omega
      have e1 : leI t (x :: L) = [] := by
        unfold leI; rw [List.filter_eq_nil_iff]; intro y hy
        rcases List.mem_cons.1 hy with rfl | hy
        · simp [hx]
        · simp [hall y hy]
      have e2 : gtI t (x :: L) = x :: L := by
        unfold gtI; rw [List.filter_eq_self]; intro y hy
        rcases List.mem_cons.1 hy with rfl | hy
        · simp [hx]
        · simp [hall y hy]
      rw [e1, e2]; rfl
    · have e1 : leI t (x :: L) = x :: leI t L := by unfold leI; rw [List.filter_cons, if_pos (by simp [hx])]
      have e2 : gtI t (x :: L) = gtI t L := by unfold gtI; rw [List.filter_cons, if_neg (by simp [hx])]
      rw [e1, e2]
      exact congrArg (x :: ·) ih
theorem er_cell {w : World} {b n c : Nat} {d : List It} (h : ER w (.slice (some ⟨b, 0, none⟩) n c) d) {i : Nat} {x : It} (hi : d[i]? = some x) : w.cell? ⟨b, i * 2, none⟩ = some (.string x.1) ∧ w.cell? ⟨b, i * 2 + 1, none⟩ = some (.int .i64 x.2) := by
  rcases h with ⟨_, _, _, rfl⟩ | ⟨g, off, cap, e, _, hx⟩
  · cases hi
  · injection e with e1 _ e3
    injection e1 with e1
    injection e1 with e1 e2
    subst e1 e2
    have := hx i x hi
    rw [Nat.zero_add] at this
    exact this
theorem er_tail {w : World} {b c : Nat} {d : List It} (h : ER w (.slice (some ⟨b, 0, none⟩) d.length c) d) (i : Nat) (hi : i ≤ d.length) (hc : d.length ≤ c) : ER w (.slice (some ⟨b, i * 2, none⟩) (d.length - i) (c - i)) (d.drop i) := by
  refine .inr ⟨b, i * 2, c - i, by rw [List.length_drop], by rw [List.length_drop]; omega, fun j y hj => ?_⟩
  rw [List.getElem?_drop] at hj
  have := er_cell h hj
  rw [Nat.add_mul] at this
  exact this
section
variable {B : Nat} {w : World} {r : Nat} {I : List It}
theorem rset_err (k : ByteArray) (t : Int) (ht : ¬ (0 ≤ t ∧ t ≤ 1099511627776)) :
    Calls Try.prog 28 #[ptr r, .string k, .int .i64 t] w fun e w' => e = .returned (.int .i64 1) ∧ w = w' := by
  by_cases h0 : t < 0
  · clear ht
    go_enter Try.func28, Try.ntmps28
    go_wp2
    go_ret
    exact ⟨rfl, rfl⟩
  · have h1 : 1099511627776 < t := by omega
    clear ht
    go_enter Try.func28, Try.ntmps28
    go_wp2
    go_ret
    exact ⟨rfl, rfl⟩
set_option maxHeartbeats 4000000 in
theorem rset_any (h : RQ B w r I) (hl : I.length ≤ 1000000) (hs : I.Pairwise (fun a b => a.2 ≤ b.2)) (k : ByteArray) (t : Int) (ht : 0 ≤ t ∧ t ≤ 1099511627776) (R : List It) (hR : setI k t I = R) :
    Calls Try.prog 28 #[ptr r, .string k, .int .i64 t] w fun e w' => e = .returned (.int .i64 0) ∧ RQ B w' r R ∧ Chg (fun b => b = r) w w' := by
  have n0 : ¬ (t < 0) := by omega
  have n1 : ¬ (1099511627776 < t) := by omega
  obtain ⟨D, hD⟩ : ∃ D, dropI k I = D := ⟨_, rfl⟩
  obtain ⟨A, hA⟩ : ∃ A, leI t D = A := ⟨_, rfl⟩
  obtain ⟨G, hG⟩ : ∃ A, gtI t D = A := ⟨_, rfl⟩
  have hsp : D = A ++ G := by rw [← hA, ← hG]; exact rise_split t D (by rw [← hD]; exact hs.sublist List.filter_sublist)
  have hRR : A ++ [(k, t)] ++ G = R := by
    rw [← hR]; unfold setI
    rw [hD, hA, hG, List.append_assoc]; rfl
  have HA : Hid (∀ e ∈ A, e.2 ≤ t) := Lib.hid (by rw [← hA]; exact fun e he => by simpa using (List.mem_filter.1 he).2)
  have HG : Hid (∀ e ∈ G, t < e.2) := Lib.hid (by rw [← hG]; exact fun e he => by simpa using (List.mem_filter.1 he).2)
  have HLEN : Hid (D.length ≤ 1000000 ∧ D.length = A.length + G.length) := Lib.hid ⟨by rw [← hD]; exact Nat.le_trans (List.length_filter_le _ _) hl, by rw [hsp, List.length_append]⟩
  have HL0 := Lib.hid hl
  have H := Lib.hid h
  have HLT := Lib.hid h.lt
  have HDD := Lib.hid hD
  have HSP := Lib.hid hsp
  have HRR := Lib.hid hRR
  clear h hl hs ht hR hD hA hG hsp hRR
  go_enter Try.func28, Try.ntmps28
  go_wp2_with fail
  refine (rdrop_any H.out HL0.out k D HDD.out _ rfl).mono ?_
  rintro e w1 ⟨rfl, ⟨a, c, hb, he, hB0⟩, hc1⟩
  have hinv : (a = none ∧ c = 0 ∧ D = []) ∨ ∃ b, a = some ⟨b, 0, none⟩ ∧ D.length ≤ c ∧ c ≤ maxLen := by
    rcases he.2 with ⟨e, hz⟩ | ⟨g, cap, cur, e, hb2, hh, hcc, hm, _⟩
    · injection e with e1 _ e3
      exact .inl ⟨e1, e3, List.eq_nil_of_length_eq_zero hz⟩
    · injection e with e1 _ e3
      subst e1 e3
      exact .inr ⟨g, rfl, hcc, hm⟩
  have HINV := Lib.hid hinv
  clear hinv
  have HE := Lib.hid he.er
  have HBK := Lib.hid hb
  have HB0 := Lib.hid hB0
  have HC1 := Lib.hid hc1
  clear hb he hB0 hc1
  go_wp2
  go_loopg [7, 8] A.length (fun g u7 u8 wx => ∃ (i : Nat) (E : List It), u8 = .int .i64 (i : Int) ∧ i + g = A.length ∧ A.take i = E ∧ (∃ a c, u7 = .slice a E.length c) ∧ EI w1.heap.size wx u7 E ∧ Below w1.heap.size w1 wx)
  case atStart => exact ⟨0, [], rfl, by omega, rfl, ⟨_, _, rfl⟩, EI.nil _ _, Below.refl _ _⟩
  case round =>
    obtain ⟨i, E, rfl, hi, hE, ⟨ua, uc, rfl⟩, hO, hB⟩ := hrel
    have HO := Lib.hid hO
    have HB := Lib.hid hB
    have HK := Lib.hid (HBK.out.below hB)
    have HEL : Hid (E.length = i) := Lib.hid (by rw [← hE, List.length_take]; omega)
    have q0 := HK.out.cell 0
    cases gk with
    | zero =>
      have hil : i = A.length := by omega
      have HEA : Hid (E ++ [(k, t)] ++ G = R) := Lib.hid (by rw [← hE, hil, List.take_length]; exact HRR.out)
      have HIL := Lib.hid hil
      have HER := Lib.hid (HE.out.below hB)
      have f0 := HK.out.frozen 0
      obtain ⟨M, hM⟩ : ∃ M, E ++ [(k, t)] = M := ⟨_, rfl⟩
      have HM := Lib.hid hM
      have HMR : Hid (M ++ G = R) := Lib.hid (by rw [← hM]; exact HEA.out)
      have HML : Hid (M.length ≤ 1000001) := Lib.hid (by rw [← hM, List.length_append]; have := HEL.out; have := HLEN.out; simp; omega)
      clear hi hO hB hE hM hil
      rcases HINV.out with ⟨rfl, rfl, hD0⟩ | ⟨b, rfl, hcap, hmax⟩
      · have hG0 : G = [] := by have h1 := HLEN.out; rw [hD0, List.length_nil] at h1; exact List.eq_nil_of_length_eq_zero (by omega)
        have hi0 : i = 0 := by have h1 := HLEN.out; have h2 := HIL.out; rw [hD0, List.length_nil] at h1; omega
        have HMR0 : Hid (M ++ [] = R) := Lib.hid (by rw [← hG0]; exact HMR.out)
        subst hi0
        have q1 : wr.cell? ⟨r, 0, none⟩ = some (.slice none 0 0) := by rw [q0, hD0]; rfl
        have HK1 : Hid (Bk wr r 58 #[.slice none 0 0]) := Lib.hid (by have := HK.out; rw [hD0] at this; exact this)
        have HD0 := Lib.hid hD0
        clear q0 hG0 hD0
        have hbx : Below wr.heap.size wr (wr.alloc (.cells #[.string k, .int .i64 t] 104)) := (Below.refl _ _).alloc (Nat.le_refl _) _
        have HBX := Lib.hid hbx
        clear hbx
        go_wp2_with (at_builtin; first
          | (refine wpList_app_its w1.heap.size (.slice ua E.length uc) E (.slice (some ⟨wr.heap.size, 0, none⟩) 1 1) [(k, t)] M HM.out rfl _ _ rfl rfl (HO.out.below HBX.out) rfl (one_it (Bk.new wr _ _)) (by have := HEL.out; have := HIL.out; have := HLEN.out; simp; omega) (by have := HB.out.size; simp; omega) ?_; intro va9 c9 w9 o9 b9; have HB9 : Hid (Below w1.heap.size w1 w9) := Lib.hid (its_below (HO.out) (HB.out.alloc HB.out.size _) (by have := HB.out.size; simp; omega) b9); have HO9 := Lib.hid o9; have q9 := (HBK.out.below HB9.out).cell 0; rw [show D = [] from HD0.out] at q9; clear o9 b9)
          | (refine wpList_app_its w1.heap.size (.slice va9 M.length c9) M (.slice none 0 0) [] R HMR0.out rfl _ _ rfl rfl HO9.out rfl (.inl ⟨none, 0, rfl, rfl⟩) (by have := HML.out; simp; omega) HB9.out.size ?_; intro va10 c10 w10 o10 b10; have HB10 : Hid (Below w1.heap.size w1 w10) := Lib.hid (its_below HO9.out HB9.out HB9.out.size b10); have f10 := (HBK.out.below HB10.out).frozen 0; have p10 := (HBK.out.below HB10.out).cell 0; have HQ := Lib.hid (RQ.stored (B := B) (HBK.out.below HB10.out) o10 HBK.out.lt HB0.out); have HC := Lib.hid (HC1.out.trans (chg_stored (r := r) HB10.out (.slice va10 R.length c10))); clear o10 b10))
        go_ret
        exact ⟨rfl, HQ.out, HC.out⟩
      · have hcm : c ≤ 9223372036854775807 := by unfold maxLen at hmax; omega
        have l0 : (0 : Int) ≤ (i : Int) := by omega
        have hiD : i ≤ D.length := by have := HLEN.out; have := HIL.out; omega
        have HDR : Hid (D.drop i = G) := Lib.hid (by rw [HSP.out, HIL.out]; exact List.drop_left ..)
        cases hG : G with
        | nil =>
          have l1 : ¬ ((i : Int) < (D.length : Int)) := by have h1 := HLEN.out; have h2 := HIL.out; rw [hG, List.length_nil] at h1; omega
          have HGN : Hid (G = []) := Lib.hid hG
          have HDI : Hid (D.length - i = 0) := Lib.hid (by have h1 := HLEN.out; have h2 := HIL.out; rw [hG, List.length_nil] at h1; omega)
          clear hG
          by_cases hci : c = i
          · subst hci
            have hbx : Below wr.heap.size wr (wr.alloc (.cells #[.string k, .int .i64 t] 104)) := (Below.refl _ _).alloc (Nat.le_refl _) _
            have HBX := Lib.hid hbx
            clear hbx
            go_wp2_with (at_builtin; first
              | (refine wpList_app_its w1.heap.size (.slice ua E.length uc) E (.slice (some ⟨wr.heap.size, 0, none⟩) 1 1) [(k, t)] M HM.out rfl _ _ rfl rfl (HO.out.below HBX.out) rfl (one_it (Bk.new wr _ _)) (by have := HEL.out; have := HIL.out; have := HLEN.out; simp; omega) (by have := HB.out.size; simp; omega) ?_; intro va9 c9 w9 o9 b9; have HB9 : Hid (Below w1.heap.size w1 w9) := Lib.hid (its_below (HO.out) (HB.out.alloc HB.out.size _) (by have := HB.out.size; simp; omega) b9); have HO9 := Lib.hid o9; have q9 := (HBK.out.below HB9.out).cell 0; clear o9 b9)
              | (refine wpList_app_its w1.heap.size (.slice va9 M.length c9) M _ G R HMR.out rfl _ _ rfl rfl HO9.out rfl (by first | (have h8 := er_tail (HE.out.below HB9.out) i hiD hcap; rw [HDR.out] at h8; first | exact h8 | (rw [HDI.out] at h8; exact h8) | (rw [HDI.out] at h8; simpa using h8)) | exact .inl ⟨_, _, rfl, HGN.out⟩ | exact .inl ⟨_, _, by rw [HDI.out], HGN.out⟩ | (split <;> first | exact .inl ⟨_, _, rfl, HGN.out⟩ | exact .inl ⟨_, _, by rw [HDI.out], HGN.out⟩)) (by have := HML.out; have := HLEN.out; omega) HB9.out.size ?_; intro va10 c10 w10 o10 b10; have HB10 : Hid (Below w1.heap.size w1 w10) := Lib.hid (its_below HO9.out HB9.out HB9.out.size b10); have f10 := (HBK.out.below HB10.out).frozen 0; have p10 := (HBK.out.below HB10.out).cell 0; have HQ := Lib.hid (RQ.stored (B := B) (HBK.out.below HB10.out) o10 HBK.out.lt HB0.out); have HC := Lib.hid (HC1.out.trans (chg_stored (r := r) HB10.out (.slice va10 R.length c10))); clear o10 b10))
            go_ret
            exact ⟨rfl, HQ.out, HC.out⟩
          · have hci2 : ¬ (i = c) := fun e => hci e.symm
            have hbx : Below wr.heap.size wr (wr.alloc (.cells #[.string k, .int .i64 t] 104)) := (Below.refl _ _).alloc (Nat.le_refl _) _
            have HBX := Lib.hid hbx
            clear hbx
            go_wp2_with (at_builtin; first
              | (refine wpList_app_its w1.heap.size (.slice ua E.length uc) E (.slice (some ⟨wr.heap.size, 0, none⟩) 1 1) [(k, t)] M HM.out rfl _ _ rfl rfl (HO.out.below HBX.out) rfl (one_it (Bk.new wr _ _)) (by have := HEL.out; have := HIL.out; have := HLEN.out; simp; omega) (by have := HB.out.size; simp; omega) ?_; intro va9 c9 w9 o9 b9; have HB9 : Hid (Below w1.heap.size w1 w9) := Lib.hid (its_below (HO.out) (HB.out.alloc HB.out.size _) (by have := HB.out.size; simp; omega) b9); have HO9 := Lib.hid o9; have q9 := (HBK.out.below HB9.out).cell 0; clear o9 b9)
              | (refine wpList_app_its w1.heap.size (.slice va9 M.length c9) M _ G R HMR.out rfl _ _ rfl rfl HO9.out rfl (by first | (have h8 := er_tail (HE.out.below HB9.out) i hiD hcap; rw [HDR.out] at h8; first | exact h8 | (rw [HDI.out] at h8; exact h8) | (rw [HDI.out] at h8; simpa using h8)) | exact .inl ⟨_, _, rfl, HGN.out⟩ | exact .inl ⟨_, _, by rw [HDI.out], HGN.out⟩ | (split <;> first | exact .inl ⟨_, _, rfl, HGN.out⟩ | exact .inl ⟨_, _, by rw [HDI.out], HGN.out⟩)) (by have := HML.out; have := HLEN.out; omega) HB9.out.size ?_; intro va10 c10 w10 o10 b10; have HB10 : Hid (Below w1.heap.size w1 w10) := Lib.hid (its_below HO9.out HB9.out HB9.out.size b10); have f10 := (HBK.out.below HB10.out).frozen 0; have p10 := (HBK.out.below HB10.out).cell 0; have HQ := Lib.hid (RQ.stored (B := B) (HBK.out.below HB10.out) o10 HBK.out.lt HB0.out); have HC := Lib.hid (HC1.out.trans (chg_stored (r := r) HB10.out (.slice va10 R.length c10))); clear o10 b10))
            go_ret
            exact ⟨rfl, HQ.out, HC.out⟩
        | cons g0 G' =>
          have l1 : (i : Int) < (D.length : Int) := by have h1 := HLEN.out; have h2 := HIL.out; rw [hG, List.length_cons] at h1; omega
          have hyi : D[i]? = some g0 := by rw [HSP.out, HIL.out, List.getElem?_append_right (Nat.le_refl _), Nat.sub_self, hG]; rfl
          obtain ⟨x0, x1⟩ := er_cell HER.out hyi
          have nt : ¬ (g0.2 ≤ t) := by have := HG.out g0 (by rw [hG]; exact List.mem_cons_self ..); omega
          clear hG hyi
          have hbx : Below wr.heap.size wr (wr.alloc (.cells #[.string k, .int .i64 t] 104)) := (Below.refl _ _).alloc (Nat.le_refl _) _
          have HBX := Lib.hid hbx
          clear hbx
          go_wp2_with (at_builtin; first
            | (refine wpList_app_its w1.heap.size (.slice ua E.length uc) E (.slice (some ⟨wr.heap.size, 0, none⟩) 1 1) [(k, t)] M HM.out rfl _ _ rfl rfl (HO.out.below HBX.out) rfl (one_it (Bk.new wr _ _)) (by have := HEL.out; have := HIL.out; have := HLEN.out; simp; omega) (by have := HB.out.size; simp; omega) ?_; intro va9 c9 w9 o9 b9; have HB9 : Hid (Below w1.heap.size w1 w9) := Lib.hid (its_below (HO.out) (HB.out.alloc HB.out.size _) (by have := HB.out.size; simp; omega) b9); have HO9 := Lib.hid o9; have q9 := (HBK.out.below HB9.out).cell 0; clear o9 b9)
            | (refine wpList_app_its w1.heap.size (.slice va9 M.length c9) M _ G R HMR.out rfl _ _ rfl rfl HO9.out rfl (by have h8 := er_tail (HE.out.below HB9.out) i hiD hcap; rw [HDR.out] at h8; first | exact h8 | simpa using h8) (by have := HML.out; have := HLEN.out; omega) HB9.out.size ?_; intro va10 c10 w10 o10 b10; have HB10 : Hid (Below w1.heap.size w1 w10) := Lib.hid (its_below HO9.out HB9.out HB9.out.size b10); have f10 := (HBK.out.below HB10.out).frozen 0; have p10 := (HBK.out.below HB10.out).cell 0; have HQ := Lib.hid (RQ.stored (B := B) (HBK.out.below HB10.out) o10 HBK.out.lt HB0.out); have HC := Lib.hid (HC1.out.trans (chg_stored (r := r) HB10.out (.slice va10 R.length c10))); clear o10 b10))
          go_ret
          exact ⟨rfl, HQ.out, HC.out⟩
    | succ g =>
      have hlt : i < A.length := by omega
      have hltD : i < D.length := by have := HLEN.out; omega
      obtain ⟨b, off, cap, he, hc, hx⟩ := (HE.out.below hB).inv (by omega)
      injection he with e1 _ e3
      subst e1 e3
      obtain ⟨y, hy⟩ : ∃ y, A[i] = y := ⟨_, rfl⟩
      have hya : A[i]? = some y := by rw [List.getElem?_eq_getElem hlt, hy]
      have hyi : D[i]? = some y := by rw [HSP.out, List.getElem?_append_left hlt]; exact hya
      obtain ⟨x0, x1⟩ := hx i y hyi
      have l0 : (0 : Int) ≤ (i : Int) := by omega
      have l1 : (i : Int) < (D.length : Int) := by omega
      have ly : y.2 ≤ t := HA.out y (by rw [← hy]; exact List.getElem_mem _)
      obtain ⟨i1, hi1⟩ : ∃ i1, i + 1 = i1 := ⟨_, rfl⟩
      have wk : IntKind.i64.wrap ((i : Int) + 1) = (i1 : Int) := by rw [show (i : Int) + 1 = (i1 : Int) by omega]; exact IntWalk.i64_in _ (by have := HLEN.out; omega)
      have HI1 : Hid (i1 + g = A.length) := Lib.hid (by omega)
      obtain ⟨yk, yz⟩ := y
      simp only at x0 x1 ly
      obtain ⟨E2, hE2⟩ : ∃ E2, E ++ [(yk, yz)] = E2 := ⟨_, rfl⟩
      have HEE : Hid (A.take i1 = E2) := Lib.hid (by rw [← hi1, List.take_add_one, hya, hE, ← hE2]; rfl)
      have HE2 := Lib.hid hE2
      clear hi hx hc hy hya hyi hi1 hlt hltD hE hO hB hE2
      have hbx : Below wr.heap.size wr (wr.alloc (.cells #[.string yk, .int .i64 yz] 104)) := (Below.refl _ _).alloc (Nat.le_refl _) _
      have HBX := Lib.hid hbx
      clear hbx
      go_wp2_with (at_builtin; refine wpList_app_its w1.heap.size (.slice ua E.length uc) E (.slice (some ⟨wr.heap.size, 0, none⟩) 1 1) [(yk, yz)] E2 HE2.out rfl _ _ rfl rfl (HO.out.below HBX.out) rfl (one_it (Bk.new wr _ _)) (by have := HEL.out; have := HI1.out; have := HLEN.out; simp; omega) (by have := HB.out.size; simp; omega) ?_; intro va9 c9 w9 o9 b9)
      have HB9 : Hid (Below w1.heap.size w1 w9) := Lib.hid (its_below (HO.out) (HB.out.alloc HB.out.size _) (by have := HB.out.size; simp; omega) b9)
      have HO9 := Lib.hid o9
      clear o9 b9
      go_wp2
      go_roundg g
      case measure => exact Nat.lt_succ_self _
      case rel => exact ⟨i1, E2, rfl, HI1.out, HEE.out, ⟨_, _, rfl⟩, HO9.out, HB9.out⟩
end
open Go.Proofs.Ytfilmbeoggmglaa.SL Go.Proofs.Ytfilmbeoggmglaa.RW
set_option maxRecDepth 100000
set_option linter.unusedVariables false
set_option linter.unusedSimpArgs false

theorem bk_ne {w : World} {b : Nat} {t t' : TypeId} {cs cur : Array Value} {fz : Nat × Nat} (h : Bk w b t cs) (hb : w.heap[b]? = some (.cells cur t' fz)) (hn : t' ≠ t) : False := by
  have h2 : w.heap[b]? = some (.cells cs t (0, 0)) := h
  rw [h2] at hb
  injection hb with hb
  injection hb with _ e2 _
  exact hn e2.symm
theorem QT.otherB {B : Nat} {w : World} {g n : Nat} {x : Qx} (h : QT B w g n x) {b : Nat} {cur : Array Value} {t : TypeId} {fz : Nat × Nat} (hb : w.heap[b]? = some (.cells cur t fz)) (h1 : t ≠ 73) (h2 : t ≠ 108) (h3 : t ≠ 101) : ¬ x.own g b := by
  rintro (rfl | rfl | rfl | ho)
  · exact bk_ne h.bk hb h1
  · obtain ⟨D, ⟨es, clock, hm, _⟩, _⟩ := h.mp
    rw [hm] at hb
    cases hb
  · exact bk_ne h.ko hb h2
  · obtain ⟨_, cur2, fz2, h4⟩ := h.eq.ty b ho
    rw [h4] at hb
    injection hb with hb
    injection hb with _ e2 _
    exact h3 e2.symm
theorem ty_q1 : (58 : TypeId) ≠ 73 := by decide
theorem ty_q2 : (58 : TypeId) ≠ 108 := by decide
theorem ty_q3 : (58 : TypeId) ≠ 101 := by decide
theorem ty_i1 : (104 : TypeId) ≠ 73 := by decide
theorem ty_i2 : (104 : TypeId) ≠ 108 := by decide
theorem ty_i3 : (104 : TypeId) ≠ 101 := by decide
theorem ty_o1 : (60 : TypeId) ≠ 73 := by decide
theorem ty_o2 : (60 : TypeId) ≠ 108 := by decide
theorem ty_o3 : (60 : TypeId) ≠ 101 := by decide
theorem ty_oq : (60 : TypeId) ≠ 58 := by decide
theorem ty_sq : (9 : TypeId) ≠ 58 := by decide
def Kr (B r : Nat) (J : List It) (a : Option Addr) (c : Nat) : Kp :=
  .keep (fun w => Bk w r 58 #[.slice a J.length c] ∧ EI B w (.slice a J.length c) J ∧ B ≤ r) (fun b => b = r ∨ (Value.slice a J.length c).ownBlock = some b)
def L2 (w0 w : World) (g n : Nat) (I : List It) (r : Nat) (J : List It) (O : List Kp) : Prop := ∃ a c, LQ w0 w g n I (Kr w0.heap.size r J a c :: O)
def allT (O : List Kp) : Prop := ∀ p ∈ O, (∃ v d, p = .txt v d) ∨ ∃ b cs, p = .blk b 60 cs
section
variable {w0 w w' : World} {g n r : Nat} {I J : List It} {O : List Kp}
theorem L2.lq (h : L2 w0 w g n I r J O) : LQ w0 w g n I O := by
  obtain ⟨a, c, h⟩ := h
  exact h.forget fun p hp => List.mem_cons_of_mem _ hp
theorem L2.rq (h : L2 w0 w g n I r J O) : RQ w0.heap.size w r J := by
  obtain ⟨a, c, x, h1, _, h3, h4⟩ := h
  obtain ⟨h5, _, _⟩ := h4 _ (List.mem_cons_self ..)
  exact ⟨a, c, h5⟩
theorem L2.mk (h : LQ w0 w g n I O) (hr : RQ w0.heap.size w r J) : L2 w0 w g n I r J O := by
  obtain ⟨a, c, r1, r2, r3⟩ := hr
  obtain ⟨x, h1, h2, h3, h4⟩ := h
  refine ⟨a, c, x, h1, h2, h3, fun p hp => ?_⟩
  rcases List.mem_cons.1 hp with rfl | hp
  · refine ⟨⟨r1, r2, r3⟩, fun b hb => ?_, fun w1 w2 ⟨q1, q2, q3⟩ hk => ⟨q1.heap (hk _ (.inl rfl)), q2.keepB fun b hb => hk _ (.inr hb), q3⟩⟩
    rcases hb with rfl | hb
    · exact ⟨r1.lt, h1.otherB (show w.heap[b]? = some (.cells #[.slice a J.length c] 58 (0, 0)) from r1) ty_q1 ty_q2 ty_q3⟩
    · obtain ⟨_, hl, cur, fz, hc⟩ := r2.ty b hb
      exact ⟨hl, h1.otherB hc ty_i1 ty_i2 ty_i3⟩
  · exact h4 p hp
theorem L2.below (h : L2 w0 w g n I r J O) (hb : Below w.heap.size w w') : L2 w0 w' g n I r J O := by
  obtain ⟨a, c, h⟩ := h
  exact ⟨a, c, h.below hb⟩
theorem L2.forget (h : L2 w0 w g n I r J O) {O' : List Kp} (hO : ∀ p ∈ O', p ∈ O) : L2 w0 w g n I r J O' := L2.mk (h.lq.forget hO) h.rq
theorem L2.box (h : L2 w0 w g n I r J O) (t : TypeId) (cs : Array Value) : L2 w0 (w.alloc (.cells cs t)) g n I r J (.blk w.heap.size t cs :: O) := L2.mk (h.lq.box t cs) (h.rq.below ((Below.refl _ _).alloc (Nat.le_refl _) _))
theorem allT.nil : allT [] := fun p hp => by cases hp
theorem allT.cons {v : Value} {d : List ByteArray} (h : allT O) : allT (.txt v d :: O) := fun p hp => (List.mem_cons.1 hp).elim (fun e => .inl ⟨_, _, e⟩) (h p)
theorem allT.box {b : Nat} {cs : Array Value} (h : allT O) : allT (.blk b 60 cs :: O) := fun p hp => (List.mem_cons.1 hp).elim (fun e => .inr ⟨_, _, e⟩) (h p)
theorem L2.chg (h : L2 w0 w g n I r J O) (hO : allT O) (hc : Chg (fun b => b = r) w w') {J2 : List It} (h2 : RQ w0.heap.size w' r J2) : L2 w0 w' g n I r J2 O := by
  obtain ⟨a, c, r1, r2, r3⟩ := h.rq
  have hrb : w.heap[r]? = some (.cells #[.slice a J.length c] 58 (0, 0)) := r1
  obtain ⟨x, h1, h2', h3, h4⟩ := h.lq
  refine L2.mk ⟨x, h1.chg hc (fun b hb e => ?_), h2', below_chg h3 hc (fun b hb => by rw [hb]; exact r3), fun p hp => ?_⟩ h2
  · subst e
    exact h1.otherB hrb ty_q1 ty_q2 ty_q3 hb
  · have h5 := h4 p hp
    rcases hO p hp with ⟨v, d, rfl⟩ | ⟨b, cs, rfl⟩
    · refine ⟨OT.chg h5.1 hc fun k hk e => ?_, h5.2⟩
      subst e
      obtain ⟨_, cur, fz, h6⟩ := h5.1.ty k hk
      exact bk_ne r1 h6 ty_sq
    · refine ⟨h5.1.chg hc fun e => ?_, h5.2⟩
      subst e
      exact bk_ne r1 (show w.heap[b]? = some (.cells cs 60 (0, 0)) from h5.1) ty_oq
theorem L2.chgt (h : L2 w0 w g n I r J O) (hO : allT O) (hc : Chg (fun b => b = r) w w') {J2 : List It} (h2 : RQ w0.heap.size w' r J2) {v : Value} {d : List ByteArray} (ho : OT w.heap.size w' v d) : L2 w0 w' g n I r J2 (.txt v d :: O) := by
  have h0 := h.lq.bel
  obtain ⟨x, h1, h2', h3, h4⟩ := (h.chg hO hc h2).lq
  refine L2.mk ⟨x, h1, h2', h3, fun p hp => ?_⟩ h2
  rcases List.mem_cons.1 hp with rfl | hp
  · exact ⟨OT.mono ho h0.size, h1.offT ho⟩
  · exact h4 p hp
theorem l2_set (h : L2 w0 w g n I r J O) (k : ByteArray) (hk : k.size ≤ 281474976710656) (t : Int) (ht : 0 ≤ t ∧ t ≤ 1099511627776) (hn : n ≤ 490) (I' : List It) (hI : setI k t I = I') :
    Calls Try.prog 27 #[ptr g, .string k, .int .i64 t] w fun e w' => e = .returned (.int .i64 0) ∧ L2 w0 w' g (n + 1) I' r J O := by
  obtain ⟨a, c, h⟩ := h
  refine (lq_set h k hk t ht hn I' hI).mono ?_
  rintro e w' ⟨rfl, h2⟩
  exact ⟨rfl, a, c, h2⟩
theorem l2_drop (h : L2 w0 w g n I r J O) (k : ByteArray) (hk : k.size ≤ 281474976710656) (hn : n ≤ 500) (I' : List It) (hI : dropI k I = I') (b : Bool) (hb : (atI k I).isSome = b) :
    Calls Try.prog 29 #[ptr g, .string k] w fun e w' => e = .returned (.bool b) ∧ L2 w0 w' g n I' r J O := by
  obtain ⟨a, c, h⟩ := h
  refine (lq_drop h k hk hn I' hI b hb).mono ?_
  rintro e w' ⟨rfl, h2⟩
  exact ⟨rfl, a, c, h2⟩
theorem l2_due (h : L2 w0 w g n I r J O) (now : Int) (hk : ∀ y ∈ I, y.1.size ≤ 281474976710656) (hn : n ≤ 500) (I' : List It) (hI : gtI now I = I') (d : List ByteArray) (hd : keysI (leI now I) = d) :
    Calls Try.prog 31 #[ptr g, .int .i64 now] w fun e w' => ∃ v c, e = .returned (.slice v d.length c) ∧ L2 w0 w' g n I' r J (.txt (.slice v d.length c) d :: O) := by
  obtain ⟨a, c, h⟩ := h
  refine (lq_due h now hk hn I' hI d hd).mono ?_
  rintro e w' ⟨v, cc, rfl, h2⟩
  refine ⟨v, cc, rfl, a, c, h2.forget fun p hp => ?_⟩
  rcases List.mem_cons.1 hp with rfl | hp
  · exact List.mem_cons_of_mem _ (List.mem_cons_self ..)
  · rcases List.mem_cons.1 hp with rfl | hp
    · exact List.mem_cons_self ..
    · exact List.mem_cons_of_mem _ (List.mem_cons_of_mem _ hp)
theorem l2_copy (h : L2 w0 w g n I r J O) (hn : n ≤ 1000000) :
    Calls Try.prog 33 #[ptr g] w fun e w' => ∃ gc y, e = .returned (ptr gc) ∧ y.L.map it = I ∧ L2 w0 w' g n I r J (Kq w0.heap.size gc n y :: O) := by
  obtain ⟨a, c, h⟩ := h
  refine (lq_copy h hn).mono ?_
  rintro e w' ⟨gc, y, rfl, hy, h2⟩
  refine ⟨gc, y, rfl, hy, a, c, h2.forget fun p hp => ?_⟩
  rcases List.mem_cons.1 hp with rfl | hp
  · exact List.mem_cons_of_mem _ (List.mem_cons_self ..)
  · rcases List.mem_cons.1 hp with rfl | hp
    · exact List.mem_cons_self ..
    · exact List.mem_cons_of_mem _ (List.mem_cons_of_mem _ hp)
theorem L2.turn {g2 n2 : Nat} {y : Qx} {I2 : List It} (h : L2 w0 w g n I r J O) (hm : Kq w0.heap.size g2 n2 y ∈ O) (hJ : y.L.map it = I2) {b : Nat} {cs : Array Value} (hb : Kp.blk b 60 cs ∈ O) : L2 w0 w g2 n2 I2 r J [.blk b 60 cs] := by
  have hk := h.lq.blk hb
  have hr := h.rq
  obtain ⟨x, h1, h2, h3, _⟩ := h.lq.other hm hJ
  refine L2.mk ⟨x, h1, h2, h3, fun p hp => ?_⟩ hr
  rw [List.mem_singleton] at hp
  subst hp
  exact ⟨hk, h1.otherB (show w.heap[b]? = some (.cells cs 60 (0, 0)) from hk) ty_o1 ty_o2 ty_o3⟩
theorem l2_rset (h : L2 w0 w g n I r J O) (hO : allT O) (hl : J.length ≤ 1000000) (hs : J.Pairwise (fun a b => a.2 ≤ b.2)) (k : ByteArray) (t : Int) (ht : 0 ≤ t ∧ t ≤ 1099511627776) (R : List It) (hR : setI k t J = R) :
    Calls Try.prog 28 #[ptr r, .string k, .int .i64 t] w fun e w' => e = .returned (.int .i64 0) ∧ L2 w0 w' g n I r R O := by
  refine (rset_any h.rq hl hs k t ht R hR).mono ?_
  rintro e w' ⟨rfl, q, c⟩
  exact ⟨rfl, h.chg hO c q⟩
theorem l2_rdrop (h : L2 w0 w g n I r J O) (hO : allT O) (hl : J.length ≤ 1000000) (hu : (keysI J).Nodup) (k : ByteArray) (R : List It) (hR : dropI k J = R) (b : Bool) (hb : (atI k J).isSome = b) :
    Calls Try.prog 30 #[ptr r, .string k] w fun e w' => e = .returned (.bool b) ∧ L2 w0 w' g n I r R O := by
  refine (rdrop_any h.rq hl k R hR b ?_).mono ?_
  · have h1 := drop_len k J hu
    rw [hR, hb] at h1
    cases b with
    | true => simp at h1; exact decide_eq_true (by omega)
    | false => simp at h1; exact decide_eq_false (by omega)
  rintro e w' ⟨rfl, q, c⟩
  exact ⟨rfl, h.chg hO c q⟩
theorem l2_rdue (h : L2 w0 w g n I r J O) (hO : allT O) (hl : J.length ≤ 1000000) (now : Int) (R : List It) (hR : gtI now J = R) (d : List ByteArray) (hd : keysI (leI now J) = d) :
    Calls Try.prog 32 #[ptr r, .int .i64 now] w fun e w' => ∃ v c, e = .returned (.slice v d.length c) ∧ L2 w0 w' g n I r R (.txt (.slice v d.length c) d :: O) := by
  refine (rdue_any h.rq hl now R hR d hd).mono ?_
  rintro e w' ⟨v, rfl, o, q, c⟩
  obtain ⟨a, cc, rfl⟩ := o.form
  exact ⟨a, cc, rfl, h.chgt hO c q o⟩
end
open Go.Proofs.Ytfilmbeoggmglaa.SL Go.Proofs.Ytfilmbeoggmglaa.RW
set_option maxRecDepth 100000
set_option linter.unusedVariables false
set_option linter.unusedSimpArgs false

abbrev spoiltE : ByteArray := ⟨#[115, 112, 111, 105, 108, 116]⟩
theorem atI_form (o : Option Int) : ∃ z b, AtI o = .tuple #[.int .i64 z, .bool b] := ⟨_, _, rfl⟩
theorem nexI_form (o : Option It) : ∃ z b, NexI o = .tuple #[.int .i64 z, .bool b] := ⟨_, _, rfl⟩
set_option maxHeartbeats 16000000 in
theorem eplays_any (v0 : Value) (w : World) (ho : FitsO w v0) :
    Calls Try.prog 4 #[v0] w fun e w' => e = .returned (.bool true) ∧ Below w.heap.size w w' := by
  obtain ⟨l, hl⟩ := ho
  obtain ⟨va, vc, rfl⟩ := hl.form
  have HL := Lib.hid hl
  clear hl
  go_enter Try.func4, Try.ntmps4
  go_wp2_with fail
  refine (lq_new w _ (Below.refl _ _)).mono ?_
  rintro e w1 ⟨g0, rfl, h1, _⟩
  have hr1 : RQ w.heap.size (w1.alloc (.cells #[.slice none 0 0] 58)) w1.heap.size [] := ⟨none, 0, Bk.new _ _ _, EI.nil _ _, h1.bel.size⟩
  have H : Hid (L2 w (w1.alloc (.cells #[.slice none 0 0] 58)) g0 0 [] w1.heap.size [] []) := Lib.hid (L2.mk (h1.below ((Below.refl _ _).alloc (Nat.le_refl _) _)) hr1)
  clear h1 hr1
  obtain ⟨r, hr⟩ : ∃ x, w1.heap.size = x := ⟨_, rfl⟩
  rw [hr] at H
  go_wp2
  try rw [hr]
  go_loopg [3, 5] (min l.length 60) (fun gk u3 u5 wx => ∃ (i n g : Nat) (I : List It), u3 = ptr g ∧ u5 = .int .i64 (i : Int) ∧ i + gk = min l.length 60 ∧ n ≤ 2 * i ∧ Short I ∧ L2 w wx g n I r I [])
  case atStart => exact ⟨0, 0, g0, [], rfl, rfl, by omega, by omega, (fun x hx => by cases hx), H.out⟩
  case round =>
    obtain ⟨i, n, g, I, rfl, rfl, hi, hn, hsh, hS⟩ := hrel
    have HSH := Lib.hid hsh
    have H := Lib.hid hS
    cases gk with
    | zero =>
      by_cases hlt : i < l.length
      · have l1 : (i : Int) < (l.length : Int) := by omega
        have i60 : ¬ ((i : Int) < 60) := by omega
        clear hi hn hsh hS hlt
        go_wp2_with fail
        refine (known_any _).mono ?_
        rintro e wk ⟨rfl, hk⟩
        have HK := Lib.hid hk
        clear hk
        go_wp2
        go_ret
        exact ⟨rfl, H.out.lq.bel.trans (HK.out.mono H.out.lq.bel.size)⟩
      · have l1 : ¬ ((i : Int) < (l.length : Int)) := by omega
        clear hi hn hsh hS hlt
        go_wp2_with fail
        refine (known_any _).mono ?_
        rintro e wk ⟨rfl, hk⟩
        have HK := Lib.hid hk
        clear hk
        go_wp2
        go_ret
        exact ⟨rfl, H.out.lq.bel.trans (HK.out.mono H.out.lq.bel.size)⟩
    | succ gko =>
      have hlt : i < l.length := by omega
      have l0 : (0 : Int) ≤ (i : Int) := by omega
      have l1 : (i : Int) < (l.length : Int) := by omega
      have i60 : (i : Int) < 60 := by omega
      obtain ⟨i1, hi1⟩ : ∃ i1, i + 1 = i1 := ⟨_, rfl⟩
      have wk : IntKind.i64.wrap ((i : Int) + 1) = (i1 : Int) := by rw [show (i : Int) + 1 = (i1 : Int) by omega]; exact IntWalk.i64_in _ (by omega)
      have HI1 : Hid (i1 + gko = min l.length 60 ∧ n + 2 ≤ 2 * i1 ∧ n ≤ 120) := Lib.hid (by omega)
      have HIL : Hid (I.length ≤ n) := Lib.hid hS.lq.si.2.2
      have HUQ : Hid ((keysI I).Nodup) := Lib.hid hS.lq.si.2.1
      have HPW : Hid (I.Pairwise (fun a b => a.2 ≤ b.2)) := Lib.hid hS.lq.si.1
      have hop := HL.out.below hS.lq.bel
      obtain ⟨ob, oo, oc, he, hcp, hx⟩ := hop.inv (by omega)
      injection he with he1 _ he3
      subst he1 he3
      obtain ⟨op, hop0⟩ : ∃ o, l[i] = o := ⟨_, rfl⟩
      obtain ⟨⟨q0, q1⟩, x0, x1, x2⟩ := hx i op (by rw [List.getElem?_eq_getElem hlt, hop0])
      obtain ⟨kd, k, z⟩ := op
      simp only at x0 x1 x2 q0 q1
      have HBX := Lib.hid (hS.box 60 #[.int .i64 kd, .string k, .int .i64 z])
      obtain ⟨ob2, hob2⟩ : ∃ x, wr.heap.size = x := ⟨_, rfl⟩
      clear hi hn hsh hS hlt hi1 hop hcp hx hop0 q0 q1
      by_cases h100 : k.size ≤ 100
      · have k100 : ¬ ((100 : Int) < (k.size : Int)) := by omega
        have HK100 := Lib.hid h100
        have HKB : Hid (k.size ≤ 281474976710656) := Lib.hid (by omega)
        clear h100
        obtain ⟨W1, hW1⟩ : ∃ W, wr.alloc (.cells #[.int .i64 kd, .string k, .int .i64 z] 60) = W := ⟨_, rfl⟩
        rw [hW1, hob2] at HBX
        have hbk := HBX.out.lq.blk (List.mem_cons_self ..)
        have q0 := hbk.cell 0
        have q1 := hbk.cell 1
        have q2 := hbk.cell 2
        clear hbk
        go_upto_block 2 with fail
        try rw [hW1]
        try rw [hob2]
        go_cut [3] (fun s3 wx => ∃ n2 g2 I2, s3 = ptr g2 ∧ n2 ≤ 2 * i1 ∧ L2 w wx g2 n2 I2 r I2 [.blk ob2 60 #[.int .i64 kd, .string k, .int .i64 z]] ∧ Short I2)
        case first =>
          have H := HBX
          clear HBX hW1 hob2
          by_cases e0 : kd = 0
          · subst e0
            by_cases hz : 0 ≤ z ∧ z ≤ 1099511627776
            · as_aux_lemma =>
                have HZ := Lib.hid hz
                clear hz
                obtain ⟨I2, hI2⟩ : ∃ J, setI k z I = J := ⟨_, rfl⟩
                have HSH2 : Hid (Short I2) := Lib.hid (by rw [← hI2]; exact HSH.out.setI HK100.out z)
                have HI2 := Lib.hid hI2
                clear hI2
                go_wp2_with fail
                refine wp_region_held_drew (S := (fun w' => w'.cell? ⟨ob2, 1, none⟩ = some (.string k) ∧ w'.cell? ⟨ob2, 2, none⟩ = some (.int .i64 z))) (by kernel_rfl) ?_ (fun hS => ?_)
                · exact ⟨q1, q2⟩
                have H := Lib.hid (H.out.below (show Below W1.heap.size W1 W1.drew from below_drewN _ _ 1))
                clear q0 q1 q2
                refine tkY 0 ?_ rfl hS ?_ ?_
                rotate_left
                · intro wz hz
                  obtain ⟨z1, z2⟩ := hz
                  go_simp
                  all_goals first | with_reducible rfl | omega
                try simp only [Act.put, pu]
                refine tkY 1 ?_ rfl hS ?_ ?_
                rotate_left
                · intro wz hz
                  obtain ⟨z1, z2⟩ := hz
                  go_simp
                  all_goals first | with_reducible rfl | omega
                try simp only [Act.put, pu]
                refine tkY 2 ?_ rfl hS ?_ ?_
                rotate_left
                · intro wz hz
                  obtain ⟨z1, z2⟩ := hz
                  go_simp
                  all_goals first | with_reducible rfl | omega
                try simp only [Act.put, pu]
                refine tkY 3 ?_ rfl hS ?_ ?_
                rotate_left
                · intro wz hz
                  obtain ⟨z1, z2⟩ := hz
                  go_simp
                  all_goals first | with_reducible rfl | omega
                try simp only [Act.put, pu]
                refine tkY 4 ?_ rfl hS ?_ ?_
                rotate_left
                · intro wz hz
                  obtain ⟨z1, z2⟩ := hz
                  go_simp
                  all_goals first | with_reducible rfl | omega
                try simp only [Act.put, pu]
                refine tkY 6 ?_ rfl hS ?_ ?_
                rotate_left
                · intro wz hz
                  obtain ⟨z1, z2⟩ := hz
                  go_simp
                  all_goals first | with_reducible rfl | omega
                try simp only [Act.put, pu]
                refine tkY 7 ?_ rfl hS ?_ ?_
                rotate_left
                · intro wz hz
                  obtain ⟨z1, z2⟩ := hz
                  go_simp
                  all_goals first | with_reducible rfl | omega
                try simp only [Act.put, pu]
                refine tkY 8 ?_ rfl hS ?_ ?_
                rotate_left
                · intro wz hz
                  obtain ⟨z1, z2⟩ := hz
                  go_simp
                  all_goals first | with_reducible rfl | omega
                try simp only [Act.put, pu]
                refine tkY 9 ?_ rfl hS ?_ ?_
                rotate_left
                · intro wz hz
                  obtain ⟨z1, z2⟩ := hz
                  go_simp
                  all_goals first | with_reducible rfl | omega
                try simp only [Act.put, pu]
                refine tkY 10 ?_ rfl hS ?_ ?_
                rotate_left
                · intro wz hz
                  obtain ⟨z1, z2⟩ := hz
                  go_simp
                  all_goals first | with_reducible rfl | omega
                try simp only [Act.put, pu]
                refine wpAnyH_ready (rs := [5]) (by kernel_rfl) (by simp) (AllReadyH.cons rfl (fun K' hK' => ?_) AllReadyH.nil)
                go_simp
                refine (l2_set H.out k HKB.out z HZ.out (by have := HI1.out; omega) I2 HI2.out).mono ?_
                rintro e w2 ⟨rfl, h2⟩
                have H := Lib.hid h2
                have hbk := h2.lq.blk (List.mem_cons_self ..)
                have q1 := hbk.cell 1
                have q2 := hbk.cell 2
                clear hbk
                clear h2
                refine hK'.out _ _ ?_ (fun hSn => ?_)
                · exact ⟨q1, q2⟩
                clear hK' K' hS
                have hS := hSn
                clear hSn
                try simp only [Act.put, pu]
                refine wpAnyH_ready (rs := [11]) (by kernel_rfl) (by simp) (AllReadyH.cons rfl (fun K' hK' => ?_) AllReadyH.nil)
                go_simp
                refine (l2_rset H.out allT.nil.box (by have := HIL.out; have := HI1.out; omega) HPW.out k z HZ.out I2 HI2.out).mono ?_
                rintro e w3 ⟨rfl, h3⟩
                have H := Lib.hid h3
                have hbk := h3.lq.blk (List.mem_cons_self ..)
                have q3 := hbk.cell 1
                have q4 := hbk.cell 2
                clear hbk
                clear h3
                refine hK'.out _ _ ?_ (fun hSn => ?_)
                · exact ⟨q3, q4⟩
                clear hK' K' hS
                have hS := hSn
                clear hSn
                try simp only [Act.put, pu]
                refine tkY 12 (.bool false) rfl hS ?_ ?_
                · intro wz hz
                  obtain ⟨z1, z2⟩ := hz
                  go_simp
                  all_goals first | with_reducible rfl | omega
                try simp only [Act.put, pu]
                refine wpAnyH_done (by kernel_rfl) ?_ _
                clear hS
                go_wp2_with fail
                go_meet
                exact ⟨n + 1, g, I2, rfl, by have := HI1.out; omega, H.out, HSH2.out⟩
            · as_aux_lemma =>
                have HZ := Lib.hid hz
                clear hz
                go_wp2_with fail
                refine wp_region_held_drew (S := (fun w' => w'.cell? ⟨ob2, 1, none⟩ = some (.string k) ∧ w'.cell? ⟨ob2, 2, none⟩ = some (.int .i64 z))) (by kernel_rfl) ?_ (fun hS => ?_)
                · exact ⟨q1, q2⟩
                have H := Lib.hid (H.out.below (show Below W1.heap.size W1 W1.drew from below_drewN _ _ 1))
                clear q0 q1 q2
                refine tkY 0 ?_ rfl hS ?_ ?_
                rotate_left
                · intro wz hz
                  obtain ⟨z1, z2⟩ := hz
                  go_simp
                  all_goals first | with_reducible rfl | omega
                try simp only [Act.put, pu]
                refine tkY 1 ?_ rfl hS ?_ ?_
                rotate_left
                · intro wz hz
                  obtain ⟨z1, z2⟩ := hz
                  go_simp
                  all_goals first | with_reducible rfl | omega
                try simp only [Act.put, pu]
                refine tkY 2 ?_ rfl hS ?_ ?_
                rotate_left
                · intro wz hz
                  obtain ⟨z1, z2⟩ := hz
                  go_simp
                  all_goals first | with_reducible rfl | omega
                try simp only [Act.put, pu]
                refine tkY 3 ?_ rfl hS ?_ ?_
                rotate_left
                · intro wz hz
                  obtain ⟨z1, z2⟩ := hz
                  go_simp
                  all_goals first | with_reducible rfl | omega
                try simp only [Act.put, pu]
                refine tkY 4 ?_ rfl hS ?_ ?_
                rotate_left
                · intro wz hz
                  obtain ⟨z1, z2⟩ := hz
                  go_simp
                  all_goals first | with_reducible rfl | omega
                try simp only [Act.put, pu]
                refine tkY 6 ?_ rfl hS ?_ ?_
                rotate_left
                · intro wz hz
                  obtain ⟨z1, z2⟩ := hz
                  go_simp
                  all_goals first | with_reducible rfl | omega
                try simp only [Act.put, pu]
                refine tkY 7 ?_ rfl hS ?_ ?_
                rotate_left
                · intro wz hz
                  obtain ⟨z1, z2⟩ := hz
                  go_simp
                  all_goals first | with_reducible rfl | omega
                try simp only [Act.put, pu]
                refine tkY 8 ?_ rfl hS ?_ ?_
                rotate_left
                · intro wz hz
                  obtain ⟨z1, z2⟩ := hz
                  go_simp
                  all_goals first | with_reducible rfl | omega
                try simp only [Act.put, pu]
                refine tkY 9 ?_ rfl hS ?_ ?_
                rotate_left
                · intro wz hz
                  obtain ⟨z1, z2⟩ := hz
                  go_simp
                  all_goals first | with_reducible rfl | omega
                try simp only [Act.put, pu]
                refine tkY 10 ?_ rfl hS ?_ ?_
                rotate_left
                · intro wz hz
                  obtain ⟨z1, z2⟩ := hz
                  go_simp
                  all_goals first | with_reducible rfl | omega
                try simp only [Act.put, pu]
                refine wpAnyH_ready (rs := [5]) (by kernel_rfl) (by simp) (AllReadyH.cons rfl (fun K' hK' => ?_) AllReadyH.nil)
                go_simp
                refine (lq_err H.out.lq k z HZ.out).mono ?_
                rintro e w2 ⟨rfl, rfl⟩
                refine hK'.out _ _ ?_ (fun hSn => ?_)
                · exact hS
                clear hK' K' hS
                have hS := hSn
                clear hSn
                try simp only [Act.put, pu]
                refine wpAnyH_ready (rs := [11]) (by kernel_rfl) (by simp) (AllReadyH.cons rfl (fun K' hK' => ?_) AllReadyH.nil)
                go_simp
                refine (rset_err k z HZ.out).mono ?_
                rintro e w3 ⟨rfl, rfl⟩
                refine hK'.out _ _ ?_ (fun hSn => ?_)
                · exact hS
                clear hK' K' hS
                have hS := hSn
                clear hSn
                try simp only [Act.put, pu]
                refine tkY 12 (.bool false) rfl hS ?_ ?_
                · intro wz hz
                  obtain ⟨z1, z2⟩ := hz
                  go_simp
                  all_goals first | with_reducible rfl | omega
                try simp only [Act.put, pu]
                refine wpAnyH_done (by kernel_rfl) ?_ _
                clear hS
                go_wp2_with fail
                go_meet
                exact ⟨n, g, I, rfl, by have := HI1.out; omega, H.out, HSH.out⟩
          · by_cases e1 : kd = 1
            · subst e1
              as_aux_lemma =>
                obtain ⟨I2, hI2⟩ : ∃ J, dropI k I = J := ⟨_, rfl⟩
                obtain ⟨bb, hbb⟩ : ∃ b, (atI k I).isSome = b := ⟨_, rfl⟩
                have HSH2 : Hid (Short I2) := Lib.hid (by rw [← hI2]; exact HSH.out.dropI k)
                have HI2 := Lib.hid hI2
                have HBB := Lib.hid hbb
                clear hI2 hbb
                go_wp2_with fail
                refine wp_region_held_drew (S := (fun w' => w'.cell? ⟨ob2, 1, none⟩ = some (.string k) ∧ w'.cell? ⟨ob2, 2, none⟩ = some (.int .i64 z))) (by kernel_rfl) ?_ (fun hS => ?_)
                · exact ⟨q1, q2⟩
                have H := Lib.hid (H.out.below (show Below W1.heap.size W1 W1.drew from below_drewN _ _ 1))
                clear q0 q1 q2
                refine tkY 0 ?_ rfl hS ?_ ?_
                rotate_left
                · intro wz hz
                  obtain ⟨z1, z2⟩ := hz
                  go_simp
                  all_goals first | with_reducible rfl | omega
                try simp only [Act.put, pu]
                refine tkY 1 ?_ rfl hS ?_ ?_
                rotate_left
                · intro wz hz
                  obtain ⟨z1, z2⟩ := hz
                  go_simp
                  all_goals first | with_reducible rfl | omega
                try simp only [Act.put, pu]
                refine tkY 2 ?_ rfl hS ?_ ?_
                rotate_left
                · intro wz hz
                  obtain ⟨z1, z2⟩ := hz
                  go_simp
                  all_goals first | with_reducible rfl | omega
                try simp only [Act.put, pu]
                refine tkY 4 ?_ rfl hS ?_ ?_
                rotate_left
                · intro wz hz
                  obtain ⟨z1, z2⟩ := hz
                  go_simp
                  all_goals first | with_reducible rfl | omega
                try simp only [Act.put, pu]
                refine tkY 5 ?_ rfl hS ?_ ?_
                rotate_left
                · intro wz hz
                  obtain ⟨z1, z2⟩ := hz
                  go_simp
                  all_goals first | with_reducible rfl | omega
                try simp only [Act.put, pu]
                refine tkY 6 ?_ rfl hS ?_ ?_
                rotate_left
                · intro wz hz
                  obtain ⟨z1, z2⟩ := hz
                  go_simp
                  all_goals first | with_reducible rfl | omega
                try simp only [Act.put, pu]
                refine wpAnyH_ready (rs := [3]) (by kernel_rfl) (by simp) (AllReadyH.cons rfl (fun K' hK' => ?_) AllReadyH.nil)
                go_simp
                refine (l2_drop H.out k HKB.out (by have := HI1.out; omega) I2 HI2.out bb HBB.out).mono ?_
                rintro e w2 ⟨rfl, h2⟩
                have H := Lib.hid h2
                have hbk := h2.lq.blk (List.mem_cons_self ..)
                have q1 := hbk.cell 1
                have q2 := hbk.cell 2
                clear hbk
                clear h2
                refine hK'.out _ _ ?_ (fun hSn => ?_)
                · exact ⟨q1, q2⟩
                clear hK' K' hS
                have hS := hSn
                clear hSn
                try simp only [Act.put, pu]
                refine wpAnyH_ready (rs := [7]) (by kernel_rfl) (by simp) (AllReadyH.cons rfl (fun K' hK' => ?_) AllReadyH.nil)
                go_simp
                refine (l2_rdrop H.out allT.nil.box (by have := HIL.out; have := HI1.out; omega) HUQ.out k I2 HI2.out bb HBB.out).mono ?_
                rintro e w3 ⟨rfl, h3⟩
                have H := Lib.hid h3
                have hbk := h3.lq.blk (List.mem_cons_self ..)
                have q3 := hbk.cell 1
                have q4 := hbk.cell 2
                clear hbk
                clear h3
                refine hK'.out _ _ ?_ (fun hSn => ?_)
                · exact ⟨q3, q4⟩
                clear hK' K' hS
                have hS := hSn
                clear hSn
                try simp only [Act.put, pu]
                refine tkY 8 (.bool false) rfl hS ?_ ?_
                · intro wz hz
                  obtain ⟨z1, z2⟩ := hz
                  go_simp
                  all_goals first | with_reducible rfl | omega
                try simp only [Act.put, pu]
                refine wpAnyH_done (by kernel_rfl) ?_ _
                clear hS
                go_wp2_with fail
                go_meet
                exact ⟨n, g, I2, rfl, by have := HI1.out; omega, H.out, HSH2.out⟩
            · by_cases e2 : kd = 2
              · subst e2
                as_aux_lemma =>
                  obtain ⟨I2, hI2⟩ : ∃ J, gtI z I = J := ⟨_, rfl⟩
                  obtain ⟨d, hd⟩ : ∃ b, keysI (leI z I) = b := ⟨_, rfl⟩
                  have HSH2 : Hid (Short I2) := Lib.hid (by rw [← hI2]; exact HSH.out.gtI z)
                  have HDL : Hid (d.length ≤ 2000000000) := Lib.hid (by
                    rw [← hd]
                    unfold keysI
                    rw [List.length_map]
                    have h1 := le_gt_len z I
                    have := HIL.out
                    have := HI1.out
                    omega)
                  have HI2 := Lib.hid hI2
                  have HD := Lib.hid hd
                  clear hI2 hd
                  go_wp2_with fail
                  refine wp_region_held_drew (S := (fun w' => w'.cell? ⟨ob2, 1, none⟩ = some (.string k) ∧ w'.cell? ⟨ob2, 2, none⟩ = some (.int .i64 z))) (by kernel_rfl) ?_ (fun hS => ?_)
                  · exact ⟨q1, q2⟩
                  have H := Lib.hid (H.out.below (show Below W1.heap.size W1 W1.drew from below_drewN _ _ 1))
                  clear q0 q1 q2
                  refine tkY 0 ?_ rfl hS ?_ ?_
                  rotate_left
                  · intro wz hz
                    obtain ⟨z1, z2⟩ := hz
                    go_simp
                    all_goals first | with_reducible rfl | omega
                  try simp only [Act.put, pu]
                  refine tkY 1 ?_ rfl hS ?_ ?_
                  rotate_left
                  · intro wz hz
                    obtain ⟨z1, z2⟩ := hz
                    go_simp
                    all_goals first | with_reducible rfl | omega
                  try simp only [Act.put, pu]
                  refine tkY 2 ?_ rfl hS ?_ ?_
                  rotate_left
                  · intro wz hz
                    obtain ⟨z1, z2⟩ := hz
                    go_simp
                    all_goals first | with_reducible rfl | omega
                  try simp only [Act.put, pu]
                  refine tkY 4 ?_ rfl hS ?_ ?_
                  rotate_left
                  · intro wz hz
                    obtain ⟨z1, z2⟩ := hz
                    go_simp
                    all_goals first | with_reducible rfl | omega
                  try simp only [Act.put, pu]
                  refine tkY 5 ?_ rfl hS ?_ ?_
                  rotate_left
                  · intro wz hz
                    obtain ⟨z1, z2⟩ := hz
                    go_simp
                    all_goals first | with_reducible rfl | omega
                  try simp only [Act.put, pu]
                  refine tkY 6 ?_ rfl hS ?_ ?_
                  rotate_left
                  · intro wz hz
                    obtain ⟨z1, z2⟩ := hz
                    go_simp
                    all_goals first | with_reducible rfl | omega
                  try simp only [Act.put, pu]
                  refine wpAnyH_ready (rs := [3]) (by kernel_rfl) (by simp) (AllReadyH.cons rfl (fun K' hK' => ?_) AllReadyH.nil)
                  go_simp
                  refine (l2_due H.out z HSH.out.le (by have := HI1.out; omega) I2 HI2.out d HD.out).mono ?_
                  rintro e w2 ⟨v2, c2, rfl, h2⟩
                  have H := Lib.hid h2
                  have hbk := h2.lq.blk (List.mem_cons_of_mem _ (List.mem_cons_self ..))
                  have q1 := hbk.cell 1
                  have q2 := hbk.cell 2
                  clear hbk
                  clear h2
                  refine hK'.out _ _ ?_ (fun hSn => ?_)
                  · exact ⟨q1, q2⟩
                  clear hK' K' hS
                  have hS := hSn
                  clear hSn
                  try simp only [Act.put, pu]
                  refine wpAnyH_ready (rs := [7]) (by kernel_rfl) (by simp) (AllReadyH.cons rfl (fun K' hK' => ?_) AllReadyH.nil)
                  go_simp
                  refine (l2_rdue H.out allT.nil.box.cons (by have := HIL.out; have := HI1.out; omega) z I2 HI2.out d HD.out).mono ?_
                  rintro e w3 ⟨v3, c3, rfl, h3⟩
                  have H := Lib.hid h3
                  have hbk := h3.lq.blk (List.mem_cons_of_mem _ (List.mem_cons_of_mem _ (List.mem_cons_self ..)))
                  have q3 := hbk.cell 1
                  have q4 := hbk.cell 2
                  clear hbk
                  clear h3
                  refine hK'.out _ _ ?_ (fun hSn => ?_)
                  · exact ⟨q3, q4⟩
                  clear hK' K' hS
                  have hS := hSn
                  clear hSn
                  try simp only [Act.put, pu]
                  refine wpAnyH_ready (rs := [8]) (by kernel_rfl) (by simp) (AllReadyH.cons rfl (fun K' hK' => ?_) AllReadyH.nil)
                  go_simp
                  refine (lq_texts H.out.lq (H.out.lq.told (List.mem_cons_of_mem _ (List.mem_cons_self ..))).ts (H.out.lq.told (List.mem_cons_self ..)).ts HDL.out HDL.out true (by simp)).mono ?_
                  rintro e w4 ⟨rfl, m4, hw4⟩
                  have hb4 := bel_drew hw4
                  have h4 := (H.out.below hb4).forget (O' := [.blk ob2 60 #[.int .i64 2, .string k, .int .i64 z]]) (fun p hp => by rw [List.mem_singleton] at hp; subst hp; exact List.mem_cons_of_mem _ (List.mem_cons_of_mem _ (List.mem_cons_self ..)))
                  have H := Lib.hid h4
                  have hbk := h4.lq.blk (List.mem_cons_self ..)
                  have q5 := hbk.cell 1
                  have q6 := hbk.cell 2
                  clear hbk
                  clear h4 hb4 hw4
                  refine hK'.out _ _ ?_ (fun hSn => ?_)
                  · exact ⟨q5, q6⟩
                  clear hK' K' hS
                  have hS := hSn
                  clear hSn
                  try simp only [Act.put, pu]
                  refine tkY 9 (.bool false) rfl hS ?_ ?_
                  · intro wz hz
                    obtain ⟨z1, z2⟩ := hz
                    go_simp
                    all_goals first | with_reducible rfl | omega
                  try simp only [Act.put, pu]
                  refine wpAnyH_done (by kernel_rfl) ?_ _
                  clear hS
                  go_wp2_with fail
                  go_meet
                  exact ⟨n, g, I2, rfl, by have := HI1.out; omega, H.out, HSH2.out⟩
              · as_aux_lemma =>
                  have e0b : (kd == 0) = false := beq_eq_false_iff_ne.2 e0
                  have e1b : (kd == 1) = false := beq_eq_false_iff_ne.2 e1
                  have e2b : (kd == 2) = false := beq_eq_false_iff_ne.2 e2
                  clear e0 e1 e2
                  go_wp2_with fail
                  refine (l2_copy H.out (by have := HI1.out; omega)).mono ?_
                  rintro e w2 ⟨gc, y, rfl, hy, h2⟩
                  have HY := Lib.hid hy
                  have H := Lib.hid h2
                  clear h2 hy q0 q1 q2
                  go_wp2_with fail
                  refine (l2_set H.out spoiltE (by decide) 1 (by omega) (by have := HI1.out; omega) _ rfl).mono ?_
                  rintro e w3 ⟨rfl, h3⟩
                  have H := Lib.hid h3
                  have HSH3 := Lib.hid (HSH.out.setI (show spoiltE.size ≤ 100 by decide) 1)
                  clear h3
                  go_wp2_with fail
                  refine (l2_due H.out 1099511627776 HSH3.out.le (by have := HI1.out; omega) _ rfl _ rfl).mono ?_
                  rintro e w4 ⟨v4, c4, rfl, h4⟩
                  have H := Lib.hid (h4.turn (List.mem_cons_of_mem _ (List.mem_cons_self ..)) HY.out (List.mem_cons_of_mem _ (List.mem_cons_of_mem _ (List.mem_cons_self ..))))
                  clear h4
                  go_wp2_with fail
                  go_meet
                  exact ⟨n, gc, I, rfl, by have := HI1.out; omega, H.out, HSH.out⟩
        case rest =>
          clear q0 q1 q2 HBX hW1 hob2
          as_aux_lemma =>
            obtain ⟨n2, g2, I2, rfl, hn2, h2, hsh2⟩ := hcut
            have H := Lib.hid h2
            have HSH2 := Lib.hid hsh2
            have HN2 := Lib.hid hn2
            have hbk := h2.lq.blk (List.mem_cons_self ..)
            have q1 := hbk.cell 1
            have q2 := hbk.cell 2
            clear hbk
            have HIL2 : Hid (I2.length ≤ n2) := Lib.hid h2.lq.si.2.2
            obtain ⟨za, ba, hza⟩ := atI_form (atI k I2)
            obtain ⟨zn, bn, hzn⟩ := nexI_form I2.head?
            obtain ⟨d, hd⟩ : ∃ d, keysI I2 = d := ⟨_, rfl⟩
            have HZA := Lib.hid hza
            have HZN := Lib.hid hzn
            have HD := Lib.hid hd
            have HLI : Hid (I2.length ≤ 1000000) := Lib.hid (by have := h2.lq.si.2.2; have := HI1.out; omega)
            have HDL : Hid (d.length ≤ 2000000000) := Lib.hid (by rw [← hd]; unfold keysI; rw [List.length_map]; have := h2.lq.si.2.2; have := HI1.out; omega)
            have hob := World.block_lt_of_cell? _ _ q1
            have HOB := Lib.hid hob
            clear hob
            clear h2 hsh2 hn2 hza hzn hd
            go_wp2_with fail
            refine (lq_at H.out.lq k HKB.out _ HZA.out).mono ?_
            rintro e w3 ⟨rfl, hb3⟩
            have H := Lib.hid (H.out.below hb3)
            have q3 := (hb3.cell (p := ⟨ob2, 1, none⟩) HOB.out).trans q1
            clear hb3 q1 q2
            go_wp2_with fail
            refine (rat_any H.out.rq HLI.out k _ HZA.out).mono ?_
            rintro e w4 ⟨rfl, m4, hw4⟩
            have H := Lib.hid (H.out.below (bel_drew hw4))
            clear hw4 q3
            go_wp2_with fail
            refine (lq_next H.out.lq _ HZN.out).mono ?_
            rintro e w5 ⟨rfl, rfl⟩
            go_wp2_with fail
            refine (rnext_any H.out.rq HLI.out _ HZN.out).mono ?_
            rintro e w6 ⟨rfl, m6, hw6⟩
            have H := Lib.hid (H.out.below (bel_drew hw6))
            clear hw6
            go_wp2_with fail
            refine (lq_keys H.out.lq (by have := HN2.out; have := HI1.out; omega) d HD.out).mono ?_
            rintro e w7 ⟨v7, c7, rfl, hb7, h7⟩
            have H7 := Lib.hid h7
            have H := Lib.hid (H.out.below hb7)
            clear hb7 h7
            go_wp2_with fail
            refine (rkeys_any H.out.rq HLI.out d HD.out).mono ?_
            rintro e w8 ⟨v8, rfl, ho8, hb8⟩
            have H7 := Lib.hid (H7.out.add hb8 ho8)
            have H := Lib.hid (H.out.below hb8)
            obtain ⟨a8, c8, rfl⟩ := ho8.form
            clear hb8 ho8
            go_wp2_with fail
            refine (lq_texts H.out.lq (H7.out.told (List.mem_cons_of_mem _ (List.mem_cons_self ..))).ts (H7.out.told (List.mem_cons_self ..)).ts HDL.out HDL.out true (by simp)).mono ?_
            rintro e w9 ⟨rfl, m9, hw9⟩
            have H := Lib.hid ((H.out.below (bel_drew hw9)).forget (O' := []) (fun p hp => by cases hp))
            clear hw9 H7
            go_wp2
            go_roundg gko
            case measure => exact Nat.lt_succ_self _
            case rel => exact ⟨i1, n2, g2, I2, rfl, rfl, HI1.out.1, HN2.out, HSH2.out, H.out⟩
      · have k100 : (100 : Int) < (k.size : Int) := by omega
        clear h100
        go_wp2
        go_roundg gko
        case measure => exact Nat.lt_succ_self _
        case rel => exact ⟨i1, n, g, I, rfl, rfl, HI1.out.1, by have := HI1.out; omega, HSH.out, HBX.out.forget (O' := []) (fun p hp => by cases hp)⟩
end Go.Proofs.Ytfilmbeoggmglaa.EX
