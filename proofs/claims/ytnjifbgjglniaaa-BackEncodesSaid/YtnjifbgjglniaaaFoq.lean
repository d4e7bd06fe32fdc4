/- Plain mathematics of layer 3: what is read of a body is right and has that body; what is right is read from its body; a byte more or less is nothing. No program is walked here. -/
import Derived.Test.YtnjifbgjglniaaaFop
namespace Go.Proofs.Ytnjifbgjglniaaa
set_option linter.unusedVariables false

theorem trip {α β γ : Type} (r : α × β × γ) : ∃ a b c, r = (a, b, c) := ⟨_, _, _, rfl⟩
theorem kept_of (d : Kd) (a : Ask) (hd : kd a.kind = some d) (h : keptD d a) : Kept a := by unfold Kept; rw [hd]; exact h
theorem body_of (d : Kd) (a : Ask) (hd : kd a.kind = some d) : body a = bodyD d a := by unfold body; rw [hd]

theorem or_not {x b : Bool} (h : (x || !b) = false) : x = false ∧ b = true := by cases x <;> cases b <;> simp_all

theorem sound_start (k : UInt8) (hd : kd k = some .start) (s l : Tx) (a : Ask) (h : readD .start { kind := k } s false = (a, l, false)) : a.kind = k ∧ s = bodyD .start a ++ l ∧ Good a := by
  unfold readD at h
  obtain ⟨c, l1, x1, e1⟩ := trip (rd4 s false)
  simp only [e1] at h
  by_cases h1 : c = 196608
  · rw [if_pos h1] at h
    obtain ⟨k1, l2, x2, e2⟩ := trip (rdT l1 x1)
    simp only [e2] at h
    obtain ⟨ks, vs, l3, x3, e3⟩ : ∃ a b c d, pairsP k1 l2 x2 = (a, b, c, d) := ⟨_, _, _, _, rfl⟩
    simp only [e3] at h
    injection h with ha hb; injection hb with hb hc
    obtain ⟨rfl, hn⟩ := or_not hc
    have hn := of_decide_eq_true hn
    subst ha hb
    have hz : 0 ∉ k1 := by
      have := e2
      unfold rdT at this
      split at this
      · rename_i hm
        injection this with a b
        rw [← a]; exact (upto0_split _ hm).2
      · injection this with a b; rw [← a]; simp
    obtain ⟨i1, i2, i3, i4, i5, i6⟩ := pairsP_inv _ k1 l2 x2 ks vs l3 (Nat.le_refl _) hz e3
    subst i1
    obtain ⟨j1, j2, j3⟩ := rdT_inv e2
    subst j1
    obtain ⟨m1, m2, m3⟩ := rd4_inv e1
    refine ⟨rfl, ?_, ?_⟩
    · have hb : txt k1 ++ l2 = pairsW ks vs ++ ([0] ++ l3) := by
        by_cases hk : k1 = []
        · obtain ⟨_, _, e⟩ := i3 hk
          rw [if_pos hk] at i2; rw [e] at i2 ⊢; exact i2
        · rw [if_neg hk] at i2; exact i2
      show s = (if false = true then n32 80877102 ++ (n32 0 ++ n32 0) else n32 196608 ++ (pairsW ks vs ++ [0])) ++ l3
      rw [if_neg (by decide), m2, j2, hb, h1]; simp
    · exact { kept := kept_of .start _ hd (by simp [keptD]), vals := i4, null := rfl, args100 := by simp, fmts100 := by simp, keys100 := hn, name0 := by simp, portal0 := by simp, sql0 := by simp, keys0 := fun t ht => (i5 t ht).1, vals0 := i6, pid4 := by simp [four], secret4 := by simp [four], most0 := by simp, most4 := by simp [four], keysN := fun t ht => (i5 t ht).2, nulls := by simp, fmts := by simp, what := by intro h; rw [hd] at h; cases h }
  · rw [if_neg h1] at h
    by_cases h2 : c = 80877102
    · rw [if_pos h2] at h
      obtain ⟨p, l2, x2, e2⟩ := trip (rd4 l1 x1)
      simp only [e2] at h
      obtain ⟨z, l3, x3, e3⟩ := trip (rd4 l2 x2)
      simp only [e3] at h
      injection h with ha hb; injection hb with hb hc
      subst ha hb hc
      obtain ⟨i1, i2, i3⟩ := rd4_inv e3
      subst i1
      obtain ⟨j1, j2, j3⟩ := rd4_inv e2
      subst j1
      obtain ⟨m1, m2, m3⟩ := rd4_inv e1
      refine ⟨rfl, ?_, ?_⟩
      · show s = (if true = true then n32 80877102 ++ (n32 p ++ n32 z) else n32 196608 ++ (pairsW [] [] ++ [0])) ++ l3
        rw [if_pos rfl, m2, j2, i2, h2]; simp
      · exact { kept := kept_of .start _ hd (by simp [keptD]), vals := rfl, null := rfl, args100 := by simp, fmts100 := by simp, keys100 := by simp, name0 := by simp, portal0 := by simp, sql0 := by simp, keys0 := by simp, vals0 := by simp, pid4 := j3, secret4 := i3, most0 := by simp, most4 := by simp [four], keysN := by simp, nulls := by simp, fmts := by simp, what := by intro h; rw [hd] at h; cases h }
    · rw [if_neg h2] at h
      injection h with ha hb; injection hb with hb hc
      cases hc

theorem sound_sql (k : UInt8) (hd : kd k = some .sql) (s l : Tx) (a : Ask) (h : readD .sql { kind := k } s false = (a, l, false)) : a.kind = k ∧ s = bodyD .sql a ++ l ∧ Good a := by
  unfold readD at h
  obtain ⟨t, l1, x1, e1⟩ := trip (rdT s false)
  simp only [e1] at h
  injection h with ha hb; injection hb with hb hc
  subst ha hb hc
  obtain ⟨m1, m2, m3⟩ := rdT_inv e1
  refine ⟨rfl, m2, ?_⟩
  exact { kept := kept_of .sql _ hd (by simp [keptD]), vals := rfl, null := rfl, args100 := by simp, fmts100 := by simp, keys100 := by simp, name0 := by simp, portal0 := by simp, sql0 := m3, keys0 := by simp, vals0 := by simp, pid4 := by simp [four], secret4 := by simp [four], most0 := by simp, most4 := by simp [four], keysN := by simp, nulls := by simp, fmts := by simp, what := by intro h; rw [hd] at h; cases h }
theorem sound_nothing (k : UInt8) (hd : kd k = some .nothing) (s l : Tx) (a : Ask) (h : readD .nothing { kind := k } s false = (a, l, false)) : a.kind = k ∧ s = bodyD .nothing a ++ l ∧ Good a := by
  unfold readD at h
  injection h with ha hb; injection hb with hb hc
  subst ha hb
  refine ⟨rfl, rfl, ?_⟩
  exact { kept := kept_of .nothing _ hd (by simp [keptD]), vals := rfl, null := rfl, args100 := by simp, fmts100 := by simp, keys100 := by simp, name0 := by simp, portal0 := by simp, sql0 := by simp, keys0 := by simp, vals0 := by simp, pid4 := by simp [four], secret4 := by simp [four], most0 := by simp, most4 := by simp [four], keysN := by simp, nulls := by simp, fmts := by simp, what := by intro h; rw [hd] at h; cases h }
theorem sound_parse (k : UInt8) (hd : kd k = some .parse) (s l : Tx) (a : Ask) (h : readD .parse { kind := k } s false = (a, l, false)) : a.kind = k ∧ s = bodyD .parse a ++ l ∧ Good a := by
  unfold readD at h
  obtain ⟨t, l1, x1, e1⟩ := trip (rdT s false)
  simp only [e1] at h
  obtain ⟨u, l2, x2, e2⟩ := trip (rdT l1 x1)
  simp only [e2] at h
  obtain ⟨z, l3, x3, e3⟩ := trip (rd2 l2 x2)
  simp only [e3] at h
  injection h with ha hb; injection hb with hb hc
  obtain ⟨rfl, hz⟩ := or_not hc
  have hz := of_decide_eq_true hz
  subst ha hb hz
  obtain ⟨i1, i2⟩ := rd2_inv e3
  subst i1
  obtain ⟨j1, j2, j3⟩ := rdT_inv e2
  subst j1
  obtain ⟨m1, m2, m3⟩ := rdT_inv e1
  refine ⟨rfl, ?_, ?_⟩
  · show s = txt t ++ (txt u ++ n16 0) ++ l3
    rw [m2, j2, i2]; simp
  · exact { kept := kept_of .parse _ hd (by simp [keptD]), vals := rfl, null := rfl, args100 := by simp, fmts100 := by simp, keys100 := by simp, name0 := m3, portal0 := by simp, sql0 := j3, keys0 := by simp, vals0 := by simp, pid4 := by simp [four], secret4 := by simp [four], most0 := by simp, most4 := by simp [four], keysN := by simp, nulls := by simp, fmts := by simp, what := by intro h; rw [hd] at h; cases h }
theorem sound_bind (k : UInt8) (hd : kd k = some .bind) (s l : Tx) (a : Ask) (h : readD .bind { kind := k } s false = (a, l, false)) : a.kind = k ∧ s = bodyD .bind a ++ l ∧ Good a := by
  unfold readD at h
  obtain ⟨t, l1, x1, e1⟩ := trip (rdT s false)
  simp only [e1] at h
  obtain ⟨u, l2, x2, e2⟩ := trip (rdT l1 x1)
  simp only [e2] at h
  obtain ⟨z, l3, x3, e3⟩ := trip (rd2 l2 x2)
  simp only [e3] at h
  obtain ⟨n, l4, x4, e4⟩ := trip (rdC l3 (x3 || !decide (z = 0)))
  simp only [e4] at h
  obtain ⟨az, ns, l5, x5, e5⟩ : ∃ a b c d, argsP n l4 x4 = (a, b, c, d) := ⟨_, _, _, _, rfl⟩
  simp only [e5] at h
  obtain ⟨m, l6, x6, e6⟩ := trip (rdC l5 x5)
  simp only [e6] at h
  obtain ⟨fs, l7, x7, e7⟩ := trip (fmtP m l6 x6)
  simp only [e7] at h
  injection h with ha hb; injection hb with hb hc
  subst ha hb hc
  obtain ⟨g1, g2, g3, g4⟩ := fmtP_inv _ _ _ _ _ e7
  subst g1
  obtain ⟨f1, f2, f3⟩ := rdC_inv e6
  subst f1
  obtain ⟨d1, d2, d3, d4, d5⟩ := argsP_inv _ _ _ _ _ _ e5
  subst d1
  obtain ⟨c1, c2, c3⟩ := rdC_inv e4
  obtain ⟨rfl, hz⟩ := or_not c1
  have hz := of_decide_eq_true hz
  subst hz
  obtain ⟨i1, i2⟩ := rd2_inv e3
  subst i1
  obtain ⟨j1, j2, j3⟩ := rdT_inv e2
  subst j1
  obtain ⟨m1, m2, m3⟩ := rdT_inv e1
  refine ⟨rfl, ?_, ?_⟩
  · show s = txt t ++ (txt u ++ (n16 0 ++ (n16 (min az.length ns.length : Nat) ++ (argsW az ns ++ (n16 fs.length ++ fmtW fs))))) ++ l7
    rw [m2, j2, i2, c2, d2, f2, g2, d3, d4, g3, Nat.min_self]; simp
  · exact { kept := kept_of .bind _ hd (by simp [keptD]), vals := rfl, null := by show ns.length = az.length; omega, args100 := by show az.length ≤ 100; omega, fmts100 := by show fs.length ≤ 100; omega, keys100 := by simp, name0 := j3, portal0 := m3, sql0 := by simp, keys0 := by simp, vals0 := by simp, pid4 := by simp [four], secret4 := by simp [four], most0 := by simp, most4 := by simp [four], keysN := by simp, nulls := d5, fmts := g4, what := by intro h; rw [hd] at h; cases h }
theorem sound_named (k : UInt8) (hd : kd k = some .named) (s l : Tx) (a : Ask) (h : readD .named { kind := k } s false = (a, l, false)) : a.kind = k ∧ s = bodyD .named a ++ l ∧ Good a := by
  unfold readD at h
  obtain ⟨b, l1, x1, e1⟩ := trip (rdB 1 s false)
  simp only [e1] at h
  obtain ⟨t, l2, x2, e2⟩ := trip (rdT l1 (x1 || !decide (b = [83] ∨ b = [80])))
  simp only [e2] at h
  injection h with ha hb; injection hb with hb hc
  subst ha hb hc
  obtain ⟨i1, i2, i3⟩ := rdT_inv e2
  obtain ⟨rfl, hb⟩ := or_not i1
  have hb := of_decide_eq_true hb
  obtain ⟨j1, j2, j3⟩ := rdB_inv e1
  rw [if_neg (by decide)]
  have hw : b = [b.headD 0] := by rcases hb with rfl | rfl <;> rfl
  refine ⟨rfl, ?_, ?_⟩
  · show s = [b.headD 0] ++ txt t ++ l2
    rw [j2, i2, ← hw]; simp
  · exact { kept := kept_of .named _ hd (by simp [keptD]), vals := rfl, null := rfl, args100 := by simp, fmts100 := by simp, keys100 := by simp, name0 := i3, portal0 := by simp, sql0 := by simp, keys0 := by simp, vals0 := by simp, pid4 := by simp [four], secret4 := by simp [four], most0 := by simp, most4 := by simp [four], keysN := by simp, nulls := by simp, fmts := by simp, what := by intro _; show b.headD 0 = 83 ∨ b.headD 0 = 80; rcases hb with rfl | rfl <;> simp }
theorem sound_exec (k : UInt8) (hd : kd k = some .exec) (s l : Tx) (a : Ask) (h : readD .exec { kind := k } s false = (a, l, false)) : a.kind = k ∧ s = bodyD .exec a ++ l ∧ Good a := by
  unfold readD at h
  obtain ⟨t, l1, x1, e1⟩ := trip (rdT s false)
  simp only [e1] at h
  obtain ⟨n, l2, x2, e2⟩ := trip (rd4 l1 x1)
  simp only [e2] at h
  injection h with ha hb; injection hb with hb hc
  obtain ⟨rfl, hz⟩ := or_not hc
  have hz := of_decide_eq_true hz
  subst ha hb
  obtain ⟨j1, j2, j3⟩ := rd4_inv e2
  subst j1
  obtain ⟨m1, m2, m3⟩ := rdT_inv e1
  refine ⟨rfl, ?_, ?_⟩
  · show s = txt t ++ n32 n ++ l2
    rw [m2, j2]; simp
  · exact { kept := kept_of .exec _ hd (by simp [keptD]), vals := rfl, null := rfl, args100 := by simp, fmts100 := by simp, keys100 := by simp, name0 := by simp, portal0 := m3, sql0 := by simp, keys0 := by simp, vals0 := by simp, pid4 := by simp [four], secret4 := by simp [four], most0 := hz, most4 := j3, keysN := by simp, nulls := by simp, fmts := by simp, what := by intro h; rw [hd] at h; cases h }

theorem sound (d : Kd) (k : UInt8) (hd : kd k = some d) (s l : Tx) (a : Ask) (h : readD d { kind := k } s false = (a, l, false)) : a.kind = k ∧ s = body a ++ l ∧ Good a := by
  have key : a.kind = k ∧ s = bodyD d a ++ l ∧ Good a := by
    cases d
    · exact sound_start k hd s l a h
    · exact sound_sql k hd s l a h
    · exact sound_nothing k hd s l a h
    · exact sound_parse k hd s l a h
    · exact sound_bind k hd s l a h
    · exact sound_named k hd s l a h
    · exact sound_exec k hd s l a h
  obtain ⟨h1, h2, h3⟩ := key
  exact ⟨h1, by rw [body_of d a (by rw [h1]; exact hd)]; exact h2, h3⟩

theorem fwd (d : Kd) (a : Ask) (hd : kd a.kind = some d) (g : Good a) (hb : ∀ t ∈ a.args, t.length < 2147483648) (l : Tx) : readD d { kind := a.kind } (bodyD d a ++ l) false = (a, l, false) := by
  have hk : keptD d a := by have := g.kept; unfold Kept at this; rw [hd] at this; exact this
  cases d
  · simp only [keptD] at hk
    by_cases hc : a.cancel = true
    · rw [if_pos hc] at hk
      have e : bodyD .start a ++ l = n32 80877102 ++ (n32 a.pid ++ (n32 a.secret ++ l)) := by simp [bodyD, hc]
      unfold readD
      rw [e, rd4_fwd _ _ _ (by decide)]
      simp only
      rw [if_neg (by decide), if_pos trivial, rd4_fwd _ _ _ g.pid4]
      simp only
      rw [rd4_fwd _ _ _ g.secret4]
      simp only
      rw [← hk]
    · rw [if_neg hc] at hk
      have e : bodyD .start a ++ l = n32 196608 ++ (pairsW a.keys a.vals ++ 0 :: l) := by simp [bodyD, hc]
      unfold readD
      rw [e, rd4_fwd _ _ _ (by decide)]
      simp only
      rw [if_pos trivial, pairsP_fwd a.keys a.vals l false g.vals (fun t ht => ⟨g.keys0 t ht, g.keysN t ht⟩) g.vals0]
      simp only
      rw [decide_eq_true g.keys100, ← hk]; rfl
  · simp only [keptD] at hk
    unfold readD
    simp only [bodyD]
    rw [rdT_fwd _ _ _ g.sql0]
    simp only
    rw [← hk]
  · simp only [keptD] at hk
    unfold readD
    simp only [bodyD]
    rw [← hk]; rfl
  · simp only [keptD] at hk
    have e : bodyD .parse a ++ l = txt a.name ++ (txt a.sql ++ (n16 0 ++ l)) := by simp [bodyD]
    unfold readD
    rw [e, rdT_fwd _ _ _ g.name0]
    simp only
    rw [rdT_fwd _ _ _ g.sql0]
    simp only
    rw [rd2_fwd _ _ _ (by decide) (by decide)]
    simp only
    rw [← hk]; rfl
  · simp only [keptD] at hk
    have e : bodyD .bind a ++ l = txt a.portal ++ (txt a.name ++ (n16 0 ++ (n16 (a.args.length : Nat) ++ (argsW a.args a.null ++ (n16 (a.formats.length : Nat) ++ (fmtW a.formats ++ l)))))) := by simp [bodyD, g.null]
    unfold readD
    rw [e, rdT_fwd _ _ _ g.portal0]
    simp only
    rw [rdT_fwd _ _ _ g.name0]
    simp only
    rw [rd2_fwd _ _ _ (by decide) (by decide)]
    simp only
    simp only [decide_true, Bool.not_true, Bool.or_false]
    rw [rdC_fwd _ _ _ g.args100]
    simp only [Bool.false_eq_true, if_false]
    rw [argsP_fwd a.args a.null _ false g.null g.nulls hb]
    simp only
    rw [rdC_fwd _ _ _ g.fmts100]
    simp only [Bool.false_eq_true, if_false]
    rw [fmtP_fwd a.formats l false g.fmts]
    simp only
    rw [← hk]
  · simp only [keptD] at hk
    have hw := g.what hd
    have e : bodyD .named a ++ l = [a.what] ++ (txt a.name ++ l) := by simp [bodyD]
    unfold readD
    rw [e]
    have e1 : rdB 1 ([a.what] ++ (txt a.name ++ l)) false = ([a.what], txt a.name ++ l, false) := rdB_fwd [a.what] _ _
    have e2 : decide ([a.what] = [83] ∨ [a.what] = [80]) = true := by rcases hw with h | h <;> simp [h]
    simp only [e1, e2]
    rw [show (false || !true) = false from rfl, rdT_fwd _ _ _ g.name0]
    simp only [Bool.false_eq_true, if_false]
    have e3 : ([a.what] : Tx).headD 0 = a.what := rfl
    rw [e3, ← hk]
  · simp only [keptD] at hk
    have e : bodyD .exec a ++ l = txt a.portal ++ (n32 a.most ++ l) := by simp [bodyD]
    unfold readD
    rw [e, rdT_fwd _ _ _ g.portal0]
    simp only
    rw [rd4_fwd _ _ _ g.most4]
    simp only
    rw [decide_eq_true g.most0, ← hk]; rfl

theorem Good.kind {a : Ask} (g : Good a) : ∃ d, kd a.kind = some d := by
  have := g.kept
  unfold Kept at this
  cases h : kd a.kind with
  | none => rw [h] at this; exact this.elim
  | some d => exact ⟨d, rfl⟩
theorem argsW_len (az : List Tx) : ∀ ns : List Bool, ns.length = az.length → (∀ p ∈ az.zip ns, p.2 = true → p.1 = []) → ∀ t ∈ az, t.length ≤ (argsW az ns).length := by
  induction az with
  | nil => intro ns _ _ t ht; cases ht
  | cons a az ih =>
    intro ns hl h t ht
    match ns, hl with
    | b :: ns, hl =>
      rw [argsW_cons, List.length_append]
      rcases List.mem_cons.1 ht with rfl | ht
      · cases b with
        | true => have : t = [] := h (t, true) (by simp) rfl
                  subst this; simp
        | false => rw [argW_false, List.length_append]; omega
      · have := ih ns (by simpa using hl) (fun p hp => h p (by rw [List.zip_cons_cons]; exact List.mem_cons_of_mem _ hp)) t ht
        omega
theorem Good.argsB {a : Ask} (g : Good a) : ∀ t ∈ a.args, t.length ≤ (body a).length := by
  intro t ht
  obtain ⟨d, hd⟩ := g.kind
  have hk : keptD d a := by have := g.kept; unfold Kept at this; rw [hd] at this; exact this
  rw [body_of d a hd]
  cases d
  case bind =>
    have := argsW_len a.args a.null g.null g.nulls t ht
    simp only [bodyD, List.length_append]; omega
  all_goals
    exfalso
    simp only [keptD] at hk
    have : a.args = [] := by first | (rw [hk]; done) | (rw [hk]; split <;> rfl)
    rw [this] at ht; cases ht
theorem RightP.len {a : Ask} (h : RightP a) : (body a).length ≤ 4092 := by
  have := h.2
  simp [rightL] at this
  exact this.2
theorem read_right {a : Ask} (h : RightP a) (d : Kd) (hd : kd a.kind = some d) (l : Tx) : readD d { kind := a.kind } (body a ++ l) false = (a, l, false) := by
  rw [body_of d a hd]
  refine fwd d a hd h.1 (fun t ht => ?_) l
  have := h.1.argsB t ht
  have := h.len
  omega

theorem dec_ok {a : Ask} (h : RightP a) : decP a.kind (body a) = (a, 0) := by
  obtain ⟨d, hd⟩ := h.1.kind
  have e := read_right h d hd []
  rw [List.append_nil] at e
  unfold decP
  rw [hd]
  simp only [h.2, Bool.true_eq_false, if_false]
  rw [e]; simp
theorem dec_inv {k : UInt8} {s : Tx} (h : (decP k s).2 = 0) : RightP (decP k s).1 ∧ (decP k s).1.kind = k ∧ body (decP k s).1 = s := by
  unfold decP at *
  cases hd : kd k with
  | none => rw [hd] at h; cases h
  | some d =>
    rw [hd] at h
    simp only at h ⊢
    by_cases hr : rightL (k, s) = false
    · rw [if_pos hr] at h; cases h
    · rw [if_neg hr] at h ⊢
      by_cases hx : (readD d { kind := k } s false).2.2 = true ∨ (readD d { kind := k } s false).2.1 ≠ []
      · rw [if_pos hx] at h; cases h
      · rw [if_neg hx]
        obtain ⟨a, l, x, e⟩ := trip (readD d { kind := k } s false)
        rw [e] at hx ⊢
        have hx0 : x = false := by cases x; rfl; exact absurd (Or.inl rfl) hx
        have hl0 : l = [] := by
          by_cases h : l = []
          · exact h
          · exact absurd (Or.inr h) hx
        subst hx0 hl0
        obtain ⟨h1, h2, h3⟩ := sound d k hd s [] a e
        rw [List.append_nil] at h2
        refine ⟨⟨h3, ?_⟩, h1, h2.symm⟩
        rw [h1, ← h2]; simpa using hr
theorem dec_no {k : UInt8} {s : Tx} (h : (decP k s).2 ≠ 0) : decP k s = ({}, if (kd k).isSome then 4 else 5) := by
  unfold decP at *
  cases hd : kd k with
  | none => rfl
  | some d =>
    rw [hd] at h
    simp only at h ⊢
    by_cases hr : rightL (k, s) = false
    · rw [if_pos hr]; rfl
    · rw [if_neg hr] at h ⊢
      by_cases hx : (readD d { kind := k } s false).2.2 = true ∨ (readD d { kind := k } s false).2.1 ≠ []
      · rw [if_pos hx]; rfl
      · rw [if_neg hx] at h; exact absurd rfl h

open Classical in
/-- what is encoded -/
noncomputable def encP (a : Ask) : (UInt8 × Tx) × Int := if RightP a then ((a.kind, body a), 0) else ((0, []), 4)

theorem longer {a : Ask} (h : RightP a) (b : UInt8) : decP a.kind (body a ++ [b]) = ({}, 4) := by
  obtain ⟨d, hd⟩ := h.1.kind
  have e := read_right h d hd [b]
  unfold decP
  rw [hd]
  simp only
  by_cases hr : rightL (a.kind, body a ++ [b]) = false
  · rw [if_pos hr]
  · rw [if_neg hr, e]; simp
theorem shorter {a : Ask} (h : RightP a) (hn : body a ≠ []) : decP a.kind (body a).dropLast = ({}, 4) := by
  obtain ⟨d, hd⟩ := h.1.kind
  have hks : (kd a.kind).isSome = true := by rw [hd]; rfl
  by_cases hz : (decP a.kind (body a).dropLast).2 = 0
  · exfalso
    obtain ⟨h1, h2, h3⟩ := dec_inv hz
    generalize (decP a.kind (body a).dropLast).1 = c at *
    have e : body a = body c ++ [(body a).getLast hn] := by rw [h3]; exact (List.dropLast_concat_getLast hn).symm
    have hl := longer h1 ((body a).getLast hn)
    rw [← e, h2, dec_ok h] at hl
    injection hl with _ hl
    cases hl
  · rw [dec_no hz, hks]; rfl
theorem right_inj {a b : Ask} (ha : RightP a) (hb : RightP b) (hk : a.kind = b.kind) (hbo : body a = body b) : a = b := by
  have e1 := dec_ok ha
  have e2 := dec_ok hb
  rw [hk, hbo, e2] at e1
  injection e1 with e1
  exact e1.symm
theorem body_nil {a : Ask} (h : RightP a) (hn : body a = []) : a.kind = 88 ∨ a.kind = 83 ∨ a.kind = 72 := by
  obtain ⟨d, hd⟩ := h.1.kind
  have hb := body_of d a hd
  rw [hn] at hb
  have hd2 : d = .nothing := by
    cases d with
    | nothing => rfl
    | start => simp only [bodyD] at hb; split at hb <;> simp [n32] at hb
    | sql => simp [bodyD, txt] at hb
    | parse => simp [bodyD, txt] at hb
    | bind => simp [bodyD, txt] at hb
    | named => simp [bodyD] at hb
    | exec => simp [bodyD, txt] at hb
  subst hd2
  unfold kd at hd
  split at hd
  · cases hd
  · split at hd
    · cases hd
    · split at hd
      · assumption
      · split at hd
        · cases hd
        · split at hd
          · cases hd
          · split at hd
            · cases hd
            · split at hd <;> cases hd
end Go.Proofs.Ytnjifbgjglniaaa
