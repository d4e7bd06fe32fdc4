/- Plain mathematics of layer 3: how the document's own read goes over a body, place by place: of the body of what can be asked it reads just that. No program is walked here.
   Words for memory: an ask that the document's read is making, row by row.
   What the document's own first reads of a body. Condition: the body is of at most 6,000 bytes. -/
import Derived.Test.YtojgeilihoilnaaM23
set_option linter.unusedSimpArgs false
set_option linter.unusedVariables false
namespace Go.Proofs.Ytojgeilihoilnaa
set_option linter.unusedVariables false

/-- at place p of s stands rest -/
def At (s : ByteArray) (p : Int) (rest : Tx) : Prop := ∃ q : Nat, p = (q : Int) ∧ q ≤ s.size ∧ s.data.toList.drop q = rest
theorem at0 (s : ByteArray) : At s 0 s.data.toList := ⟨0, rfl, Nat.zero_le _, rfl⟩
section
variable {s : ByteArray} {p : Int} {rest : Tx}
theorem At.text {t : Tx} (h : At s p (txt t ++ rest)) (h0 : 0 ∉ t) : ∃ p', gText s p = (ba t, p', 0) ∧ At s p' rest := by
  obtain ⟨q, rfl, hq, hd⟩ := h
  obtain ⟨er, q', e1, e2⟩ := gText_list s q hq false
  rw [hd, rdT_fwd t rest false h0] at e1 e2
  by_cases he : er = 0
  · rw [if_pos he] at e2
    subst he
    injection e2.2 with e3 _
    exact ⟨q', e1, q', rfl, e2.1, e3.symm⟩
  · rw [if_neg he] at e2
    injection e2 with _ e3
    cases e3
theorem At.four {n : Int} (h : At s p (n32 n ++ rest)) (hn : four n) : ∃ p', g32 s p = (n, p', 0) ∧ At s p' rest := by
  obtain ⟨q, rfl, hq, hd⟩ := h
  obtain ⟨er, e1, e2⟩ := g32_list s q hq false
  rw [hd, rd4_fwd n rest false hn] at e1 e2
  by_cases he : er = 0
  · rw [if_pos he] at e1 e2
    subst he
    injection e2.2 with e3 _
    exact ⟨_, e1, q + 4, by omega, e2.1, e3.symm⟩
  · rw [if_neg he] at e2
    injection e2 with _ e3
    cases e3
theorem At.two {n : Int} (h : At s p (n16 n ++ rest)) (h1 : -32768 ≤ n) (h2 : n < 32768) : ∃ p', g16 s p = (n, p', 0) ∧ At s p' rest := by
  obtain ⟨q, rfl, hq, hd⟩ := h
  obtain ⟨er, e1, e2⟩ := g16_list s q hq false
  rw [hd, rd2_fwd n rest false h1 h2] at e1 e2
  by_cases he : er = 0
  · rw [if_pos he] at e1 e2
    subst he
    injection e2.2 with e3 _
    exact ⟨_, e1, q + 2, by omega, e2.1, e3.symm⟩
  · rw [if_neg he] at e2
    injection e2 with _ e3
    cases e3
theorem At.bytes {t : Tx} (h : At s p (t ++ rest)) : ∃ p', gBytes s p (t.length : Int) = (ba t, p', 0) ∧ At s p' rest := by
  obtain ⟨q, rfl, hq, hd⟩ := h
  obtain ⟨er, q', e1, e2⟩ := gBytes_list s q (t.length : Int) hq false
  rw [hd, rdB_fwd t rest false] at e1 e2
  by_cases he : er = 0
  · rw [if_pos he] at e1 e2
    subst he
    injection e2.2.2 with e3 _
    exact ⟨_, e1, ((q : Int) + (t.length : Int)).toNat, by omega, by omega, e3.symm⟩
  · rw [if_neg he] at e2
    injection e2 with _ e3
    cases e3
theorem At.skip {t : Tx} (h : At s p (t ++ rest)) : At s (p + (t.length : Int)) rest := by
  obtain ⟨q, rfl, hq, hd⟩ := h
  have hl := congrArg List.length hd
  rw [drop_len, List.length_append] at hl
  refine ⟨q + t.length, by omega, by omega, ?_⟩
  rw [← List.drop_drop, hd, List.drop_left]
end
theorem gText_len (s : ByteArray) (p : Int) : (gText s p).1.data.toList.length ≤ s.size := by
  rw [← Lib.size_eq]
  unfold gText
  split
  · exact Nat.zero_le _
  · split
    · exact Nat.zero_le _
    · simp only [ByteArray.size_extract]; omega
theorem gBytes_len (s : ByteArray) (p n : Int) : (gBytes s p n).1.data.toList.length ≤ s.size := by
  rw [← Lib.size_eq]
  unfold gBytes
  split
  · exact Nat.zero_le _
  · split
    · exact Nat.zero_le _
    · split
      · exact Nat.zero_le _
      · simp only [ByteArray.size_extract]; omega

/-- r is what is read of s: of the body of what can be asked, just that -/
def Reads (k : UInt8) (s : ByteArray) (r : Ask) : Prop := r.kind = k ∧ Few r ∧ ∀ a, RightP a → a.kind = k → body a = s.data.toList → r = a
theorem kept_at {a : Ask} (h : RightP a) (d : Kd) (hd : kd a.kind = some d) : keptD d a := by have := h.1.kept; unfold Kept at this; rw [hd] at this; exact this

-- a first body
def FI (s : ByteArray) (ks vs : List Tx) (p : Int) : Prop := ks.length = vs.length ∧ ks.length ≤ 101 ∧ (∀ t ∈ ks, t.length ≤ s.size) ∧ (∀ t ∈ vs, t.length ≤ s.size) ∧
  ∀ a, RightP a → a.kind = 0 → body a = s.data.toList → a.cancel = false ∧ ∃ kr vr, a.keys = ks ++ kr ∧ a.vals = vs ++ vr ∧ kr.length = vr.length ∧ At s p (pairsW kr vr ++ [0])
theorem first_body {a : Ask} {s : ByteArray} (hk : a.kind = 0) (hb : body a = s.data.toList) : At s 0 (if a.cancel then n32 80877102 ++ (n32 a.pid ++ n32 a.secret) else n32 196608 ++ (pairsW a.keys a.vals ++ [0])) := by
  have h := at0 s
  rw [← hb, body_of .start a (by rw [hk]; rfl)] at h
  exact h
theorem fi_start (s : ByteArray) (h : (g32 s 0).1 ≠ 80877102) : FI s [] [] (g32 s 0).2.1 := by
  refine ⟨rfl, by simp, by simp, by simp, fun a ha hk hb => ?_⟩
  have h0 := first_body hk hb
  cases hc : a.cancel
  · rw [hc, if_neg (by decide)] at h0
    obtain ⟨p', e, h1⟩ := h0.four (by decide)
    rw [e]
    exact ⟨rfl, a.keys, a.vals, rfl, rfl, ha.1.vals, h1⟩
  · rw [hc, if_pos rfl] at h0
    obtain ⟨p', e, h1⟩ := h0.four (by decide)
    rw [e] at h
    exact absurd rfl h
theorem fi_cancel (s : ByteArray) (h : (g32 s 0).1 = 80877102) : Reads 0 s { cancel := true, pid := (g32 s (g32 s 0).2.1).1, secret := (g32 s (g32 s (g32 s 0).2.1).2.1).1 } := by
  refine ⟨rfl, ⟨by simp, by simp, by simp, by simp, by simp, by simp, by simp, by simp, by simp, by simp, by simp⟩, fun a ha hk hb => ?_⟩
  have h0 := first_body hk hb
  have hkp := kept_at ha .start (by rw [hk]; rfl)
  cases hc : a.cancel
  · rw [hc, if_neg (by decide)] at h0
    obtain ⟨p', e, h1⟩ := h0.four (by decide)
    rw [e] at h
    exact absurd (show (196608 : Int) = 80877102 from h) (by decide)
  · rw [hc, if_pos rfl] at h0
    obtain ⟨p1, e1, h1⟩ := h0.four (by decide)
    obtain ⟨p2, e2, h2⟩ := h1.four ha.1.pid4
    have h2' : At s p2 (n32 a.secret ++ []) := by rw [List.append_nil]; exact h2
    obtain ⟨p3, e3, h3⟩ := h2'.four ha.1.secret4
    rw [e1, e2, e3]
    simp only [keptD, hc, if_true, hk] at hkp
    exact hkp.symm
theorem fi_step {s : ByteArray} {ks vs : List Tx} {p m p' : Int} {k v : ByteArray} (h : FI s ks vs p) (hl : ks.length ≤ 100) (e1 : gText s p = (k, m, 0)) (e2 : gText s m = (v, p', 0)) (hk : k.data.toList ≠ []) :
    FI s (ks ++ [k.data.toList]) (vs ++ [v.data.toList]) p' := by
  obtain ⟨h1, h2, h3, h4, h5⟩ := h
  have l1 := gText_len s p
  have l2 := gText_len s m
  rw [e1] at l1
  rw [e2] at l2
  refine ⟨by simp [h1], by simp; omega, ?_, ?_, fun a ha ak hb => ?_⟩
  · intro t ht
    rcases List.mem_append.1 ht with ht | ht
    · exact h3 t ht
    · rw [List.mem_singleton.1 ht]; exact l1
  · intro t ht
    rcases List.mem_append.1 ht with ht | ht
    · exact h4 t ht
    · rw [List.mem_singleton.1 ht]; exact l2
  · obtain ⟨hc, kr, vr, f1, f2, f3, f4⟩ := h5 a ha ak hb
    match kr, vr, f3 with
    | [], [], _ =>
      exfalso
      obtain ⟨q, e, _⟩ := At.text (t := []) (rest := []) (s := s) (p := p) (by simpa [pairsW, txt, upto0] using f4) (by simp)
      rw [e1] at e
      injection e with e _
      rw [e] at hk
      exact hk rfl
    | k1 :: kr, v1 :: vr, f3 =>
      have hk1 : 0 ∉ k1 := ha.1.keys0 k1 (by rw [f1]; simp)
      have hv1 : 0 ∉ v1 := ha.1.vals0 v1 (by rw [f2]; simp)
      have f5 : At s p (txt k1 ++ (txt v1 ++ (pairsW kr vr ++ [0]))) := by simpa [pairsW] using f4
      obtain ⟨q1, g1, f6⟩ := f5.text hk1
      rw [e1] at g1
      injection g1 with g1 g2
      injection g2 with g2 _
      subst g2
      obtain ⟨q2, g3, f7⟩ := f6.text hv1
      rw [e2] at g3
      injection g3 with g3 g4
      injection g4 with g4 _
      subst g4 g1 g3
      refine ⟨hc, kr, vr, ?_, ?_, by simpa using f3, f7⟩
      · rw [f1, ba_list]; simp
      · rw [f2, ba_list]; simp
theorem fi_stop {s : ByteArray} {ks vs : List Tx} {p : Int} (h : FI s ks vs p) (hs : s.size ≤ 6000) (hno : 100 < ks.length ∨ (gText s p).2.2 ≠ 0 ∨ (gText s (gText s p).2.1).2.2 ≠ 0 ∨ (gText s p).1.data.toList = []) : Reads 0 s { keys := ks, vals := vs } := by
  obtain ⟨h1, h2, h3, h4, h5⟩ := h
  refine ⟨rfl, ⟨by simp, by simp, by simp, by show ks.length ≤ 1000; omega, by show vs.length ≤ 1000; omega, by simp, by simp, by simp, fun t ht => by have := h3 t ht; omega, fun t ht => by have := h4 t ht; omega, by simp⟩, fun a ha hk hb => ?_⟩
  have hkp := kept_at ha .start (by rw [hk]; rfl)
  obtain ⟨hc, kr, vr, f1, f2, f3, f4⟩ := h5 a ha hk hb
  simp only [keptD, hc, Bool.false_eq_true, if_false, hk] at hkp
  match kr, vr, f3 with
  | [], [], _ =>
    rw [List.append_nil] at f1 f2
    rw [← f1, ← f2]
    exact hkp.symm
  | k1 :: kr, v1 :: vr, f3 =>
    exfalso
    have hk1 : 0 ∉ k1 := ha.1.keys0 k1 (by rw [f1]; simp)
    have hkn : k1 ≠ [] := ha.1.keysN k1 (by rw [f1]; simp)
    have hv1 : 0 ∉ v1 := ha.1.vals0 v1 (by rw [f2]; simp)
    have f5 : At s p (txt k1 ++ (txt v1 ++ (pairsW kr vr ++ [0]))) := by simpa [pairsW] using f4
    obtain ⟨q1, g1, f6⟩ := f5.text hk1
    obtain ⟨q2, g3, f7⟩ := f6.text hv1
    rw [g1] at hno
    rw [g3] at hno
    rcases hno with hno | hno | hno | hno
    · have := ha.1.keys100
      rw [f1] at this
      simp at this; omega
    · exact hno rfl
    · exact hno rfl
    · rw [ba_list] at hno; exact hkn hno

-- a bind's body
def RestB (a : Ask) : Tx := n16 a.formats.length ++ fmtW a.formats
def AW (s : ByteArray) (P N : Tx) (n : Int) (az : List Tx) (ns : List Bool) (i : Int) : Prop := az.length = ns.length ∧ az.length ≤ 101 ∧ (∀ t ∈ az, t.length ≤ s.size) ∧
  ∀ a, RightP a → a.kind = 66 → body a = s.data.toList → a.portal = P ∧ a.name = N ∧ n = a.args.length ∧ ∃ ar nr, a.args = az ++ ar ∧ a.null = ns ++ nr ∧ ar.length = nr.length ∧ At s i (argsW ar nr ++ RestB a)
theorem bind_body {a : Ask} {s : ByteArray} (ha : RightP a) (hk : a.kind = 66) (hb : body a = s.data.toList) : At s 0 (txt a.portal ++ (txt a.name ++ (n16 0 ++ (n16 a.args.length ++ (argsW a.args a.null ++ RestB a))))) := by
  have h := at0 s
  rw [← hb, body_of .bind a (by rw [hk]; rfl)] at h
  have e : min a.args.length a.null.length = a.args.length := by rw [ha.1.null]; exact Nat.min_self _
  simp only [bodyD, e] at h
  exact h
theorem aw_start (s : ByteArray) : AW s (gText s 0).1.data.toList (gText s (gText s 0).2.1).1.data.toList (g16 s ((gText s (gText s 0).2.1).2.1 + 2)).1 [] [] (g16 s ((gText s (gText s 0).2.1).2.1 + 2)).2.1 := by
  refine ⟨rfl, by simp, by simp, fun a ha hk hb => ?_⟩
  have h0 := bind_body ha hk hb
  obtain ⟨p1, e1, h1⟩ := h0.text ha.1.portal0
  obtain ⟨p2, e2, h2⟩ := h1.text ha.1.name0
  have h3 : At s (p2 + 2) _ := h2.skip
  have hl := ha.1.args100
  obtain ⟨p4, e4, h4⟩ := h3.two (by omega) (by omega)
  rw [e1, e2, e4]
  exact ⟨(ba_list _).symm, (ba_list _).symm, rfl, a.args, a.null, rfl, rfl, ha.1.null.symm, h4⟩
/-- an argument is read -/
theorem aw_step {s : ByteArray} {P N : Tx} {n : Int} {az : List Tx} {ns : List Bool} {i : Int} {z q p' er2 : Int} {b : ByteArray} (h : AW s P N n az ns i) (hl : az.length ≤ 100) (hn : (az.length : Int) < n) (e1 : g32 s i = (z, q, 0)) (e2 : gBytes s q (if z < 0 then 0 else z) = (b, p', er2)) :
    AW s P N n (az ++ [b.data.toList]) (ns ++ [decide (z < 0)]) p' := by
  obtain ⟨h1, h2, h3, h5⟩ := h
  have l1 := gBytes_len s q (if z < 0 then 0 else z)
  rw [e2] at l1
  refine ⟨by simp [h1], by simp; omega, ?_, fun a ha ak hb => ?_⟩
  · intro t ht
    rcases List.mem_append.1 ht with ht | ht
    · exact h3 t ht
    · rw [List.mem_singleton.1 ht]; exact l1
  · obtain ⟨c1, c2, c3, ar, nr, f1, f2, f3, f4⟩ := h5 a ha ak hb
    match ar, nr, f3 with
    | [], [], _ =>
      exfalso
      rw [List.append_nil] at f1
      rw [c3, f1] at hn; omega
    | a1 :: ar, b1 :: nr, f3 =>
      have hlen : a1.length ≤ 4092 := by
        have := ha.1.argsB a1 (by rw [f1]; simp)
        have := ha.len
        omega
      have hnul : b1 = true → a1 = [] := ha.1.nulls (a1, b1) (by rw [f1, f2, List.zip_append h1]; simp)
      have f5 : At s i (argW a1 b1 ++ (argsW ar nr ++ RestB a)) := by simpa [argsW] using f4
      have key : decide (z < 0) = b1 ∧ b.data.toList = a1 ∧ At s p' (argsW ar nr ++ RestB a) := by
        cases b1 with
        | true =>
          have := hnul rfl
          subst this
          rw [argW_true] at f5
          obtain ⟨q1, g1, f6⟩ := f5.four (by decide)
          rw [e1] at g1
          injection g1 with g1 g2
          injection g2 with g2 _
          subst g1 g2
          have f7 : At s q ([] ++ (argsW ar nr ++ RestB a)) := f6
          obtain ⟨q2, g3, f8⟩ := f7.bytes
          rw [if_pos (by decide)] at e2
          rw [show ((([] : Tx).length : Nat) : Int) = 0 from rfl] at g3
          rw [e2] at g3
          injection g3 with g3 g4
          injection g4 with g4 _
          subst g3 g4
          exact ⟨rfl, rfl, f8⟩
        | false =>
          rw [argW_false, List.append_assoc] at f5
          obtain ⟨q1, g1, f6⟩ := f5.four (by unfold four; omega)
          rw [e1] at g1
          injection g1 with g1 g2
          injection g2 with g2 _
          subst g1 g2
          obtain ⟨q2, g3, f8⟩ := f6.bytes
          rw [if_neg (by omega)] at e2
          rw [e2] at g3
          injection g3 with g3 g4
          injection g4 with g4 _
          subst g3 g4
          exact ⟨decide_eq_false (by omega), ba_list _, f8⟩
      refine ⟨c1, c2, c3, ar, nr, ?_, ?_, by simpa using f3, key.2.2⟩
      · rw [f1, key.2.1]; simp
      · rw [f2, key.1]; simp
/-- an argument can't be read: nothing that can be asked has this body -/
theorem aw_stop {s : ByteArray} {P N : Tx} {n : Int} {az : List Tx} {ns : List Bool} {i : Int} (h : AW s P N n az ns i) (hn : (az.length : Int) < n) (he : (g32 s i).2.2 ≠ 0) : ∀ a, RightP a → a.kind = 66 → body a = s.data.toList → False := by
  intro a ha ak hb
  obtain ⟨h1, h2, h3, h5⟩ := h
  obtain ⟨c1, c2, c3, ar, nr, f1, f2, f3, f4⟩ := h5 a ha ak hb
  match ar, nr, f3 with
  | [], [], _ =>
    rw [List.append_nil] at f1
    rw [c3, f1] at hn; omega
  | a1 :: ar, b1 :: nr, f3 =>
    have hlen : a1.length ≤ 4092 := by
      have := ha.1.argsB a1 (by rw [f1]; simp)
      have := ha.len
      omega
    have f5 : At s i (argW a1 b1 ++ (argsW ar nr ++ RestB a)) := by simpa [argsW] using f4
    cases b1 with
    | true =>
      rw [argW_true] at f5
      obtain ⟨q1, g1, f6⟩ := f5.four (by decide)
      rw [g1] at he; exact he rfl
    | false =>
      rw [argW_false, List.append_assoc] at f5
      obtain ⟨q1, g1, f6⟩ := f5.four (by unfold four; omega)
      rw [g1] at he; exact he rfl
def FW (s : ByteArray) (P N : Tx) (az : List Tx) (ns : List Bool) (m : Int) (fs : List Int) (j : Int) : Prop := az.length = ns.length ∧ az.length ≤ 101 ∧ (∀ t ∈ az, t.length ≤ s.size) ∧ fs.length ≤ 101 ∧
  ∀ a, RightP a → a.kind = 66 → body a = s.data.toList → a.portal = P ∧ a.name = N ∧ a.args = az ∧ a.null = ns ∧ m = a.formats.length ∧ ∃ fr, a.formats = fs ++ fr ∧ At s j (fmtW fr)
theorem fw_start {s : ByteArray} {P N : Tx} {n : Int} {az : List Tx} {ns : List Bool} {i : Int} (h : AW s P N n az ns i) (hn : ¬ ((az.length : Int) < n ∧ (az.length : Int) ≤ 100)) : FW s P N az ns (g16 s i).1 [] (g16 s i).2.1 := by
  obtain ⟨h1, h2, h3, h5⟩ := h
  refine ⟨h1, h2, h3, by simp, fun a ha ak hb => ?_⟩
  obtain ⟨c1, c2, c3, ar, nr, f1, f2, f3, f4⟩ := h5 a ha ak hb
  have hl := ha.1.args100
  match ar, nr, f3 with
  | a1 :: ar, b1 :: nr, f3 =>
    exfalso
    rw [f1] at c3 hl
    simp at c3 hl
    omega
  | [], [], _ =>
    rw [List.append_nil] at f1 f2
    have f5 : At s i (n16 a.formats.length ++ fmtW a.formats) := f4
    have hf := ha.1.fmts100
    obtain ⟨q, e, f6⟩ := f5.two (by omega) (by omega)
    rw [e]
    exact ⟨c1, c2, f1, f2, rfl, a.formats, rfl, f6⟩
theorem fw_step {s : ByteArray} {P N : Tx} {az : List Tx} {ns : List Bool} {m : Int} {fs : List Int} {j z q er : Int} (h : FW s P N az ns m fs j) (hl : fs.length ≤ 100) (hn : (fs.length : Int) < m) (e1 : g16 s j = (z, q, er)) : FW s P N az ns m (fs ++ [z]) q := by
  obtain ⟨h1, h2, h3, h4, h5⟩ := h
  refine ⟨h1, h2, h3, by simp; omega, fun a ha ak hb => ?_⟩
  obtain ⟨c1, c2, c3, c4, c5, fr, f1, f2⟩ := h5 a ha ak hb
  match fr with
  | [] =>
    exfalso
    rw [List.append_nil] at f1
    rw [c5, f1] at hn; omega
  | f :: fr =>
    have hf := ha.1.fmts f (by rw [f1]; simp)
    have f3 : At s j (n16 f ++ fmtW fr) := by simpa [fmtW] using f2
    obtain ⟨q1, g1, f6⟩ := f3.two (by omega) (by omega)
    rw [e1] at g1
    injection g1 with g1 g2
    injection g2 with g2 _
    subst g1 g2
    exact ⟨c1, c2, c3, c4, c5, fr, by rw [f1]; simp, f6⟩
theorem fw_stop {s : ByteArray} {P N : Tx} {az : List Tx} {ns : List Bool} {m : Int} {fs : List Int} {j : Int} (h : FW s P N az ns m fs j) (hs : s.size ≤ 6000) (hP : P.length ≤ s.size) (hN : N.length ≤ s.size) (hn : ¬ ((fs.length : Int) < m ∧ (fs.length : Int) ≤ 100)) :
    Reads 66 s { kind := 66, portal := P, name := N, args := az, null := ns, formats := fs } := by
  obtain ⟨h1, h2, h3, h4, h5⟩ := h
  refine ⟨rfl, ⟨by show N.length ≤ 10000; omega, by show P.length ≤ 10000; omega, by simp, by simp, by simp, by show az.length ≤ 1000; omega, by show ns.length ≤ 1000; omega, by show fs.length ≤ 1000; omega, by simp, by simp, fun t ht => by have := h3 t ht; omega⟩, fun a ha hk hb => ?_⟩
  have hkp := kept_at ha .bind (by rw [hk]; rfl)
  obtain ⟨c1, c2, c3, c4, c5, fr, f1, f2⟩ := h5 a ha hk hb
  have hf := ha.1.fmts100
  match fr with
  | f :: fr =>
    exfalso
    rw [f1] at c5 hf
    simp at c5 hf
    omega
  | [] =>
    rw [List.append_nil] at f1
    simp only [keptD, hk] at hkp
    rw [← c1, ← c2, ← c3, ← c4, ← f1]
    exact hkp.symm
theorem aw_few {s : ByteArray} {P N : Tx} {n : Int} {az : List Tx} {ns : List Bool} {i : Int} (h : AW s P N n az ns i) (hs : s.size ≤ 6000) (hP : P.length ≤ s.size) (hN : N.length ≤ s.size) (hno : ∀ a, RightP a → a.kind = 66 → body a = s.data.toList → False) : Reads 66 s { kind := 66, portal := P, name := N, args := az, null := ns } := by
  obtain ⟨h1, h2, h3, h5⟩ := h
  exact ⟨rfl, ⟨by show N.length ≤ 10000; omega, by show P.length ≤ 10000; omega, by simp, by simp, by simp, by show az.length ≤ 1000; omega, by show ns.length ≤ 1000; omega, by simp, by simp, by simp, fun t ht => by have := h3 t ht; omega⟩, fun a ha hk hb => (hno a ha hk hb).elim⟩

-- the other bodies
theorem reads_sql (k : UInt8) (s : ByteArray) (hd : kd k = some .sql) (hs : s.size ≤ 6000) : Reads k s { kind := k, sql := (gText s 0).1.data.toList } := by
  have l1 := gText_len s 0
  refine ⟨rfl, ⟨by simp, by simp, by show (gText s 0).1.data.toList.length ≤ 10000; omega, by simp, by simp, by simp, by simp, by simp, by simp, by simp, by simp⟩, fun a ha hk hb => ?_⟩
  have hkp := kept_at ha .sql (by rw [hk]; exact hd)
  have h := at0 s
  rw [← hb, body_of .sql a (by rw [hk]; exact hd)] at h
  have h' : At s 0 (txt a.sql ++ []) := by rw [List.append_nil]; exact h
  obtain ⟨q, e, _⟩ := h'.text ha.1.sql0
  rw [e, ba_list]
  simp only [keptD, hk] at hkp
  exact hkp.symm
theorem reads_nothing (k : UInt8) (s : ByteArray) (hd : kd k = some .nothing) : Reads k s { kind := k } := by
  refine ⟨rfl, ⟨by simp, by simp, by simp, by simp, by simp, by simp, by simp, by simp, by simp, by simp, by simp⟩, fun a ha hk hb => ?_⟩
  have hkp := kept_at ha .nothing (by rw [hk]; exact hd)
  simp only [keptD, hk] at hkp
  exact hkp.symm
theorem reads_parse (k : UInt8) (s : ByteArray) (hd : kd k = some .parse) (hs : s.size ≤ 6000) : Reads k s { kind := k, name := (gText s 0).1.data.toList, sql := (gText s (gText s 0).2.1).1.data.toList } := by
  have l1 := gText_len s 0
  have l2 := gText_len s (gText s 0).2.1
  refine ⟨rfl, ⟨by show (gText s 0).1.data.toList.length ≤ 10000; omega, by simp, by show (gText s (gText s 0).2.1).1.data.toList.length ≤ 10000; omega, by simp, by simp, by simp, by simp, by simp, by simp, by simp, by simp⟩, fun a ha hk hb => ?_⟩
  have hkp := kept_at ha .parse (by rw [hk]; exact hd)
  have h := at0 s
  rw [← hb, body_of .parse a (by rw [hk]; exact hd)] at h
  obtain ⟨q, e, h2⟩ := At.text (s := s) (show At s 0 (txt a.name ++ (txt a.sql ++ n16 0)) from h) ha.1.name0
  obtain ⟨q2, e2, h3⟩ := h2.text ha.1.sql0
  rw [e, e2, ba_list, ba_list]
  simp only [keptD, hk] at hkp
  exact hkp.symm
theorem reads_named (k : UInt8) (s : ByteArray) (w : UInt8) (hd : kd k = some .named) (hs : s.size ≤ 6000) (hw : ∀ c r, s.data.toList = c :: r → w = c) : Reads k s { kind := k, name := (gText s 1).1.data.toList, what := w } := by
  have l1 := gText_len s 1
  refine ⟨rfl, ⟨by show (gText s 1).1.data.toList.length ≤ 10000; omega, by simp, by simp, by simp, by simp, by simp, by simp, by simp, by simp, by simp, by simp⟩, fun a ha hk hb => ?_⟩
  have hkp := kept_at ha .named (by rw [hk]; exact hd)
  have h := at0 s
  rw [← hb, body_of .named a (by rw [hk]; exact hd)] at h
  have hww : w = a.what := hw a.what (txt a.name) (by rw [← hb, body_of .named a (by rw [hk]; exact hd)]; rfl)
  have h1 : At s (0 + 1) (txt a.name) := At.skip (t := [a.what]) h
  have h' : At s 1 (txt a.name ++ []) := by rw [List.append_nil]; exact h1
  obtain ⟨q, e, _⟩ := h'.text ha.1.name0
  rw [e, ba_list, hww]
  simp only [keptD, hk] at hkp
  exact hkp.symm
theorem reads_exec (k : UInt8) (s : ByteArray) (hd : kd k = some .exec) (hs : s.size ≤ 6000) : Reads k s { kind := k, portal := (gText s 0).1.data.toList, most := (g32 s (gText s 0).2.1).1 } := by
  have l1 := gText_len s 0
  refine ⟨rfl, ⟨by simp, by show (gText s 0).1.data.toList.length ≤ 10000; omega, by simp, by simp, by simp, by simp, by simp, by simp, by simp, by simp, by simp⟩, fun a ha hk hb => ?_⟩
  have hkp := kept_at ha .exec (by rw [hk]; exact hd)
  have h := at0 s
  rw [← hb, body_of .exec a (by rw [hk]; exact hd)] at h
  obtain ⟨q, e, h2⟩ := At.text (s := s) (show At s 0 (txt a.portal ++ n32 a.most) from h) ha.1.portal0
  have h2' : At s q (n32 a.most ++ []) := by rw [List.append_nil]; exact h2
  obtain ⟨q2, e2, h3⟩ := h2'.four ha.1.most4
  rw [e, e2, ba_list]
  simp only [keptD, hk] at hkp
  exact hkp.symm
end Go.Proofs.Ytojgeilihoilnaa
namespace Go.Proofs.Ytojgeilihoilnaa
open Go.ChangeShapes Go.WideShapes Go.ChangeAt Go.RowKit
set_option linter.unusedVariables false
attribute [local go_sem ↓] Go.wp_at_zero Go.wp_at_succ

/-- what is being read (a, at A), in memory since w0 -/
structure BI (A : Nat) (w0 : World) (a : Ask) (kv vv av nv fv : Value) (w : World) : Prop where
  blk : Blk w A 29 (askV a kv vv av nv fv)
  rows : Rows w0.heap.size (rowsOf a kv vv av nv fv) w
  kp : Keeps [A] w0 w
  lA : A < w0.heap.size
section
variable {A : Nat} {w0 w w' : World} {a : Ask} {kv vv av nv fv : Value}
theorem BI.keep (h : BI A w0 a kv vv av nv fv w) (k : Keeps [] w w') : BI A w0 a kv vv av nv fv w' :=
  ⟨h.blk.keeps k (by simp), h.rows.keeps k (by simp), h.kp.trans k (by simp), h.lA⟩
theorem BI.below (h : BI A w0 a kv vv av nv fv w) (k : Below w.heap.size w w') : BI A w0 a kv vv av nv fv w' := h.keep (Keeps.of k)
theorem BI.alloc (h : BI A w0 a kv vv av nv fv w) (o : Obj) : BI A w0 a kv vv av nv fv (w.alloc o) := h.keep ((Keeps.refl _ _).alloc o)
theorem BI.fld (h : BI A w0 a kv vv av nv fv w) (i : Nat) (u : Value) (a' : Ask) (he : (askV a kv vv av nv fv).setIfInBounds i u = askV a' kv vv av nv fv) (hr : rowsOf a kv vv av nv fv = rowsOf a' kv vv av nv fv) :
    BI A w0 a' kv vv av nv fv (w.setCell ⟨A, i, none⟩ u) := by
  have k : Keeps [A] w (w.setCell ⟨A, i, none⟩ u) := (Keeps.refl _ _).set _ _ _ (.inl (by simp))
  refine ⟨?_, ?_, h.kp.set _ _ _ (.inl (by simp)), h.lA⟩
  · rw [← he]; exact h.blk.set_ i u
  · rw [← hr]; exact h.rows.keeps k (fun i hi => by rw [List.mem_singleton.1 hi]; exact h.lA)
theorem BI.own (h : BI A w0 a kv vv av nv fv w) (r : Nat) (v : Value) (T : TypeId) (xs : List Value) (hi : (rowsOf a kv vv av nv fv)[r]? = some (v, T, xs)) : w.ownsRow w0.heap.size T 1 v xs.length xs := h.rows.own r _ hi
theorem BI.push (h : BI A w0 a kv vv av nv fv w) (r : Nat) (v : Value) (T : TypeId) (xs : List Value) (hi : (rowsOf a kv vv av nv fv)[r]? = some (v, T, xs)) (g cap : Nat) (y : Value)
    (hw : w'.ownsRow w0.heap.size T 1 (.slice (some ⟨g, 0, none⟩) (xs.length + 1) cap) (xs.length + 1) (xs ++ [y])) (hg : w.grownBy w' v.ownBlock) (H : Nat) (hH : w.heap.size = H) (hat : v.ownBlock = some g ∨ g = H)
    (i : Nat) (a' : Ask) (kv' vv' av' nv' fv' : Value) (he : (askV a kv vv av nv fv).setIfInBounds i (.slice (some ⟨g, 0, none⟩) (xs.length + 1) cap) = askV a' kv' vv' av' nv' fv')
    (hr : (rowsOf a kv vv av nv fv).set r ((.slice (some ⟨g, 0, none⟩) (xs.length + 1) cap), T, xs ++ [y]) = rowsOf a' kv' vv' av' nv' fv') :
    BI A w0 a' kv' vv' av' nv' fv' (w'.setCell ⟨A, i, none⟩ (.slice (some ⟨g, 0, none⟩) (xs.length + 1) cap)) := by
  have hlo : ∀ k, v.ownBlock = some k → w0.heap.size ≤ k := fun k hk => (World.ownsRow.lt (h.rows.own r _ hi) k hk).1
  have k1 : Keeps [A] w0 w' := h.kp.grown hg (fun i hi => .inr (hlo i hi))
  have hAn : some A ≠ v.ownBlock := fun e => by have := hlo A e.symm; have := h.lA; omega
  have k : Keeps [A] w' (w'.setCell ⟨A, i, none⟩ (.slice (some ⟨g, 0, none⟩) (xs.length + 1) cap)) := (Keeps.refl _ _).set _ _ _ (.inl (by simp))
  refine ⟨?_, ?_, k1.set _ _ _ (.inl (by simp)), h.lA⟩
  · rw [← he]; exact (h.blk.grown hg hAn).set_ _ _
  · rw [← hr]
    refine Rows.keeps (h.rows.push r v T xs hi _ y hw hg (fun k hk => ?_)) k (fun i hi => by rw [List.mem_singleton.1 hi]; exact h.lA)
    have e : g = k := by simpa [Value.ownBlock] using hk
    subst e
    rcases hat with h1 | h1
    · exact .inl h1
    · exact .inr (by omega)
theorem BI.ar (h : BI A w0 a kv vv av nv fv w) : AR (fun b => w0.heap.size ≤ b ∧ b < w.heap.size) w (.agg (askV a kv vv av nv fv)) a :=
  ⟨kv, vv, av, nv, fv, rfl, LR.own (h.own 0 _ _ _ rfl), LR.own (h.own 1 _ _ _ rfl), LR.own (h.own 2 _ _ _ rfl), LR.own (h.own 3 _ _ _ rfl), LR.own (h.own 4 _ _ _ rfl)⟩
theorem BI.cell (h : BI A w0 a kv vv av nv fv w) (i : Nat) : w.cell? ⟨A, i, none⟩ = (askV a kv vv av nv fv)[i]? := h.blk.cell i
theorem BI.frozen (h : BI A w0 a kv vv av nv fv w) (i : Nat) : w.frozen? ⟨A, i, none⟩ = false := h.blk.frozen i
theorem BI.new (A : Nat) (w : World) (a : Ask) (hA : Blk w A 29 (askV a (.slice none 0 0) (.slice none 0 0) (.slice none 0 0) (.slice none 0 0) (.slice none 0 0))) (h1 : a.keys = []) (h2 : a.vals = []) (h3 : a.args = []) (h4 : a.null = []) (h5 : a.formats = []) :
    BI A w a (.slice none 0 0) (.slice none 0 0) (.slice none 0 0) (.slice none 0 0) (.slice none 0 0) w := by
  refine ⟨hA, ⟨fun i r hr => ?_, fun i j r r' hr hr' hne k hk => ?_⟩, Keeps.refl _ _, hA.lt⟩
  · have : r.1 = .slice none 0 0 ∧ r.2.2 = [] := by
      unfold rowsOf at hr
      rw [h1, h2, h3, h4, h5] at hr
      match i, hr with
      | 0, hr => injection hr with hr; subst hr; exact ⟨rfl, rfl⟩
      | 1, hr => injection hr with hr; subst hr; exact ⟨rfl, rfl⟩
      | 2, hr => injection hr with hr; subst hr; exact ⟨rfl, rfl⟩
      | 3, hr => injection hr with hr; subst hr; exact ⟨rfl, rfl⟩
      | 4, hr => injection hr with hr; subst hr; exact ⟨rfl, rfl⟩
      | n + 5, hr => simp at hr
    rw [this.1, this.2]
    exact ⟨rfl, .inl ⟨rfl, rfl⟩⟩
  · have : r.1 = .slice none 0 0 := by
      unfold rowsOf at hr
      match i, hr with
      | 0, hr => injection hr with hr; subst hr; rfl
      | 1, hr => injection hr with hr; subst hr; rfl
      | 2, hr => injection hr with hr; subst hr; rfl
      | 3, hr => injection hr with hr; subst hr; rfl
      | 4, hr => injection hr with hr; subst hr; rfl
      | n + 5, hr => simp at hr
    rw [this] at hk
    cases hk
/-- one element is appended to a row of what is read: at the operation -/
theorem BI.law (h : BI A w0 a kv vv av nv fv w) {ops : Array Oper} {rest : List Oper} {o : Oper} {ac : Act} {Q : Exit → Act → World → Prop} (hgd : o.guard = none) (sl xo : Operand) (t : TypeId)
    (ho : o.op = .call { callee := .builtin .append, args := #[sl, xo], argTypes := #[t, t] }) (r : Nat) (v : Value) (T : TypeId) (xs : List Value) (hi : (rowsOf a kv vv av nv fv)[r]? = some (v, T, xs))
    (ti : TypeInfo) (z : Value) (bytes : Nat) (ht : Try.prog.underlying t = some (.slice T)) (hti : Try.prog.info? T = some ti) (hz : ti.zero = some z) (hsize : ti.size = 1) (hby : ti.bytes = bytes) (hzs : z.cells.size = 1) (hb : bytes ≤ 16)
    (y : Value) (hy : y.oneCell' = true) (hn : xs.length ≤ 1099511627776) (i : Nat) (hc : (askV a kv vv av nv fv)[i]? = some v) (hsv : ac.eval sl = v) (hxv : ac.eval xo = .slice (some ⟨w.heap.size, 0, none⟩) 1 1)
    (hK : ∀ g cap w2, w2.frozen? ⟨A, i, none⟩ = false → w2.cell? ⟨A, i, none⟩ = some v →
      (∀ (a' : Ask) (kv' vv' av' nv' fv' : Value), (askV a kv vv av nv fv).setIfInBounds i (.slice (some ⟨g, 0, none⟩) (xs.length + 1) cap) = askV a' kv' vv' av' nv' fv' →
        (rowsOf a kv vv av nv fv).set r ((.slice (some ⟨g, 0, none⟩) (xs.length + 1) cap), T, xs ++ [y]) = rowsOf a' kv' vv' av' nv' fv' →
        BI A w0 a' kv' vv' av' nv' fv' (w2.setCell ⟨A, i, none⟩ (.slice (some ⟨g, 0, none⟩) (xs.length + 1) cap))) →
      wpList Try.prog ops Q rest (ac.put o.dst (.slice (some ⟨g, 0, none⟩) (xs.length + 1) cap)) w2) : wpList Try.prog ops Q (o :: rest) ac (w.alloc (.cells #[y] T)) := by
  have hI := h.alloc (.cells #[y] T)
  refine wpList_append_lies _ hgd sl xo t ho w0.heap.size T ti z 1 bytes ht hti hz hsize hby hzs (by decide) v xs.length xs hsv (hI.own r v T xs hi) ⟨w.heap.size, 0, none⟩ 1 1 [y] hxv rfl
    (one_cell _ _ _ _ (Blk.new w T #[y])) (by intro u hu; rw [List.mem_singleton.1 hu]; exact hy) (by decide) (by unfold maxLen; omega) (Nat.le_trans (Nat.mul_le_mul_left _ hb) (by omega)) hI.kp.size (w.heap.size + 1) (by simp) ?_
  intro g cap w2 h2 h3 h4 h5
  have hb : Blk w2 A 29 (askV a kv vv av nv fv) := hI.blk.grown h3 (fun e => by
    have := (World.ownsRow.lt (hI.rows.own r _ hi) A e.symm).1
    have := hI.lA
    omega)
  exact hK g cap w2 (hb.frozen i) ((hb.cell i).trans hc) (fun a' kv' vv' av' nv' fv' he hr => hI.push r v T xs hi g cap y h2 h3 (w.heap.size + 1) (by simp) h4 i a' kv' vv' av' nv' fv' he hr)
end
section
variable {ops : Array Oper} {Q : Exit → Act → World → Prop} {a : Act} {w : World} {op : Oper} {rest : List Oper}
theorem load_blk (x g : Nat) (cs : Array Value) (hz : cs.size = 14) (hw : Region.wanted op (yielded ops a.tmps) = true) (ho : op.op = .load 29 (.tmp x)) (hx : a.eval (.tmp x) = .pointer (some ⟨g, 0, none⟩)) (hb : Blk w g 29 cs)
    (h : wpList Try.prog ops Q rest (a.put op.dst (.agg cs)) w) : wpList Try.prog ops Q (op :: rest) a w :=
  s_load 29 (.tmp x) _ _ ho hx (st_load_ask w g _ hb hz) hw h
theorem store_blk (d x g : Nat) (cs zs : Array Value) (hz : zs.size = 14) (hcs : cs.size = 14) (hone : cs.all (·.oneCell') = true) (hgd : op.guard = none) (ho : op.op = .store 29 (.tmp d) (.tmp x)) (hx : a.eval (.tmp d) = .pointer (some ⟨g, 0, none⟩)) (hy : a.eval (.tmp x) = .agg cs)
    (hb : Blk w g 29 zs) (h : ∀ W, Blk W g 29 cs → Keeps [g] w W → wpList Try.prog ops Q rest (a.put op.dst undef) W) : wpList Try.prog ops Q (op :: rest) a w := by
  have h1 := hb.store cs (by rw [hz, hcs])
  have h2 := Keeps.sets g (.inl (List.mem_singleton.2 rfl)) cs.toList 0 _ (Keeps.refl [g] w)
  exact wpList_store_mid hgd 29 (.tmp d) (.tmp x) ho g 0 cs hx hy (hb.there _ (by rw [hz, hcs]; exact Nat.le_refl _)) (by rw [askInfo, hcs]) hone (h _ h1 h2)
end
/-- what a reading call does: it hands back an ask r of which Z is said -/
def RdP (Z : Ask → Prop) (w : World) (e : Ending) (w' : World) : Prop := ∃ v r, e = .returned (.agg v) ∧ Z r ∧ AR (fun i => w.heap.size ≤ i ∧ i < w'.heap.size) w' (.agg v) r ∧ Below w.heap.size w w'
theorem ret_out {f : Func} (hf : f.results = #[.cell 2 29]) (g : Nat) (wf : World) (tmps : Array Value) (cs : Array Value) (h2 : tmps.getD 2 undef = .pointer (some ⟨g, 0, none⟩)) (hb : Blk wf g 29 cs) (hz : cs.size = 14) :
    (results f tmps).run Try.prog wf = .ok (.agg cs) wf := by
  obtain ⟨fs, hu⟩ := askTy
  have hl := run_loadVar_row (P := Try.prog) wf g 29 29 cs (0, 0) (.struct fs) hb hu rfl (by rw [askInfo, hz])
  have h2' : tmps[2]?.getD undef = .pointer (some ⟨g, 0, none⟩) := by simpa using h2
  simp [results, hf, h2', asAddr, hl]
end Go.Proofs.Ytojgeilihoilnaa
namespace Go.Proofs.Ytojgeilihoilnaa
open Go.ChangeShapes Go.WideShapes Go.ChangeAt Go.RowKit
set_option linter.unusedVariables false
set_option linter.unusedSimpArgs false
attribute [local go_sem ↓] Go.wp_at_zero Go.wp_at_succ

theorem c32 (s : ByteArray) (hs : s.size ≤ 6000) (a n p e : Int) (h : g32 s a = (n, p, e)) (w : World) : Calls Try.prog 46 #[.string s, .int .i64 a] w fun ee w' => ee = .returned (.tuple #[.int .i64 n, .int .i64 p, .int .i64 e]) ∧ Below w.heap.size w w' := by
  have := rget32_any s a w (by omega)
  rw [h] at this
  exact this
theorem c16 (s : ByteArray) (hs : s.size ≤ 6000) (a n p e : Int) (h : g16 s a = (n, p, e)) (w : World) : Calls Try.prog 65 #[.string s, .int .i64 a] w fun ee w' => ee = .returned (.tuple #[.int .i64 n, .int .i64 p, .int .i64 e]) ∧ Below w.heap.size w w' := by
  have := rget16_any s a w (by omega)
  rw [h] at this
  exact this
theorem cText (s : ByteArray) (hs : s.size ≤ 6000) (a p e : Int) (t : Tx) (h : gText s a = (ba t, p, e)) (w : World) : Calls Try.prog 45 #[.string s, .int .i64 a] w fun ee w' => ee = .returned (.tuple #[.string (ba t), .int .i64 p, .int .i64 e]) ∧ w' = w := by
  have := rgetText_any s a w (by omega)
  rw [h] at this
  exact this
theorem cBytes (s : ByteArray) (hs : s.size ≤ 6000) (a n p e : Int) (t : Tx) (h : gBytes s a n = (ba t, p, e)) (w : World) : Calls Try.prog 66 #[.string s, .int .i64 a, .int .i64 n] w fun ee w' => ee = .returned (.tuple #[.string (ba t), .int .i64 p, .int .i64 e]) ∧ w' = w := by
  have := rgetBytes_any s a n w (by omega)
  rw [h] at this
  exact this
theorem trip3 (r : Int × Int × Int) : ∃ a b c, r = (a, b, c) := ⟨_, _, _, rfl⟩
theorem tripT (r : ByteArray × Int × Int) : ∃ (t : Tx) (b c : Int), r = (ba t, b, c) := ⟨r.1.data.toList, r.2.1, r.2.2, by rw [ba_of]⟩
abbrev nl : Value := .slice none 0 0
/-- two asks are made, empty: the one that is handed back, the one that is read -/
theorem two_made (w : World) (a : Ask) (h1 : a.keys = []) (h2 : a.vals = []) (h3 : a.args = []) (h4 : a.null = []) (h5 : a.formats = []) :
    let W := (w.alloc (.cells (askV {} nl nl nl nl nl) 29)).alloc (.cells (askV a nl nl nl nl nl) 29)
    Blk W w.heap.size 29 (askV {} nl nl nl nl nl) ∧ BI (w.heap.size + 1) W a nl nl nl nl nl W ∧ Below w.heap.size w W := by
  intro W
  have b1 := (Blk.new w 29 (askV {} nl nl nl nl nl)).alloc (.cells (askV a nl nl nl nl nl) 29)
  have b2 := Blk.new (w.alloc (.cells (askV {} nl nl nl nl nl) 29)) 29 (askV a nl nl nl nl nl)
  rw [show (w.alloc (.cells (askV {} nl nl nl nl nl) 29)).heap.size = w.heap.size + 1 by simp] at b2
  exact ⟨b1, BI.new _ _ a b2 h1 h2 h3 h4 h5, grow_ (bel_alloc _ _) (bel_alloc _ _)⟩
theorem ar_keeps {w0 w w' : World} {v : Value} {a : Ask} {Z B : Nat} (h : AR (fun b => w0.heap.size ≤ b ∧ b < w.heap.size) w v a) (k : Keeps [Z] w w') (hz : Z < w0.heap.size) (hB : B ≤ w0.heap.size) : AR (fun b => B ≤ b ∧ b < w'.heap.size) w' v a :=
  h.step (fun b hb => k.block b hb.2 (by simp; omega)) (fun b hb => ⟨Nat.le_trans hB hb.1, Nat.lt_of_lt_of_le hb.2 k.size⟩)
theorem ar_flat' (P : Nat → Prop) (w : World) (a : Ask) (h1 : a.keys = []) (h2 : a.vals = []) (h3 : a.args = []) (h4 : a.null = []) (h5 : a.formats = []) : AR P w (.agg (askV a nl nl nl nl nl)) a :=
  ⟨_, _, _, _, _, rfl, by rw [h1]; exact LR.nil _ _, by rw [h2]; exact LR.nil _ _, by rw [h3]; exact LR.nil _ _, by rw [h4]; exact LR.nil _ _, by rw [h5]; exact LR.nil _ _⟩

set_option maxHeartbeats 2000000 in
set_option maxRecDepth 100000 in
theorem first_cancel (s : ByteArray) (hs : s.size ≤ 6000) (w : World) (p1 e1 n2 p2 e2 n3 p3 e3 : Int) (h1 : Hid (g32 s 0 = (80877102, p1, e1))) (h2 : Hid (g32 s p1 = (n2, p2, e2))) (h3 : Hid (g32 s p2 = (n3, p3, e3))) :
    Calls Try.prog 43 #[.string s] w (RdP (fun r => r = { cancel := true, pid := n2, secret := n3 }) w) := by
  obtain ⟨bz, bi, hB⟩ := two_made w {} rfl rfl rfl rfl rfl
  go_enter Try.func43, Try.ntmps43
  go_wp2_with fail
  change Calls _ _ _ ((w.alloc (.cells (askV {} nl nl nl nl nl) 29)).alloc (.cells (askV {} nl nl nl nl nl) 29)) _
  generalize (w.alloc (.cells (askV {} nl nl nl nl nl) 29)).alloc (.cells (askV {} nl nl nl nl nl) 29) = W at *
  refine (c32 s hs _ _ _ _ h1.out _).mono ?_; rintro e w1 ⟨rfl, hb1⟩
  replace bz := bz.below hb1 bz.lt
  replace hB := grow_ hB hb1
  clear hb1
  go_wp2_with fail
  refine (c32 s hs _ _ _ _ h2.out _).mono ?_; rintro e w2 ⟨rfl, hb1⟩
  replace bz := bz.below hb1 bz.lt
  replace hB := grow_ hB hb1
  clear hb1
  go_wp2_with fail
  refine (c32 s hs _ _ _ _ h3.out _).mono ?_; rintro e w3 ⟨rfl, hb1⟩
  replace bz := bz.below hb1 bz.lt
  replace hB := grow_ hB hb1
  clear hb1
  go_wp2_with ((with_reducible refine store_blk (op := ⟨none, .store 29 (.tmp 2) (.tmp 44), _, _, _, _⟩) 2 44 _ (askV { cancel := true, pid := n2, secret := n3 } nl nl nl nl nl) _ ?_ ?_ (askOne _ _ _ _ _ _ rfl rfl rfl rfl rfl) rfl rfl ?_ ?_ bz ?_); (· rfl); (· rfl); (· rfl); (· rfl); (intro W4 hq hk))
  refine bodyPost_ret (v := .agg (askV { cancel := true, pid := n2, secret := n3 } nl nl nl nl nl)) (ret_out (by rfl) _ _ _ _ (by rfl) hq rfl) rfl ?_
  exact ⟨_, _, rfl, rfl, ar_flat' _ _ _ rfl rfl rfl rfl rfl, hB.trans (hk.below (fun i hi => by rw [List.mem_singleton.1 hi]; exact Nat.le_refl _) hB.size)⟩
set_option maxHeartbeats 4000000 in
set_option maxRecDepth 100000 in
theorem first_loop (s : ByteArray) (hs : s.size ≤ 6000) (w : World) (n p e : Int) (h1 : Hid (g32 s 0 = (n, p, e))) (hn : (n == 80877102) = false) (hf : Hid (FI s [] [] p)) :
    Calls Try.prog 43 #[.string s] w (RdP (Reads 0 s) w) := by
  obtain ⟨iS, hiS, hzS0, hzS1, hzS2⟩ := info_parts infoS
  obtain ⟨bz, bi, hB⟩ := two_made w {} rfl rfl rfl rfl rfl
  go_enter Try.func43, Try.ntmps43
  go_wp2_with fail
  change Calls _ _ _ ((w.alloc (.cells (askV {} nl nl nl nl nl) 29)).alloc (.cells (askV {} nl nl nl nl nl) 29)) _
  generalize (w.alloc (.cells (askV {} nl nl nl nl nl) 29)).alloc (.cells (askV {} nl nl nl nl nl) 29) = W at *
  have LZ := Lib.hid bz.lt
  have BZ0 := Lib.hid bz
  have HB0 := Lib.hid hB
  refine (c32 s hs _ _ _ _ h1.out _).mono ?_; rintro e w1 ⟨rfl, hb1⟩
  replace bz := bz.below hb1 bz.lt
  replace bi := bi.below hb1
  replace hB := grow_ hB hb1
  clear hb1 h1
  have HB1 := Lib.hid hB
  have BZ1 := Lib.hid bz
  have hne : w.heap.size ≠ w.heap.size + 1 := by omega
  clear hB bz
  go_wp2
  go_loopw [5] (fun at_ wr => ∃ ks vs kv vv q, at_ = .int .i64 q ∧ BI (w.heap.size + 1) W { keys := ks, vals := vs } kv vv nl nl nl wr ∧ Blk wr w.heap.size 29 (askV {} nl nl nl nl nl) ∧ Below w.heap.size w wr ∧ FI s ks vs q) (fun _ wr => 102 - lenC (wr.cell? ⟨w.heap.size + 1, 4, none⟩))
  case atStart => exact ⟨[], [], nl, nl, p, rfl, bi, BZ1.out, HB1.out, hf.out⟩
  case round =>
    obtain ⟨ks, vs, kv, vv, q, rfl, hbi, hbz, hbw, hfi⟩ := hrel
    clear bi HB1 BZ1 hf
    have BIX := Lib.hid hbi
    have BZ := Lib.hid hbz
    have HB := Lib.hid hbw
    have FIX := Lib.hid hfi
    obtain ⟨A4, c4, e4, hc1, hc2⟩ := (LR.own (hbi.own 0 _ _ _ rfl)).form
    have e4' : kv = .slice A4 ks.length c4 := by
      have hL : (strs ks).length = ks.length := strs_len ks
      rw [show (strs ({ keys := ks, vals := vs } : Ask).keys).length = ks.length from hL] at e4
      exact e4
    have q4 : wr.cell? ⟨w.heap.size + 1, 4, none⟩ = some kv := hbi.cell 4
    have hlen : ks.length ≤ 101 := hfi.2.1
    have hlv : vs.length = ks.length := hfi.1.symm
    have HQ : Hid (lenC (wr.cell? ⟨w.heap.size + 1, 4, none⟩) = ks.length) := Lib.hid (by rw [q4, e4']; rfl)
    have HLV := Lib.hid hlv
    clear hc1 hc2 e4 hlv hbi hbz hbw hfi
    by_cases hl : ks.length ≤ 100
    · obtain ⟨kt, m, ee, g1⟩ := tripT (gText s q)
      obtain ⟨vt, q2, ef, g2⟩ := tripT (gText s m)
      have G1 := Lib.hid g1
      have G2 := Lib.hid g2
      clear g1 g2
      have q4' : wr.cell? ⟨w.heap.size + 1, 4, none⟩ = some (.slice A4 ks.length c4) := by rw [q4, e4']
      have E4 := Lib.hid e4'
      clear q4 e4'
      go_wp2_with fail
      refine (cText s hs _ _ _ _ G1.out _).mono ?_; rintro e wa ⟨rfl, rfl⟩
      go_wp2_with fail
      refine (cText s hs _ _ _ _ G2.out _).mono ?_; rintro e wb ⟨rfl, rfl⟩
      by_cases he : ee = 0
      · by_cases hf2 : ef = 0
        · subst he hf2
          by_cases hk : kt = []
          · have hem : (ba kt).toList.isEmpty = true := by rw [Lib.toList_data, ba_list, hk]; rfl
            have HK := Lib.hid hk
            clear hk
            go_wp2_with (first
              | ((with_reducible refine load_blk (op := ⟨some 73, .load 29 (.tmp 3), _, _, _, _⟩) 3 _ _ ?_ ?_ rfl ?_ BIX.out.blk ?_); (· rfl); (· rfl); (· rfl))
              | ((with_reducible refine store_blk (op := ⟨none, .store 29 (.tmp 2) (.tmp 73), _, _, _, _⟩) 2 73 _ _ _ ?_ ?_ (AR.one BIX.out.ar) rfl rfl ?_ ?_ BZ.out ?_); (· rfl); (· rfl); (· rfl); (· rfl); (intro W4 hq hk)))
            refine bodyPost_ret (v := .agg (askV { keys := ks, vals := vs } kv vv nl nl nl)) (ret_out (by rfl) _ _ _ _ (by rfl) hq rfl) rfl ?_
            exact ⟨_, _, rfl, fi_stop FIX.out hs (.inr (.inr (.inr (by rw [G1.out, ba_list]; exact HK.out)))), ar_keeps BIX.out.ar hk LZ.out HB0.out.size, HB.out.trans (hk.below (fun i hi => by rw [List.mem_singleton.1 hi]; exact Nat.le_refl _) HB.out.size)⟩
          · have hem : (ba kt).toList.isEmpty = false := by rw [Lib.toList_data, ba_list, List.isEmpty_eq_false_iff]; exact hk
            have HK := Lib.hid hk
            have HL := Lib.hid hl
            clear hk
            have e := E4.out
            subst e
            have hn1 : (strs ks).length ≤ 1099511627776 := by rw [strs_len]; omega
            go_upto_region 13 with (at_builtin; refine BIX.out.law rfl _ _ _ rfl 0 (.slice A4 ks.length c4) 9 (strs ks) rfl iS _ 16 Try.underlying25 hiS hzS0 hzS1 hzS2 rfl (by decide) (.string (ba kt)) rfl (by omega) 4 rfl (by rfl) (by rfl) ?_; intro g cap w2 f4 c4' hst; have HS := Lib.hid hst; clear hst)
            have h2 := HS.out { keys := ks ++ [kt], vals := vs } (.slice (some ⟨g, 0, none⟩) ((strs ks).length + 1) cap) vv nl nl nl rfl (by rw [strs_snoc]; rfl)
            clear HS f4 c4' q4'
            obtain ⟨kv2, hkv2⟩ : ∃ v, v = Value.slice (some ⟨g, 0, none⟩) ((strs ks).length + 1) cap := ⟨_, rfl⟩
            rw [← hkv2] at h2 ⊢
            have HK2 := Lib.hid hkv2
            clear hkv2
            generalize w2.setCell ⟨w.heap.size + 1, 4, none⟩ kv2 = w3 at *
            have H2 := Lib.hid h2
            have q5 : w3.cell? ⟨w.heap.size + 1, 5, none⟩ = some vv := h2.cell 5
            clear h2
            have hn2 : (strs vs).length ≤ 1099511627776 := by rw [strs_len, HLV.out, ← strs_len]; exact hn1
            go_upto_region 14 with (at_builtin; refine H2.out.law rfl _ _ _ rfl 1 vv 9 (strs vs) rfl iS _ 16 Try.underlying25 hiS hzS0 hzS1 hzS2 rfl (by decide) (.string (ba vt)) rfl (by omega) 5 rfl (by rfl) (by rfl) ?_; intro g5 cap5 w5 f5 c5 hst5; have HS5 := Lib.hid hst5; clear hst5)
            have h5 := HS5.out { keys := ks ++ [kt], vals := vs ++ [vt] } kv2 (.slice (some ⟨g5, 0, none⟩) ((strs vs).length + 1) cap5) nl nl nl rfl (by rw [strs_snoc]; rfl)
            clear HS5 f5 c5 q5
            generalize w5.setCell ⟨w.heap.size + 1, 5, none⟩ (.slice (some ⟨g5, 0, none⟩) ((strs vs).length + 1) cap5) = w6 at *
            have H5 := Lib.hid h5
            clear h5
            go_wp2
            go_roundw
            case rel =>
              have hf := fi_step FIX.out HL.out G1.out G2.out (by rw [ba_list]; exact HK.out)
              rw [ba_list, ba_list] at hf
              exact ⟨_, _, _, _, _, rfl, H5.out, BZ0.out.keeps H5.out.kp (by simp), HB0.out.trans (H5.out.kp.below (fun i hi => by rw [List.mem_singleton.1 hi]; omega) HB0.out.size), hf⟩
            case measure =>
              have a1 := HQ.out
              have a2 := HL.out
              have a3 : w6.cell? ⟨w.heap.size + 1, 4, none⟩ = some kv2 := H5.out.cell 4
              rw [a1, a3, HK2.out]
              simp only [lenC, strs_len]
              omega
        · have hef : (ef != 0) = true := by simpa using hf2
          have HE := Lib.hid hf2
          subst he
          clear hf2
          go_wp2_with (first
            | ((with_reducible refine load_blk (op := ⟨some 73, .load 29 (.tmp 3), _, _, _, _⟩) 3 _ _ ?_ ?_ rfl ?_ BIX.out.blk ?_); (· rfl); (· rfl); (· rfl))
            | ((with_reducible refine store_blk (op := ⟨none, .store 29 (.tmp 2) (.tmp 73), _, _, _, _⟩) 2 73 _ _ _ ?_ ?_ (AR.one BIX.out.ar) rfl rfl ?_ ?_ BZ.out ?_); (· rfl); (· rfl); (· rfl); (· rfl); (intro W4 hq hk)))
          refine bodyPost_ret (v := .agg (askV { keys := ks, vals := vs } kv vv nl nl nl)) (ret_out (by rfl) _ _ _ _ (by rfl) hq rfl) rfl ?_
          exact ⟨_, _, rfl, fi_stop FIX.out hs (.inr (.inr (.inl (by rw [G1.out, G2.out]; exact HE.out)))), ar_keeps BIX.out.ar hk LZ.out HB0.out.size, HB.out.trans (hk.below (fun i hi => by rw [List.mem_singleton.1 hi]; exact Nat.le_refl _) HB.out.size)⟩
      · have hee : (ee != 0) = true := by simpa using he
        have HE := Lib.hid he
        clear he
        go_wp2_with (first
          | ((with_reducible refine load_blk (op := ⟨some 73, .load 29 (.tmp 3), _, _, _, _⟩) 3 _ _ ?_ ?_ rfl ?_ BIX.out.blk ?_); (· rfl); (· rfl); (· rfl))
          | ((with_reducible refine store_blk (op := ⟨none, .store 29 (.tmp 2) (.tmp 73), _, _, _, _⟩) 2 73 _ _ _ ?_ ?_ (AR.one BIX.out.ar) rfl rfl ?_ ?_ BZ.out ?_); (· rfl); (· rfl); (· rfl); (· rfl); (intro W4 hq hk)))
        refine bodyPost_ret (v := .agg (askV { keys := ks, vals := vs } kv vv nl nl nl)) (ret_out (by rfl) _ _ _ _ (by rfl) hq rfl) rfl ?_
        exact ⟨_, _, rfl, fi_stop FIX.out hs (.inr (.inl (by rw [G1.out]; exact HE.out))), ar_keeps BIX.out.ar hk LZ.out HB0.out.size, HB.out.trans (hk.below (fun i hi => by rw [List.mem_singleton.1 hi]; exact Nat.le_refl _) HB.out.size)⟩
    · have q4' : wr.cell? ⟨w.heap.size + 1, 4, none⟩ = some (.slice A4 ks.length c4) := by rw [q4, e4']
      have E4 := Lib.hid e4'
      have HL := Lib.hid hl
      clear q4 e4'
      go_wp2_with (first
        | ((with_reducible refine load_blk (op := ⟨some 87, .load 29 (.tmp 3), _, _, _, _⟩) 3 _ _ ?_ ?_ rfl ?_ BIX.out.blk ?_); (· rfl); (· rfl); (· rfl))
        | ((with_reducible refine store_blk (op := ⟨none, .store 29 (.tmp 2) (.tmp 87), _, _, _, _⟩) 2 87 _ _ _ ?_ ?_ (AR.one BIX.out.ar) rfl rfl ?_ ?_ BZ.out ?_); (· rfl); (· rfl); (· rfl); (· rfl); (intro W4 hq hk)))
      refine bodyPost_ret (v := .agg (askV { keys := ks, vals := vs } kv vv nl nl nl)) (ret_out (by rfl) _ _ _ _ (by rfl) hq rfl) rfl ?_
      exact ⟨_, _, rfl, fi_stop FIX.out hs (.inl (by have := HL.out; omega)), ar_keeps BIX.out.ar hk LZ.out HB0.out.size, HB.out.trans (hk.below (fun i hi => by rw [List.mem_singleton.1 hi]; exact Nat.le_refl _) HB.out.size)⟩
theorem first_any (s : ByteArray) (hs : s.size ≤ 6000) (w : World) : Calls Try.prog 43 #[.string s] w (RdP (Reads 0 s) w) := by
  obtain ⟨n, p, e, h1⟩ := trip3 (g32 s 0)
  by_cases hn : n = 80877102
  · subst hn
    obtain ⟨n2, p2, e2, h2⟩ := trip3 (g32 s p)
    obtain ⟨n3, p3, e3, h3⟩ := trip3 (g32 s p2)
    have hr := fi_cancel s (by rw [h1])
    rw [h1] at hr
    simp only at hr
    rw [h2] at hr
    simp only at hr
    rw [h3] at hr
    exact (first_cancel s hs w p e n2 p2 e2 n3 p3 e3 (Lib.hid h1) (Lib.hid h2) (Lib.hid h3)).mono fun e w' ⟨v, r, q1, q2, q3, q4⟩ => ⟨v, r, q1, by rw [q2]; exact hr, q3, q4⟩
  · have hf := fi_start s (by rw [h1]; exact hn)
    rw [h1] at hf
    exact first_loop s hs w n p e (Lib.hid h1) (by simpa using hn) (Lib.hid hf)
end Go.Proofs.Ytojgeilihoilnaa
