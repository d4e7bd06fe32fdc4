/- What package front's Encode and Right answer, for everything that is asked. Condition: what is asked is of at most so many and so long texts (Few).
   What package front's Right answers, and the document's own four and plain. Condition: what is asked is of at most so many and so long texts (Few). -/
import Derived.Test.YtojgeilihoilnaaM10
import Derived.Test.YtojgeilihoilnaaM11
set_option linter.unusedSimpArgs false
set_option linter.unusedVariables false
namespace Go.Proofs.Ytojgeilihoilnaa
open Go.ChangeShapes Go.WideShapes Go.ChangeAt Go.RowKit
set_option linter.unusedVariables false

theorem Few.lens {a : Ask} (f : Few a) : Lens a :=
  ⟨by have := f.keys; omega, by have := f.vals; omega, by have := f.args; omega, by have := f.null; omega, by have := f.fmts; omega⟩
theorem body_few (a : Ask) (f : Few a) (d : Kd) : (bodyD d a).length ≤ 1000000000 := by
  have t1 := txt_len a.name
  have t2 := txt_len a.portal
  have t3 := txt_len a.sql
  have f1 := f.name
  have f2 := f.portal
  have f3 := f.sql
  cases d
  · have h := pairsW_few a.keys a.vals f.keysT f.valsT
    have := f.keys
    simp only [bodyD]
    split <;> simp [n32_len] <;> omega
  · simp only [bodyD]; omega
  · simp [bodyD]
  · simp only [bodyD, List.length_append, n16_len]; omega
  · have h := argsW_few a.args a.null f.argsT
    have := f.args
    have := f.fmts
    simp only [bodyD, List.length_append, n16_len, fmtW_len]; omega
  · simp only [bodyD, List.length_append, List.length_cons, List.length_nil]; omega
  · simp only [bodyD, List.length_append, n32_len]; omega
def encW (a : Ask) : (UInt8 × Tx) × Int := match kd a.kind with | none => ((0, []), 4) | some d => encR a d
theorem enc_any (a : Ask) (v : Value) (w : World) (f : Few a) (har : AR (fun i => i < w.heap.size) w v a) :
    Calls Try.prog 13 #[v] w (EncP (encW a) w) := by
  obtain ⟨kv, vv, av, nv, fv, rfl, _⟩ := har.ex
  have hb := body_few a f
  have hl := f.lens
  have ft1 : a.name.length ≤ 1000000 := by have := f.name; omega
  have ft2 : a.portal.length ≤ 1000000 := by have := f.portal; omega
  have ft3 : a.sql.length ≤ 1000000 := by have := f.sql; omega
  unfold encW
  have wf : ∀ (W : Nat) (w' : World), WB w' W [] → AR (fun i => i < w'.heap.size ∧ i ≠ W) w' (.agg (askV a kv vv av nv fv)) a → Calls Try.prog 29 #[.pointer (some ⟨W, 0, none⟩), .agg (askV a kv vv av nv fv)] w' (WsP W (bodyD .start a) w') := fun W w' hW hA => by
    obtain ⟨kv', vv', av', nv', fv', e, o1, o2, o3, o4, o5⟩ := hA.ex
    injection e with e
    rw [e]
    cases hc : a.cancel
    · exact wstart_any W a kv' vv' av' nv' fv' w' hW hc f o1 o2
    · exact wcancel_any W a kv' vv' av' nv' fv' w' hW hc
  have wb : ∀ (W : Nat) (w' : World), WB w' W [] → AR (fun i => i < w'.heap.size ∧ i ≠ W) w' (.agg (askV a kv vv av nv fv)) a → Calls Try.prog 37 #[.pointer (some ⟨W, 0, none⟩), .agg (askV a kv vv av nv fv)] w' (WsP W (bodyD .bind a) w') := fun W w' hW hA => by
    obtain ⟨kv', vv', av', nv', fv', e, o1, o2, o3, o4, o5⟩ := hA.ex
    injection e with e
    rw [e]
    exact wbind_any W a kv' vv' av' nv' fv' w' hW f o3 o4 o5
  rcases kd_inv a.kind with h | ⟨hk, h⟩ | ⟨hk, h⟩ | ⟨hk, h⟩ | ⟨hk, h⟩ | ⟨hk, h⟩ | ⟨hk, h⟩ | ⟨hk, h⟩
  · rw [h]; exact enc_kind a kv vv av nv fv w (kd_find _ h)
  · rw [h]; exact enc_first a kv vv av nv fv w _ _ (by rw [hk]; rfl) f har hl _ (hb _) wf
  · rw [h]; rcases hk with hk | hk <;> exact enc_sql a kv vv av nv fv w _ _ (by rw [hk]; rfl) f har hl _ (hb _) (fun W w' hW _ => wsql_any W a kv vv av nv fv w' hW (by omega))
  · rw [h]; rcases hk with hk | hk | hk <;> exact enc_nothing a kv vv av nv fv w _ _ (by rw [hk]; rfl) f har hl _ (hb _) (fun W w' hW _ => wnothing_any W a kv vv av nv fv w' hW)
  · rw [h]; exact enc_parse a kv vv av nv fv w _ _ (by rw [hk]; rfl) f har hl _ (hb _) (fun W w' hW _ => wparse_any W a kv vv av nv fv w' hW ft1 ft3)
  · rw [h]; exact enc_bind a kv vv av nv fv w _ _ (by rw [hk]; rfl) f har hl _ (hb _) wb
  · rw [h]; rcases hk with hk | hk <;> exact enc_named a kv vv av nv fv w _ _ (by rw [hk]; rfl) f har hl _ (hb _) (fun W w' hW _ => wnamed_any W a kv vv av nv fv w' hW ft1)
  · rw [h]; exact enc_execute a kv vv av nv fv w _ _ (by rw [hk]; rfl) f har hl _ (hb _) (fun W w' hW _ => wexec_any W a kv vv av nv fv w' hW ft2)

-- what is right is short
theorem pairsW_sum (ks : List Tx) : ∀ vs : List Tx, ks.length = vs.length → (∀ t ∈ ks, 0 ∉ t) → (∀ t ∈ vs, 0 ∉ t) → sumT ks + sumT vs ≤ (pairsW ks vs).length := by
  induction ks with
  | nil => intro vs h _ _; have : vs = [] := List.eq_nil_of_length_eq_zero (by simpa using h.symm); subst this; simp [sumT]
  | cons k ks ih =>
    intro vs h h1 h2
    match vs, h with
    | v :: vs, h =>
      have i := ih vs (by simpa using h) (fun t ht => h1 t (by simp [ht])) (fun t ht => h2 t (by simp [ht]))
      have a1 := txt_of k (h1 k (by simp))
      have a2 := txt_of v (h2 v (by simp))
      simp only [pairsW, a1, a2, List.length_append, List.length_cons, List.length_nil, sumT, List.map_cons, List.sum_cons] at i ⊢
      omega
theorem argsW_sum (az : List Tx) : ∀ ns : List Bool, ns.length = az.length → (∀ p ∈ az.zip ns, p.2 = true → p.1 = []) → sumT az ≤ (argsW az ns).length := by
  induction az with
  | nil => intro ns _ _; simp [sumT]
  | cons a az ih =>
    intro ns h h1
    match ns, h with
    | n :: ns, h =>
      have i := ih ns (by simpa using h) (fun p hp => h1 p (by rw [List.zip_cons_cons]; exact List.mem_cons_of_mem _ hp))
      have c : a.length ≤ (argW a n).length := by
        cases n with
        | true => have := h1 (a, true) (by simp) rfl; simp only at this; subst this; simp
        | false => rw [argW_false, List.length_append]; omega
      simp only [argsW, List.length_append, sumT, List.map_cons, List.sum_cons] at i ⊢
      omega
theorem right_short {a : Ask} (h : RightP a) : shortB a = true := by
  obtain ⟨d, hd⟩ := h.1.kind
  have hl := h.len
  rw [body_of d a hd] at hl
  have hk : keptD d a := by have := h.1.kept; unfold Kept at this; rw [hd] at this; exact this
  have g := h.1
  have c1 := g.keys100
  have c2 := g.vals
  have c3 := g.args100
  have c4 := g.fmts100
  have key : a.name.length + a.portal.length + a.sql.length + sumT a.keys + sumT a.vals + sumT a.args ≤ (bodyD d a).length := by
    have n1 := txt_of a.name g.name0
    have n2 := txt_of a.portal g.portal0
    have n3 := txt_of a.sql g.sql0
    cases d
    · simp only [keptD] at hk
      have hp := pairsW_sum a.keys a.vals g.vals g.keys0 g.vals0
      by_cases hc : a.cancel = true
      · rw [if_pos hc] at hk
        rw [hk]; simp [sumT]
      · rw [if_neg hc] at hk
        have e : bodyD .start a = n32 196608 ++ (pairsW a.keys a.vals ++ [0]) := by simp only [bodyD]; rw [if_neg hc]
        rw [e]
        have z : a.name = [] ∧ a.portal = [] ∧ a.sql = [] ∧ a.args = [] := by rw [hk]; exact ⟨rfl, rfl, rfl, rfl⟩
        rw [z.1, z.2.1, z.2.2.1, z.2.2.2]
        simp [sumT] at hp ⊢
        omega
    · simp only [keptD] at hk
      have z : a.name = [] ∧ a.portal = [] ∧ a.keys = [] ∧ a.vals = [] ∧ a.args = [] := by rw [hk]; exact ⟨rfl, rfl, rfl, rfl, rfl⟩
      rw [z.1, z.2.1, z.2.2.1, z.2.2.2.1, z.2.2.2.2]
      simp [bodyD, n3, sumT]
    · simp only [keptD] at hk
      rw [hk]; simp [sumT]
    · simp only [keptD] at hk
      have z : a.portal = [] ∧ a.keys = [] ∧ a.vals = [] ∧ a.args = [] := by rw [hk]; exact ⟨rfl, rfl, rfl, rfl⟩
      rw [z.1, z.2.1, z.2.2.1, z.2.2.2]
      simp [bodyD, n1, n3, sumT]
      omega
    · simp only [keptD] at hk
      have ha := argsW_sum a.args a.null g.null g.nulls
      have z : a.sql = [] ∧ a.keys = [] ∧ a.vals = [] := by rw [hk]; exact ⟨rfl, rfl, rfl⟩
      rw [z.1, z.2.1, z.2.2]
      simp [bodyD, n1, n2, sumT] at ha ⊢
      omega
    · simp only [keptD] at hk
      have z : a.portal = [] ∧ a.sql = [] ∧ a.keys = [] ∧ a.vals = [] ∧ a.args = [] := by rw [hk]; exact ⟨rfl, rfl, rfl, rfl, rfl⟩
      rw [z.1, z.2.1, z.2.2.1, z.2.2.2.1, z.2.2.2.2]
      simp [bodyD, n1, sumT]
      omega
    · simp only [keptD] at hk
      have z : a.name = [] ∧ a.sql = [] ∧ a.keys = [] ∧ a.vals = [] ∧ a.args = [] := by rw [hk]; exact ⟨rfl, rfl, rfl, rfl, rfl⟩
      rw [z.1, z.2.1, z.2.2.1, z.2.2.2.1, z.2.2.2.2]
      simp [bodyD, n2, sumT]
  unfold shortB
  exact decide_eq_true ⟨c1, by omega, c3, c4, by omega⟩
open Classical in
theorem encW_eq (a : Ask) : encW a = encP a := by
  unfold encW encP
  by_cases h : RightP a
  · rw [if_pos h]
    obtain ⟨d, hd⟩ := h.1.kind
    rw [hd]
    simp only
    have e := dec_ok h
    rw [body_of d a hd] at e ⊢
    unfold encR
    rw [if_pos ⟨right_short h, by rw [e], by rw [e]⟩]
  · rw [if_neg h]
    cases hd : kd a.kind with
    | none => rfl
    | some d =>
      simp only
      unfold encR
      rw [if_neg]
      rintro ⟨_, h2, h3⟩
      have := (dec_inv h2).1
      rw [← h3] at this
      exact h this
end Go.Proofs.Ytojgeilihoilnaa
namespace Go.Proofs.Ytojgeilihoilnaa
open Go.ChangeShapes Go.WideShapes Go.ChangeAt Go.RowKit
set_option linter.unusedVariables false

open Classical in
theorem encW_two (a : Ask) : ((encW a).2 = 0 ∧ RightP a) ∨ ((encW a).2 = 4 ∧ ¬ RightP a ∧ encW a = ((0, []), 4)) := by
  rw [encW_eq]
  unfold encP
  by_cases h : RightP a
  · rw [if_pos h]; exact .inl ⟨rfl, h⟩
  · rw [if_neg h]; exact .inr ⟨rfl, h, rfl⟩
theorem right3_any (a : Ask) (v : Value) (w : World) (f : Few a) (har : AR (fun i => i < w.heap.size) w v a) :
    Calls Try.prog 15 #[v] w fun e w' => e = .returned (.bool ((encW a).2 == 0)) ∧ Below w.heap.size w w' := by
  have d : ∀ W : World, Below w.heap.size w W → Calls Try.prog 13 #[v] W (EncP (encW a) W) := fun W hB =>
    enc_any a v W f (har.step (fun b hb => hB.block b hb) (fun b hb => Nat.lt_of_lt_of_le hb hB.size))
  obtain ⟨kv, vv, av, nv, fv, rfl, _⟩ := har.ex
  clear har
  rw [box_cut] at d ⊢
  generalize encW a = r at *
  obtain ⟨⟨k, b⟩, er⟩ := r
  have HD := Lib.hid d
  clear d
  go_enter Try.func15, Try.ntmps15
  go_wp2_with fail
  refine (HD.out _ ((Below.refl _ _).alloc (Nat.le_refl _) _)).mono ?_; rintro e w1 ⟨rfl, hb1⟩
  unfold u8
  have hz := hb1.size
  simp at hz
  go_wp2
  go_ret
  exact ⟨rfl, ((((Below.refl _ _).alloc (Nat.le_refl _) _).trans (hb1.mono (by simp))).alloc (by omega) _)⟩

theorem four_any (n : Int) (w : World) :
    Calls Try.prog 26 #[.int .i64 n] w fun e w' => e = .returned (.bool (decide (four n))) ∧ w' = w := by
  by_cases h0 : -2147483648 ≤ n
  · have a0 : decide (-2147483648 ≤ n) = true := decide_eq_true h0
    by_cases h1 : n < 2147483648
    · have a1 : decide (n < 2147483648) = true := decide_eq_true h1
      have HE : Hid (decide (four n) = true) := Lib.hid (decide_eq_true ⟨h0, h1⟩)
      clear h0 h1
      go_enter Try.func26, Try.ntmps26
      go_wp2
      go_ret
      exact ⟨by rw [HE.out]; rfl, rfl⟩
    · have a1 : decide (n < 2147483648) = false := decide_eq_false h1
      have HE : Hid (decide (four n) = false) := Lib.hid (decide_eq_false (fun h => h1 h.2))
      clear h0 h1
      go_enter Try.func26, Try.ntmps26
      go_wp2
      go_ret
      exact ⟨by rw [HE.out]; rfl, rfl⟩
  · have a0 : decide (-2147483648 ≤ n) = false := decide_eq_false h0
    have HE : Hid (decide (four n) = false) := Lib.hid (decide_eq_false (fun h => h0 h.1))
    clear h0
    go_enter Try.func26, Try.ntmps26
    go_wp2
    go_ret
    exact ⟨by rw [HE.out]; rfl, rfl⟩

theorem ne_any (l : Tx) (k : Nat) (h : k < l.length) (h0 : 0 ∉ l.take k) (hk : l[k] ≠ 0) : 0 ∉ l.take (k + 1) := by
  rw [List.take_succ_eq_append_getElem h]
  intro hm
  rcases List.mem_append.1 hm with h1 | h1
  · exact h0 h1
  · simp at h1; exact hk h1.symm
set_option maxHeartbeats 800000 in
theorem plain_any {P : Nat → Prop} (v : Value) (l : List Tx) (w : World) (h : LR P w v (strs l)) (hl : l.length ≤ 1000) (ht : ∀ t ∈ l, t.length ≤ 10000) :
    Calls Try.prog 25 #[v] w fun e w' => e = .returned (.bool (decide (∀ t ∈ l, 0 ∉ t))) ∧ w' = w := by
  obtain ⟨A, c, e, hc, hm⟩ := h.form
  rw [strs_len] at e hc
  subst e
  have HL := Lib.hid h
  have HT := Lib.hid ht
  clear h ht
  go_enter Try.func25, Try.ntmps25
  go_wp2
  go_loop [3] (fun i => ∃ k : Nat, k ≤ l.length ∧ i = .int .i64 k ∧ ∀ t ∈ l.take k, 0 ∉ t) (fun i => l.length - (intOf i).toNat)
  case atStart => exact ⟨0, Nat.zero_le _, rfl, by simp⟩
  case round =>
    obtain ⟨k, hk, rfl, hs⟩ := hrel
    have HS := Lib.hid hs
    clear hs
    by_cases hlt : k < l.length
    · obtain ⟨p, o, rfl, hp, hg⟩ := HL.out.addr (ne_strs hlt)
      have x := hg k _ (strs_get l k hlt)
      have hsz := HT.out l[k] (List.getElem_mem _)
      have HK := Lib.hid (show l.take (k + 1) = l.take k ++ [l[k]] from List.take_succ_eq_append_getElem hlt)
      have HM := Lib.hid (List.getElem_mem hlt)
      clear hg
      generalize l[k] = t at *
      have hz : (ba t).size ≤ 10000 := by rw [ba_size]; exact hsz
      have HZ := Lib.hid (ba_size t)
      go_wp2
      go_loop [4] (fun i => ∃ j : Nat, j ≤ (ba t).size ∧ i = .int .i64 j ∧ 0 ∉ t.take j) (fun i => (ba t).size - (intOf i).toNat)
      case atStart => exact ⟨0, Nat.zero_le _, rfl, by simp⟩
      case round =>
        obtain ⟨j, hj, rfl, hs⟩ := hrel
        have HJ := Lib.hid hs
        clear hs
        by_cases hlt2 : j < (ba t).size
        · have hjt : j < t.length := by rw [← HZ.out]; exact hlt2
          have hget : (ba t)[j] = t[j] := by simp [ba, ByteArray.getElem_eq_getElem_data]
          by_cases hb : t[j] = 0
          · have hbb : (((ba t)[j].toNat : Int) == 0) = true := by rw [hget, hb]; rfl
            have HN : Hid (decide (∀ t ∈ l, 0 ∉ t) = false) := Lib.hid (decide_eq_false (fun h => h t HM.out (hb ▸ List.getElem_mem hjt)))
            clear hget hb
            go_wp2
            go_ret
            exact ⟨by rw [HN.out]; rfl, rfl⟩
          · have hbb : (((ba t)[j].toNat : Int) == 0) = false := by
              rw [hget]; simp
              intro e; exact hb (UInt8.toNat_inj.1 e)
            have HN := Lib.hid (ne_any t j hjt HJ.out hb)
            clear hget hb
            go_wp2
            go_round
            case rel => exact ⟨j + 1, by omega, by go_num, HN.out⟩
            case measure => simp [intOf]; omega
        · have HN : Hid (∀ u ∈ l.take (k + 1), 0 ∉ u) := Lib.hid (by
            rw [HK.out]
            intro u hu
            rcases List.mem_append.1 hu with h1 | h1
            · exact HS.out u h1
            · have h2 := HJ.out
              rw [List.take_of_length_le (by rw [← HZ.out]; omega)] at h2
              simp at h1; rw [h1]; exact h2)
          go_wp2
          go_round
          case rel => exact ⟨k + 1, by omega, by go_num, HN.out⟩
          case measure => simp [intOf]; omega
    · have HN : Hid (decide (∀ t ∈ l, 0 ∉ t) = true) := Lib.hid (decide_eq_true (by have h := HS.out; rwa [List.take_of_length_le (by omega)] at h))
      go_wp2
      go_ret
      exact ⟨by rw [HN.out]; rfl, rfl⟩
end Go.Proofs.Ytojgeilihoilnaa
