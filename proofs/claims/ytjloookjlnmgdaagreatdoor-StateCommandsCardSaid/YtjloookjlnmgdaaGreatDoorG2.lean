/- What slices.BinarySearchFunc tells of rows by their keys, and of tables by their names. Conditions: what stands ahead of a place is less; how many.
   What commands keep, as plain words: what StateKeeps and StateTwice say. No program; no condition.
   What the document's commands do to rows, as plain words: the same. No program; no condition but that keys rise.
   What package state's chosen, and Do's closure, tell. Conditions: how many rows.
   Laws of no program for elements of two cells: copy, clear, the cut, the append of a make, on rows that a call owns. -/
import Derived.Test.YtjloookjlnmgdaaGreatDoorG1
import Derived.Test.YtjloookjlnmgdaaGreatDoorShelf
import Derived.Deep.LoopGhost
import Derived.Lib.AppendZerosOnto
import Derived.Lib.SliceRun
set_option linter.unusedSimpArgs false
set_option linter.unusedVariables false
namespace Go.Proofs.YtjloookjlnmgdaaGreatDoor
open Go.ChangeShapes Go.WideShapes Go.ChangeAt Go.RowKit
set_option maxRecDepth 100000
set_option linter.unusedVariables false
set_option linter.unusedSimpArgs false

theorem cmpI_lt {a b : Int} (h : a < b) : Lib.compareInt a b = -1 := by unfold Lib.compareInt; rw [if_pos h]
theorem cmpI_eq {a b : Int} (h : a = b) : Lib.compareInt a b = 0 := by unfold Lib.compareInt; rw [if_neg (by omega), if_neg (by omega)]
theorem cmpI_gt {a b : Int} (h : b < a) : Lib.compareInt a b = 1 := by unfold Lib.compareInt; rw [if_neg (by omega), if_pos h]
theorem cmpB : ∀ a b : List UInt8, (a < b → Lib.compareBytes a b = -1) ∧ (a = b → Lib.compareBytes a b = 0) ∧ (b < a → Lib.compareBytes a b = 1)
  | [], [] => ⟨fun h => absurd h (List.lt_irrefl _), fun _ => rfl, fun h => absurd h (List.lt_irrefl _)⟩
  | [], y :: t => ⟨fun _ => rfl, (fun h => by cases h), fun h => absurd h (List.not_lt_nil _)⟩
  | x :: r, [] => ⟨fun h => absurd h (List.not_lt_nil _), (fun h => by cases h), fun _ => rfl⟩
  | x :: r, y :: t => by
    obtain ⟨i1, i2, i3⟩ := cmpB r t
    unfold Lib.compareBytes
    refine ⟨fun h => ?_, fun h => ?_, fun h => ?_⟩
    · rcases List.cons_lt_cons_iff.1 h with h | ⟨h, h2⟩
      · rw [if_pos h]
      · subst h; rw [if_neg (UInt8.lt_irrefl _), if_neg (UInt8.lt_irrefl _)]; exact i1 h2
    · injection h with h1 h2
      subst h1; rw [if_neg (UInt8.lt_irrefl _), if_neg (UInt8.lt_irrefl _)]; exact i2 h2
    · rcases List.cons_lt_cons_iff.1 h with h | ⟨h, h2⟩
      · rw [if_neg (UInt8.lt_asymm h), if_pos h]
      · subst h; rw [if_neg (UInt8.lt_irrefl _), if_neg (UInt8.lt_irrefl _)]; exact i3 h2
theorem rcmp_any (r0 r1 k : Int) (w : World) : Calls Tryz.prog 105 #[.agg #[.int .i64 r0, .int .i64 r1], .int .i64 k] w fun e w' => e = .returned (.int .i64 (Lib.compareInt r0 k)) ∧ Below w.heap.size w w' := by
  have HC := Lib.hid (fun W => Tryz.cmp_Compare_int r0 k W)
  have HB := Lib.hid ((Below.refl w.heap.size w).alloc (Nat.le_refl _) (.cells #[.int .i64 r0, .int .i64 r1] 45))
  go_enter Tryz.func105, Tryz.ntmps105
  go_wp2_with (go_at_call 106; (refine (HC.out _).mono ?_); rintro e w2 ⟨rfl, hw⟩; obtain rfl := hw)
  go_ret
  exact ⟨rfl, HB.out⟩
theorem tcmp_any (n : ByteArray) (u : Value) (m : ByteArray) (w : World) : Calls Tryz.prog 64 #[.agg #[.string n, u], .string m] w fun e w' => e = .returned (.int .i64 (Lib.compareBytes n.data.toList m.data.toList)) ∧ Below w.heap.size w w' := by
  have HC := Lib.hid (fun W => Tryz.strings_Compare n m W)
  have HB := Lib.hid ((Below.refl w.heap.size w).alloc (Nat.le_refl _) (.cells #[.string n, u] 43))
  go_enter Tryz.func64, Tryz.ntmps64
  go_wp2_with (go_at_call 65; (refine (HC.out _).mono ?_); rintro e w2 ⟨rfl, hw⟩; obtain rfl := hw)
  go_ret
  exact ⟨rfl, HB.out⟩
set_option maxHeartbeats 4000000 in
theorem rsearch_any (v : Value) (l : List Rw) (k : Int) (w : World) (h : RR w v l) (hm : MonoP (ltK k) l) (hl : l.length ≤ 1000000) :
    Calls Tryz.prog 104 #[v, .int .i64 k, .func (.func 105) #[] #[]] w fun e w' => e = .returned (.tuple #[.int .i64 (lowR l k : Nat), .bool (hasR l k)]) ∧ Below w.heap.size w w' := by
  obtain ⟨R, hR⟩ : ∃ R, lowR l k = R := ⟨_, rfl⟩
  obtain ⟨F, hF⟩ : ∃ F, hasR l k = F := ⟨_, rfl⟩
  rw [hR, hF]
  obtain ⟨a, cap, rfl⟩ := h.form
  have HH := Lib.hid h
  have HM := Lib.hid hm
  have HR := Lib.hid hR
  have HF := Lib.hid hF
  clear h hm hR hF
  have henter : ∀ args w, (callFunc 105 args).run Tryz.prog w = .ok (.enter 105 args) w := fun args w => by show Sem.run Tryz.prog (callFunc 105 args) w = _; go_simp
  go_enter Tryz.func104, Tryz.ntmps104
  go_wp2
  go_loopg [9, 10] l.length (fun gk u9 u10 wx => ∃ lo hi : Nat, u9 = .int .i64 (lo : Int) ∧ u10 = .int .i64 (hi : Int) ∧ lo ≤ hi ∧ hi ≤ l.length ∧ hi - lo ≤ gk ∧ Hid (Below w.heap.size w wx) ∧ Hid ((∀ (t : Nat) (x : Rw), t < lo → l[t]? = some x → ltK k x = true) ∧ (∀ (t : Nat) (x : Rw), hi ≤ t → l[t]? = some x → ltK k x = false)))
  case atStart => exact ⟨0, l.length, rfl, rfl, Nat.zero_le _, Nat.le_refl _, by omega, Below.refl _ _, ⟨fun t x ht => absurd ht (Nat.not_lt_zero _), fun t x h1 h2 => by have := (List.getElem?_eq_some_iff.1 h2).1; omega⟩⟩
  case round =>
    obtain ⟨lo, hi, rfl, rfl, hlh, hin, hg, HB, I⟩ := hrel
    by_cases hlt : lo < hi
    · obtain ⟨m, hmid⟩ : ∃ m, (lo + hi) / 2 = m := ⟨_, rfl⟩
      have hml : m < l.length := by omega
      have hRR := HH.out.below HB.out
      obtain ⟨b, o, cp, he, hcp, hx⟩ := hRR.inv (by omega)
      injection he with ea _ ec
      subst ea ec
      obtain ⟨r, hr0⟩ : ∃ r, l[m] = r := ⟨_, rfl⟩
      have hrm : l[m]? = some r := by rw [List.getElem?_eq_getElem hml, hr0]
      obtain ⟨x0, x1⟩ := hx m r hrm
      have wm : ((lo : Int) + (hi : Int)) / 2 = (m : Int) := by omega
      have HM2 := Lib.hid hrm
      have HMID := Lib.hid hmid
      have l0 : (0 : Int) ≤ (m : Int) := by omega
      have l1 : (m : Int) < (l.length : Int) := by omega
      obtain ⟨r0, r1⟩ := r
      have HC := Lib.hid (rcmp_any r0 r1 k wr)
      obtain ⟨m1, hm1⟩ : ∃ m1, m + 1 = m1 := ⟨_, rfl⟩
      have wk : IntKind.i64.wrap ((m : Int) + 1) = (m1 : Int) := by rw [show (m : Int) + 1 = (m1 : Int) by omega]; exact IntWalk.i64_in _ (by omega)
      have HM1 := Lib.hid hm1
      clear hx hrm hRR hmid hr0 hml hm1
      by_cases hc : r0 < k
      · have hq := cmpI_lt hc
        rw [hq] at HC
        have HCC := Lib.hid hc
        clear hc hq
        go_wp2_with (go_at_call 105; (refine HC.out.mono ?_); rintro e w2 ⟨rfl, hb2⟩; have HB2 := Lib.hid hb2; clear hb2)
        go_roundg (hi - m1)
        case measure => have := HMID.out; have := HM1.out; omega
        case rel =>
          have e1 := HMID.out
          have e2 := HM1.out
          refine ⟨m1, hi, rfl, rfl, by omega, hin, by omega, HB.out.trans (HB2.out.mono HB.out.size), fun t x ht hx => ?_, I.out.2⟩
          exact HM.out t m x _ (by omega) hx HM2.out (decide_eq_true HCC.out)
      · have hq : Lib.compareInt r0 k = 0 ∨ Lib.compareInt r0 k = 1 := by
          rcases Int.lt_trichotomy r0 k with h | h | h
          · exact absurd h hc
          · exact .inl (cmpI_eq h)
          · exact .inr (cmpI_gt h)
        have HCC := Lib.hid hc
        clear hc
        rcases hq with hq | hq
        all_goals
          rw [hq] at HC
          clear hq
          go_wp2_with (go_at_call 105; (refine HC.out.mono ?_); rintro e w2 ⟨rfl, hb2⟩; have HB2 := Lib.hid hb2; clear hb2)
          go_roundg (m - lo)
          case measure => have := HMID.out; omega
          case rel =>
            have e1 := HMID.out
            refine ⟨lo, m, rfl, rfl, by omega, by omega, Nat.le_refl _, HB.out.trans (HB2.out.mono HB.out.size), I.out.1, fun t x ht hx => ?_⟩
            cases hp : ltK k x with
            | false => rfl
            | true =>
              have := HM.out m t _ x ht HM2.out hx hp
              have h1 : r0 < k := of_decide_eq_true this
              have h2 := HCC.out
              omega
    · obtain rfl : hi = lo := by omega
      have hRe : R = hi := by
        rw [← HR.out]
        exact low_uniq (ltK k) l hi hin I.out.1 (fun x hx => I.out.2 hi x (Nat.le_refl _) hx)
      subst hRe
      by_cases hn : R < l.length
      · have hRR := HH.out.below HB.out
        obtain ⟨b, o, cp, he, hcp, hx⟩ := hRR.inv (by omega)
        injection he with ea _ ec
        subst ea ec
        obtain ⟨r, hr0⟩ : ∃ r, l[R] = r := ⟨_, rfl⟩
        have hrm : l[R]? = some r := by rw [List.getElem?_eq_getElem hn, hr0]
        obtain ⟨x0, x1⟩ := hx R r hrm
        have hf : F = (r.1 == k) := by
          rw [← HF.out]; unfold hasR; rw [HR.out, hrm]
        obtain ⟨r0, r1⟩ := r
        have HC := Lib.hid (fun W => rcmp_any r0 r1 k W)
        clear hx hrm hRR hr0
        simp only at hf
        have l0 : (0 : Int) ≤ (R : Int) := by omega
        have l1 : (R : Int) < (l.length : Int) := by omega
        by_cases hc : r0 = k
        · have hq := cmpI_eq hc
          rw [hq] at HC
          have hF2 : F = true := by rw [hf, hc]; simp
          subst hF2
          clear hc hq hf
          go_wp2_with (go_at_call 105; (refine (HC.out _).mono ?_); rintro e w2 ⟨rfl, hb2⟩; have HB2 := Lib.hid (HB.out.trans (hb2.mono HB.out.size)); clear hb2)
          go_ret2
          exact ⟨rfl, HB2.out⟩
        · have hq : Lib.compareInt r0 k = -1 ∨ Lib.compareInt r0 k = 1 := by
            rcases Int.lt_trichotomy r0 k with h | h | h
            · exact .inl (cmpI_lt h)
            · exact absurd h hc
            · exact .inr (cmpI_gt h)
          have hF2 : F = false := by rw [hf, beq_eq_false_iff_ne]; exact hc
          subst hF2
          clear hc hf
          rcases hq with hq | hq
          all_goals
            rw [hq] at HC
            clear hq
            go_wp2_with (go_at_call 105; (refine (HC.out _).mono ?_); rintro e w2 ⟨rfl, hb2⟩; have HB2 := Lib.hid (HB.out.trans (hb2.mono HB.out.size)); clear hb2)
            go_ret2
            exact ⟨rfl, HB2.out⟩
      · have hF2 : F = false := by
          rw [← HF.out]; unfold hasR; rw [HR.out, List.getElem?_eq_none (by omega)]
        subst hF2
        go_wp2
        go_ret2
        exact ⟨rfl, HB.out⟩
/-- is there a table of that name -/
def hasT (s : List Tb) (n : ByteArray) : Bool := match s[lowT s n]? with | some t => decide (t.1.data.toList = n.data.toList) | none => false
set_option maxHeartbeats 4000000 in
theorem tsearch_any (v : Value) (l : List Tb) (k : ByteArray) (w : World) (h : SR w v l) (hm : MonoP (ltN k) l) (hl : l.length ≤ 1000000) :
    Calls Tryz.prog 63 #[v, .string k, .func (.func 64) #[] #[]] w fun e w' => e = .returned (.tuple #[.int .i64 (lowT l k : Nat), .bool (hasT l k)]) ∧ Below w.heap.size w w' := by
  obtain ⟨R, hR⟩ : ∃ R, lowT l k = R := ⟨_, rfl⟩
  obtain ⟨F, hF⟩ : ∃ F, hasT l k = F := ⟨_, rfl⟩
  rw [hR, hF]
  obtain ⟨a, cap, rfl⟩ := h.form
  have HH := Lib.hid h
  have HM := Lib.hid hm
  have HR := Lib.hid hR
  have HF := Lib.hid hF
  clear h hm hR hF
  have henter : ∀ args w, (callFunc 64 args).run Tryz.prog w = .ok (.enter 64 args) w := fun args w => by show Sem.run Tryz.prog (callFunc 64 args) w = _; go_simp
  go_enter Tryz.func63, Tryz.ntmps63
  go_wp2
  go_loopg [9, 10] l.length (fun gk u9 u10 wx => ∃ lo hi : Nat, u9 = .int .i64 (lo : Int) ∧ u10 = .int .i64 (hi : Int) ∧ lo ≤ hi ∧ hi ≤ l.length ∧ hi - lo ≤ gk ∧ Hid (Below w.heap.size w wx) ∧ Hid ((∀ (t : Nat) (x : Tb), t < lo → l[t]? = some x → ltN k x = true) ∧ (∀ (t : Nat) (x : Tb), hi ≤ t → l[t]? = some x → ltN k x = false)))
  case atStart => exact ⟨0, l.length, rfl, rfl, Nat.zero_le _, Nat.le_refl _, by omega, Below.refl _ _, ⟨fun t x ht => absurd ht (Nat.not_lt_zero _), fun t x h1 h2 => by have := (List.getElem?_eq_some_iff.1 h2).1; omega⟩⟩
  case round =>
    obtain ⟨lo, hi, rfl, rfl, hlh, hin, hg, HB, I⟩ := hrel
    by_cases hlt : lo < hi
    · obtain ⟨m, hmid⟩ : ∃ m, (lo + hi) / 2 = m := ⟨_, rfl⟩
      have hml : m < l.length := by omega
      have hRR := HH.out.below HB.out
      obtain ⟨b, o, cp, he, hcp, hx⟩ := hRR.inv (by omega)
      injection he with ea _ ec
      subst ea ec
      obtain ⟨r, hr0⟩ : ∃ r, l[m] = r := ⟨_, rfl⟩
      have hrm : l[m]? = some r := by rw [List.getElem?_eq_getElem hml, hr0]
      obtain ⟨x0, u, x1, hu⟩ := hx m r hrm
      have wm : ((lo : Int) + (hi : Int)) / 2 = (m : Int) := by omega
      have HM2 := Lib.hid hrm
      have HMID := Lib.hid hmid
      have l0 : (0 : Int) ≤ (m : Int) := by omega
      have l1 : (m : Int) < (l.length : Int) := by omega
      obtain ⟨r0, r1⟩ := r
      have HC := Lib.hid (tcmp_any r0 u k wr)
      obtain ⟨m1, hm1⟩ : ∃ m1, m + 1 = m1 := ⟨_, rfl⟩
      have wk : IntKind.i64.wrap ((m : Int) + 1) = (m1 : Int) := by rw [show (m : Int) + 1 = (m1 : Int) by omega]; exact IntWalk.i64_in _ (by omega)
      have HM1 := Lib.hid hm1
      clear hu hx hrm hRR hmid hr0 hml hm1
      by_cases hc : r0.data.toList < k.data.toList
      · have hq := (cmpB _ _).1 hc
        rw [hq] at HC
        have HCC := Lib.hid hc
        clear hc hq
        go_wp2_with (go_at_call 64; (refine HC.out.mono ?_); rintro e w2 ⟨rfl, hb2⟩; have HB2 := Lib.hid hb2; clear hb2)
        go_roundg (hi - m1)
        case measure => have := HMID.out; have := HM1.out; omega
        case rel =>
          have e1 := HMID.out
          have e2 := HM1.out
          refine ⟨m1, hi, rfl, rfl, by omega, hin, by omega, HB.out.trans (HB2.out.mono HB.out.size), fun t x ht hx => ?_, I.out.2⟩
          exact HM.out t m x _ (by omega) hx HM2.out (decide_eq_true HCC.out)
      · have hq : Lib.compareBytes r0.data.toList k.data.toList = 0 ∨ Lib.compareBytes r0.data.toList k.data.toList = 1 := by
          rcases Decidable.em (r0.data.toList = k.data.toList) with h | h
          · exact .inl ((cmpB _ _).2.1 h)
          · exact .inr ((cmpB _ _).2.2 (lt_tri _ _ hc h))
        have HNC : Hid (¬ (r0.data.toList < k.data.toList)) := Lib.hid hc
        clear hc
        rcases hq with hq | hq
        all_goals
          rw [hq] at HC
          clear hq
          go_wp2_with (go_at_call 64; (refine HC.out.mono ?_); rintro e w2 ⟨rfl, hb2⟩; have HB2 := Lib.hid hb2; clear hb2)
          go_roundg (m - lo)
          case measure => have := HMID.out; omega
          case rel =>
            have e1 := HMID.out
            refine ⟨lo, m, rfl, rfl, by omega, by omega, Nat.le_refl _, HB.out.trans (HB2.out.mono HB.out.size), I.out.1, fun t x ht hx => ?_⟩
            cases hp : ltN k x with
            | false => rfl
            | true =>
              have := HM.out m t _ x ht HM2.out hx hp
              exact absurd (of_decide_eq_true this) HNC.out
    · obtain rfl : hi = lo := by omega
      have hRe : R = hi := by
        rw [← HR.out]
        exact low_uniq (ltN k) l hi hin I.out.1 (fun x hx => I.out.2 hi x (Nat.le_refl _) hx)
      subst hRe
      by_cases hn : R < l.length
      · have hRR := HH.out.below HB.out
        obtain ⟨b, o, cp, he, hcp, hx⟩ := hRR.inv (by omega)
        injection he with ea _ ec
        subst ea ec
        obtain ⟨r, hr0⟩ : ∃ r, l[R] = r := ⟨_, rfl⟩
        have hrm : l[R]? = some r := by rw [List.getElem?_eq_getElem hn, hr0]
        obtain ⟨x0, u, x1, hu⟩ := hx R r hrm
        have hf : F = decide (r.1.data.toList = k.data.toList) := by
          rw [← HF.out]; unfold hasT; rw [HR.out, hrm]
        obtain ⟨r0, r1⟩ := r
        have HC := Lib.hid (fun W => tcmp_any r0 u k W)
        clear hu hx hrm hRR hr0
        simp only at hf
        have l0 : (0 : Int) ≤ (R : Int) := by omega
        have l1 : (R : Int) < (l.length : Int) := by omega
        by_cases hc : r0.data.toList = k.data.toList
        · have hq := (cmpB _ _).2.1 hc
          rw [hq] at HC
          have hF2 : F = true := by rw [hf]; exact decide_eq_true hc
          subst hF2
          clear hc hq hf
          go_wp2_with (go_at_call 64; (refine (HC.out _).mono ?_); rintro e w2 ⟨rfl, hb2⟩; have HB2 := Lib.hid (HB.out.trans (hb2.mono HB.out.size)); clear hb2)
          go_ret2
          exact ⟨rfl, HB2.out⟩
        · have hq : Lib.compareBytes r0.data.toList k.data.toList = -1 ∨ Lib.compareBytes r0.data.toList k.data.toList = 1 := by
            rcases Decidable.em (r0.data.toList < k.data.toList) with h | h
            · exact .inl ((cmpB _ _).1 h)
            · exact .inr ((cmpB _ _).2.2 (lt_tri _ _ h hc))
          have hF2 : F = false := by rw [hf]; exact decide_eq_false hc
          subst hF2
          clear hc hf
          rcases hq with hq | hq
          all_goals
            rw [hq] at HC
            clear hq
            go_wp2_with (go_at_call 64; (refine (HC.out _).mono ?_); rintro e w2 ⟨rfl, hb2⟩; have HB2 := Lib.hid (HB.out.trans (hb2.mono HB.out.size)); clear hb2)
            go_ret2
            exact ⟨rfl, HB2.out⟩
      · have hF2 : F = false := by
          rw [← HF.out]; unfold hasT; rw [HR.out, List.getElem?_eq_none (by omega)]
        subst hF2
        go_wp2
        go_ret2
        exact ⟨rfl, HB.out⟩
end Go.Proofs.YtjloookjlnmgdaaGreatDoor
namespace Go.Proofs.YtjloookjlnmgdaaGreatDoor
open Go.ChangeShapes Go.WideShapes Go.ChangeAt Go.RowKit
set_option maxRecDepth 100000
set_option linter.unusedVariables false
set_option linter.unusedSimpArgs false

theorem set_self {α : Type} : ∀ (l : List α) (i : Nat) (x : α), l[i]? = some x → l.set i x = l
  | [], i, x, h => by simp at h
  | a :: t, 0, x, h => by simp at h; subst h; rfl
  | a :: t, i + 1, x, h => by rw [List.set_cons_succ, set_self t i x (by simpa using h)]
theorem find_at {s : List Tb} (hu : upN s) {i : Nat} {t : Tb} (ht : s[i]? = some t) : findN s t.1 0 = (i : Int) := by
  rcases find_some s t.1 0 with ⟨_, h2⟩ | ⟨k, u, h1, h2, h3, _⟩
  · exact absurd rfl (h2 t (List.mem_of_getElem? ht))
  · rw [h1, Nat.zero_add]
    congr 1
    rcases Nat.lt_trichotomy k i with h | h | h
    · have := hu _ _ _ _ h h2 ht; rw [h3] at this; exact absurd this (List.lt_irrefl _)
    · exact h
    · have := hu _ _ _ _ h ht h2; rw [h3] at this; exact absurd this (List.lt_irrefl _)
theorem find_mem {s : List Tb} (hu : upN s) {t : Tb} (ht : t ∈ s) : ∃ i : Nat, findN s t.1 0 = (i : Int) ∧ s[i]? = some t := by
  obtain ⟨i, hi, rfl⟩ := List.getElem_of_mem ht
  exact ⟨i, find_at hu (List.getElem?_eq_getElem hi), List.getElem?_eq_getElem hi⟩
/-- how the commands of a table that is there go -/
theorem do_at {s : List Tb} (hu : upN s) {i : Nat} {t : Tb} (ht : s[i]? = some t) (kd K V : Int) (kb : Bool) (h5 : kd ≠ 5) :
    doS s kd t.1 K V kb = if kd = 1 then (s, getR kb K t.2, 0) else (s.set i (t.1, (chgR kd K V kb t.2).1), [], (chgR kd K V kb t.2).2) := by
  unfold doS
  rw [if_neg h5, find_at hu ht, if_neg (by omega), Int.toNat_natCast, ht]
theorem do_cases (s : List Tb) (kd : Int) (n : ByteArray) (K V : Int) (kb : Bool) :
    (kd = 5 ∧ ((∃ t ∈ s, t.1 = n) ∧ doS s kd n K V kb = (s, [], 9) ∨ (∀ t ∈ s, t.1 ≠ n) ∧ 16 ≤ s.length ∧ doS s kd n K V kb = (s, [], 11) ∨ (∀ t ∈ s, t.1 ≠ n) ∧ s.length < 16 ∧ doS s kd n K V kb = (madeS s n, [], 0))) ∨
    (kd ≠ 5 ∧ (∀ t ∈ s, t.1 ≠ n) ∧ doS s kd n K V kb = (s, [], 8)) ∨
    (kd ≠ 5 ∧ ∃ i t, s[i]? = some t ∧ t.1 = n ∧ doS s kd n K V kb = if kd = 1 then (s, getR kb K t.2, 0) else (s.set i (t.1, (chgR kd K V kb t.2).1), [], (chgR kd K V kb t.2).2)) := by
  by_cases h5 : kd = 5
  · left
    refine ⟨h5, ?_⟩
    unfold doS
    rw [if_pos h5]
    by_cases hf : 0 ≤ findN s n 0
    · obtain ⟨t, h1, h2, _⟩ := find_pos hf
      exact .inl ⟨⟨t, List.mem_of_getElem? h1, h2⟩, by rw [if_pos hf]⟩
    · rw [if_neg hf]
      have hn := find_neg (s := s) (n := n) (by omega)
      by_cases h16 : 16 ≤ s.length
      · exact .inr (.inl ⟨hn, h16, by rw [if_pos h16]⟩)
      · exact .inr (.inr ⟨hn, by omega, by rw [if_neg h16]⟩)
  · right
    by_cases hf : findN s n 0 < 0
    · left
      refine ⟨h5, find_neg hf, ?_⟩
      unfold doS
      rw [if_neg h5, if_pos hf]
    · right
      obtain ⟨t, h1, h2, _⟩ := find_pos (s := s) (n := n) (by omega)
      refine ⟨h5, _, t, h1, h2, ?_⟩
      unfold doS
      rw [if_neg h5, if_neg hf, h1]
theorem chg_err {kd K V : Int} {kb : Bool} {l : List Rw} (h : (chgR kd K V kb l).2 ≠ 0) : (chgR kd K V kb l).1 = l := by
  unfold chgR at h ⊢
  split at h
  · rename_i hk
    rw [if_pos hk]
    unfold putR at h ⊢
    split at h
    · exact absurd rfl h
    · rename_i h1
      split at h
      · rename_i h2; rw [if_neg h1, if_pos h2]
      · exact absurd rfl h
  · rename_i hk
    rw [if_neg hk]
    split at h
    · rename_i h3
      rw [if_pos h3]
      unfold addR at h ⊢
      split at h
      · rename_i r hr
        split at h
        · rename_i h4
          rw [if_pos h4]
          split at h
          · rename_i h5; rw [if_pos h5]
          · exact absurd rfl h
        · rename_i h4; rw [if_neg h4]
      · rfl
    · exact absurd rfl h
theorem do_err {s : List Tb} {kd K V : Int} {n : ByteArray} {kb : Bool} (h : (doS s kd n K V kb).2.2 ≠ 0) : (doS s kd n K V kb).1 = s := by
  rcases do_cases s kd n K V kb with ⟨_, ⟨_, e⟩ | ⟨_, _, e⟩ | ⟨_, _, e⟩⟩ | ⟨_, _, e⟩ | ⟨_, i, t, ht, hn, e⟩
  · rw [e]
  · rw [e]
  · rw [e] at h; exact absurd rfl h
  · rw [e]
  · rw [e] at h ⊢
    split at h
    · exact absurd rfl h
    · rename_i h1
      rw [if_neg h1]
      show s.set i (t.1, (chgR kd K V kb t.2).1) = s
      rw [chg_err h]
      exact set_self s i t ht
/-- each table stays, and those that are not named keep their rows -/
theorem do_keeps {s : List Tb} {kd K V : Int} {n : ByteArray} {kb : Bool} {t : Tb} (ht : t ∈ s) : ∃ u ∈ (doS s kd n K V kb).1, u.1 = t.1 ∧ (t.1 ≠ n → u.2 = t.2) := by
  rcases do_cases s kd n K V kb with ⟨_, ⟨_, e⟩ | ⟨_, _, e⟩ | ⟨_, _, e⟩⟩ | ⟨_, _, e⟩ | ⟨_, i, x, hx, hn, e⟩
  · rw [e]; exact ⟨t, ht, rfl, fun _ => rfl⟩
  · rw [e]; exact ⟨t, ht, rfl, fun _ => rfl⟩
  · rw [e]
    refine ⟨t, ?_, rfl, fun _ => rfl⟩
    show t ∈ madeS s n
    unfold madeS
    have h2 := List.take_append_drop (lowT s n) s
    rw [← h2] at ht
    rcases List.mem_append.1 ht with h | h
    · exact List.mem_append.2 (.inl h)
    · exact List.mem_append.2 (.inr (List.mem_cons_of_mem _ h))
  · rw [e]; exact ⟨t, ht, rfl, fun _ => rfl⟩
  · rw [e]
    split
    · exact ⟨t, ht, rfl, fun _ => rfl⟩
    · obtain ⟨j, hj, rfl⟩ := List.getElem_of_mem ht
      by_cases hij : i = j
      · subst hij
        rw [List.getElem?_eq_getElem hj] at hx
        injection hx with hx
        refine ⟨(x.1, (chgR kd K V kb x.2).1), ?_, by rw [hx], fun hne => absurd (by rw [hx]; exact hn) hne⟩
        exact List.mem_of_getElem? (i := i) (by rw [List.getElem?_set, if_pos rfl, if_pos hj])
      · exact ⟨s[j], List.mem_of_getElem? (i := j) (by rw [List.getElem?_set, if_neg hij, List.getElem?_eq_getElem hj]), rfl, fun _ => rfl⟩
/-- the rows of a key, where keys rise -/
theorem filter_one {l : List Rw} (hu : upR l) {i : Nat} {r : Rw} (hr : l[i]? = some r) : getR true r.1 l = [r] := by
  have hi : i < l.length := (List.getElem?_eq_some_iff.1 hr).1
  have e : l = l.take i ++ r :: l.drop (i + 1) := by
    obtain ⟨_, h⟩ := List.getElem?_eq_some_iff.1 hr
    rw [← h, ← List.drop_eq_getElem_cons hi, List.take_append_drop]
  have h1 : (l.take i).filter (meantB true r.1) = [] := by
    rw [List.filter_eq_nil_iff]
    intro x hx hp
    obtain ⟨j, hj⟩ := List.getElem?_of_mem hx
    rw [List.getElem?_take] at hj
    split at hj
    · have := hu _ _ _ _ (by assumption) hj hr
      unfold meantB at hp
      simp at hp
      omega
    · cases hj
  have h2 : (l.drop (i + 1)).filter (meantB true r.1) = [] := by
    rw [List.filter_eq_nil_iff]
    intro x hx hp
    obtain ⟨j, hj⟩ := List.getElem?_of_mem hx
    rw [List.getElem?_drop] at hj
    have := hu _ _ _ _ (by omega : i < i + 1 + j) hr hj
    unfold meantB at hp
    simp at hp
    omega
  unfold getR
  rw [e, List.filter_append, h1, List.filter_cons, if_pos (by simp [meantB]), h2]
  rfl
theorem low_len_put {l : List Rw} {k v : Int} (h : RowsP l) (hl : (putR l k v).2 = 0) : ∃ i : Nat, (putR l k v).1[i]? = some (k, v) := by
  unfold putR at hl ⊢
  by_cases hc : hasR l k = true
  · rw [if_pos hc]
    obtain ⟨r, hr, _⟩ := has_at hc
    have hi := (List.getElem?_eq_some_iff.1 hr).1
    exact ⟨lowR l k, by rw [List.getElem?_set, if_pos rfl, if_pos hi]⟩
  · rw [if_neg hc] at hl ⊢
    by_cases h64 : 64 ≤ l.length
    · rw [if_pos h64] at hl; cases hl
    · rw [if_neg h64]
      have hle : lowR l k ≤ l.length := low_le (ltK k) l
      exact ⟨lowR l k, by show (insR l k v)[_]? = _; unfold insR; rw [ins_at l _ _ hle, if_neg (by omega), if_pos rfl]⟩
theorem get_put {l : List Rw} {k v : Int} (h : RowsP l) (hk : inI k) (hv : inI v) (hl : (putR l k v).2 = 0) : getR true k (putR l k v).1 = [(k, v)] := by
  obtain ⟨i, hi⟩ := low_len_put h hl
  exact filter_one (put_right h hk hv).up hi
theorem get_del (kb : Bool) (k : Int) (l : List Rw) : getR true k (delR kb k l) = [] := by
  unfold getR delR
  rw [List.filter_filter, List.filter_eq_nil_iff]
  intro r _
  unfold meantB
  cases kb <;> simp
theorem del_twice (kb : Bool) (k : Int) (l : List Rw) : delR kb k (delR kb k l) = delR kb k l := by
  unfold delR
  rw [List.filter_filter]
  congr 1
  funext r
  rw [Bool.and_self]
theorem put_has {l : List Rw} {k v : Int} (h : RowsP l) (hk : inI k) (hv : inI v) (hl : (putR l k v).2 = 0) : (putR l k v).1[lowR (putR l k v).1 k]? = some (k, v) := by
  obtain ⟨i, hi⟩ := low_len_put h hl
  have hr := put_right h hk hv
  generalize (putR l k v).1 = m at *
  have hil := (List.getElem?_eq_some_iff.1 hi).1
  have e : lowR m k = i := by
    refine low_uniq (ltK k) m i (by omega) (fun t x ht hx => ?_) (fun x hx => ?_)
    · have := hr.up _ _ _ _ ht hx hi
      exact decide_eq_true this
    · rw [hi] at hx; injection hx with hx; subst hx
      exact decide_eq_false (Int.lt_irrefl _)
  rw [e]; exact hi
theorem put_twice {l : List Rw} {k v : Int} (h : RowsP l) (hk : inI k) (hv : inI v) (hl : (putR l k v).2 = 0) : putR (putR l k v).1 k v = ((putR l k v).1, 0) := by
  have hh := put_has h hk hv hl
  generalize (putR l k v).1 = m at *
  have hc : hasR m k = true := by unfold hasR; rw [hh]; simp
  unfold putR
  rw [if_pos hc, set_self m _ _ hh]
/-- StateKeeps, behind the first two lines -/
theorem keeps_get {s : List Tb} {kd K V : Int} {n : ByteArray} {kb : Bool} (h : StateP s) (hn : 0 < n.size ∧ n.size ≤ 30) (hk : inI K) (hv : inI V) (he : (doS s kd n K V kb).2.2 = 0) :
    (kd = 2 → doS (doS s kd n K V kb).1 1 n K 0 true = ((doS s kd n K V kb).1, [(K, V)], 0)) ∧ (kd = 4 → doS (doS s kd n K V kb).1 1 n K 0 true = ((doS s kd n K V kb).1, [], 0)) := by
  have hr := do_right (kd := kd) (kb := kb) h hn hk hv
  rcases do_cases s kd n K V kb with ⟨h5, _⟩ | ⟨_, _, e⟩ | ⟨h5, i, t, ht, hnm, e⟩
  · exact ⟨fun e => by omega, fun e => by omega⟩
  · rw [e] at he; cases he
  · have hrt := (h.each t (List.mem_of_getElem? ht)).2.2
    have hi := (List.getElem?_eq_some_iff.1 ht).1
    rw [e] at he hr ⊢
    subst hnm
    constructor
    · intro h2
      subst h2
      rw [if_neg (by decide)] at he hr ⊢
      have hx : (s.set i (t.1, (chgR 2 K V kb t.2).1))[i]? = some (t.1, (chgR 2 K V kb t.2).1) := by rw [List.getElem?_set, if_pos rfl, if_pos hi]
      have hd := do_at hr.up hx 1 K 0 true (by decide)
      rw [if_pos rfl] at hd
      have hg : getR true K (chgR 2 K V kb t.2).1 = [(K, V)] := get_put hrt hk hv he
      rw [show ((t.1, (chgR 2 K V kb t.2).1) : Tb).1 = t.1 from rfl, show ((t.1, (chgR 2 K V kb t.2).1) : Tb).2 = (chgR 2 K V kb t.2).1 from rfl, hg] at hd
      exact hd
    · intro h4
      subst h4
      rw [if_neg (by decide)] at he hr ⊢
      have hx : (s.set i (t.1, (chgR 4 K V kb t.2).1))[i]? = some (t.1, (chgR 4 K V kb t.2).1) := by rw [List.getElem?_set, if_pos rfl, if_pos hi]
      have hd := do_at hr.up hx 1 K 0 true (by decide)
      rw [if_pos rfl] at hd
      have hg : getR true K (chgR 4 K V kb t.2).1 = [] := get_del kb K t.2
      rw [show ((t.1, (chgR 4 K V kb t.2).1) : Tb).1 = t.1 from rfl, show ((t.1, (chgR 4 K V kb t.2).1) : Tb).2 = (chgR 4 K V kb t.2).1 from rfl, hg] at hd
      exact hd
/-- StateTwice: a table that is made -/
theorem twice_new {s : List Tb} {K V : Int} {n : ByteArray} {kb : Bool} (h : StateP s) (hn : 0 < n.size ∧ n.size ≤ 30) (hk : inI K) (hv : inI V) (he : (doS s 5 n K V kb).2.2 = 0) :
    doS (doS s 5 n K V kb).1 5 n K V kb = ((doS s 5 n K V kb).1, [], 9) ∧ doS (doS s 5 n K V kb).1 1 n 0 0 false = ((doS s 5 n K V kb).1, [], 0) := by
  have hr := do_right (kd := 5) (kb := kb) h hn hk hv
  rcases do_cases s 5 n K V kb with ⟨_, ⟨_, e⟩ | ⟨_, _, e⟩ | ⟨hno, hlt, e⟩⟩ | ⟨h5, _⟩ | ⟨h5, _⟩
  · rw [e] at he; cases he
  · rw [e] at he; cases he
  · rw [e] at hr ⊢
    have hle : lowT s n ≤ s.length := low_le (ltN n) s
    have hx : (madeS s n)[lowT s n]? = some (n, []) := by unfold madeS; rw [ins_at s _ _ hle, if_neg (by omega), if_pos rfl]
    constructor
    · unfold doS
      have hf := find_at hr.up hx
      rw [if_pos rfl, if_pos (by show 0 ≤ findN (madeS s n) n 0; rw [hf]; omega)]
    · have hd := do_at hr.up hx 1 0 0 false (by decide)
      rw [if_pos rfl] at hd
      exact hd
  · exact absurd rfl h5
  · exact absurd rfl h5
/-- StateTwice: all others but Add -/
theorem twice_same {s : List Tb} {kd K V : Int} {n : ByteArray} {kb : Bool} (h : StateP s) (hn : 0 < n.size ∧ n.size ≤ 30) (hk : inI K) (hv : inI V) (h5 : kd ≠ 5) (h3 : kd ≠ 3) (he : (doS s kd n K V kb).2.2 = 0) :
    (doS (doS s kd n K V kb).1 kd n K V kb).1 = (doS s kd n K V kb).1 ∧ (doS (doS s kd n K V kb).1 kd n K V kb).2.2 = 0 := by
  have hr := do_right (kd := kd) (kb := kb) h hn hk hv
  rcases do_cases s kd n K V kb with ⟨h5', _⟩ | ⟨_, _, e⟩ | ⟨_, i, t, ht, hnm, e⟩
  · exact absurd h5' h5
  · rw [e] at he; cases he
  · have hrt := (h.each t (List.mem_of_getElem? ht)).2.2
    have hi := (List.getElem?_eq_some_iff.1 ht).1
    rw [e] at he hr ⊢
    subst hnm
    by_cases h1 : kd = 1
    · subst h1
      rw [if_pos rfl] at he hr ⊢
      have hd := do_at h.up ht 1 K V kb (by decide)
      rw [if_pos rfl] at hd
      show (doS s 1 t.1 K V kb).1 = s ∧ (doS s 1 t.1 K V kb).2.2 = 0
      rw [hd]; exact ⟨rfl, rfl⟩
    · rw [if_neg h1] at he hr ⊢
      have hx : (s.set i (t.1, (chgR kd K V kb t.2).1))[i]? = some (t.1, (chgR kd K V kb t.2).1) := by rw [List.getElem?_set, if_pos rfl, if_pos hi]
      have hd := do_at hr.up hx kd K V kb h5
      rw [if_neg h1] at hd
      have hc : chgR kd K V kb (chgR kd K V kb t.2).1 = ((chgR kd K V kb t.2).1, 0) := by
        unfold chgR at he ⊢
        by_cases h2 : kd = 2
        · rw [if_pos h2] at he ⊢
          rw [if_pos h2]
          exact put_twice hrt hk hv he
        · rw [if_neg h2, if_neg h3, if_neg h2, if_neg h3, del_twice]
      have hd2 : doS (s.set i (t.1, (chgR kd K V kb t.2).1)) kd t.1 K V kb = ((s.set i (t.1, (chgR kd K V kb t.2).1)).set i (t.1, (chgR kd K V kb (chgR kd K V kb t.2).1).1), [], (chgR kd K V kb (chgR kd K V kb t.2).1).2) := hd
      show (doS (s.set i (t.1, (chgR kd K V kb t.2).1)) kd t.1 K V kb).1 = _ ∧ (doS (s.set i (t.1, (chgR kd K V kb t.2).1)) kd t.1 K V kb).2.2 = 0
      rw [hd2, hc]
      exact ⟨set_self _ i _ hx, rfl⟩
end Go.Proofs.YtjloookjlnmgdaaGreatDoor
namespace Go.Proofs.YtjloookjlnmgdaaGreatDoor
open Go.ChangeShapes Go.WideShapes Go.ChangeAt Go.RowKit
set_option maxRecDepth 100000
set_option linter.unusedVariables false
set_option linter.unusedSimpArgs false

/-- rows with a row more, or another value -/
def putD (l : List Rw) (k v : Int) : List Rw := l.take (lowR l k) ++ (k, v) :: l.drop (if hasR l k = true then lowR l k + 1 else lowR l k)
theorem set_cut {α : Type} : ∀ (l : List α) (i : Nat) (x : α), i < l.length → l.set i x = l.take i ++ x :: l.drop (i + 1)
  | [], i, x, h => by simp at h
  | a :: t, 0, x, _ => rfl
  | a :: t, i + 1, x, h => by rw [List.set_cons_succ, set_cut t i x (by simpa using h)]; rfl
theorem putD_has {l : List Rw} {k v : Int} (h : hasR l k = true) : putD l k v = l.set (lowR l k) (k, v) := by
  obtain ⟨r, hr, _⟩ := has_at h
  unfold putD
  rw [if_pos h, set_cut _ _ _ (List.getElem?_eq_some_iff.1 hr).1]
theorem putD_not {l : List Rw} {k v : Int} (h : ¬ hasR l k = true) : putD l k v = insR l k v := by
  unfold putD insR
  rw [if_neg h]
theorem get_has {l : List Rw} {k : Int} (hu : upR l) (h : hasR l k = true) : ∃ r, l[lowR l k]? = some r ∧ r.1 = k ∧ getR true k l = [r] := by
  obtain ⟨r, hr, rfl⟩ := has_at h
  exact ⟨r, hr, rfl, filter_one hu hr⟩
theorem get_not {l : List Rw} {k : Int} (hu : upR l) (h : hasR l k = false) : getR true k l = [] := by
  unfold getR
  rw [List.filter_eq_nil_iff]
  intro x hx hp
  obtain ⟨i, hi⟩ := List.getElem?_of_mem hx
  have h1 := has_not h hu i x hi
  unfold meantB at hp
  simp at hp
  rcases Nat.lt_or_ge i (lowR l k) with h2 | h2
  · have := h1.1 h2; omega
  · have := h1.2 h2; omega
def chgD (kd : Int) (K V : Int) (kb : Bool) (l : List Rw) : List Rw × Int :=
  if kd = 2 then (if getR true K l = [] ∧ 64 ≤ l.length then (l, 11) else (putD l K V, 0))
  else if kd = 3 then (match getR true K l with | [] => (l, 0) | r :: _ => if 999999 ≤ r.2 then (l, 2) else (putD l K (r.2 + 1), 0))
  else (delR kb K l, 0)
theorem chgD_eq {kd K V : Int} {kb : Bool} {l : List Rw} (hu : upR l) : chgD kd K V kb l = chgR kd K V kb l := by
  unfold chgD chgR
  by_cases h2 : kd = 2
  · rw [if_pos h2, if_pos h2]
    unfold putR
    cases hh : hasR l K with
    | true =>
      obtain ⟨r, _, _, hg⟩ := get_has hu hh
      rw [hg, if_neg (by simp), if_pos rfl, putD_has hh]
    | false =>
      rw [get_not hu hh, if_neg (by decide : ¬ (false = true)), putD_not (by rw [hh]; decide)]
      by_cases h64 : 64 ≤ l.length
      · rw [if_pos ⟨rfl, h64⟩, if_pos h64]
      · rw [if_neg (fun h => h64 h.2), if_neg h64]
  · rw [if_neg h2, if_neg h2]
    by_cases h3 : kd = 3
    · rw [if_pos h3, if_pos h3]
      unfold addR
      cases hh : hasR l K with
      | true =>
        obtain ⟨r, hr, hk, hg⟩ := get_has hu hh
        rw [hg, hr]
        simp only
        rw [if_pos hk, putD_has hh]
      | false =>
        rw [get_not hu hh]
        simp only
        split
        · rename_i r hr
          have : r.1 ≠ K := fun e => by
            unfold hasR at hh
            rw [hr] at hh
            simp [e] at hh
          rw [if_neg this]
        · rfl
    · rw [if_neg h3, if_neg h3]
/-- Right, as the code and the document reckon it, and as plain words -/
theorem up_step {α : Type} {R : α → α → Prop} (ht : ∀ a b c, R a b → R b c → R a c) {l : List α} (h : ∀ (i : Nat) (a b : α), l[i]? = some a → l[i + 1]? = some b → R a b) : ∀ (i j : Nat) (a b : α), i < j → l[i]? = some a → l[j]? = some b → R a b := by
  intro i j
  induction j with
  | zero => intro a b h; omega
  | succ j ih =>
    intro a b hij ha hb
    rcases Nat.lt_or_ge i j with h1 | h1
    · have hj : j < l.length := by have := (List.getElem?_eq_some_iff.1 hb).1; omega
      exact ht _ _ _ (ih a l[j] h1 ha (List.getElem?_eq_getElem hj)) (h j _ _ (List.getElem?_eq_getElem hj) hb)
    · have : i = j := by omega
      subst this
      exact h i _ _ ha hb
end Go.Proofs.YtjloookjlnmgdaaGreatDoor
namespace Go.Proofs.YtjloookjlnmgdaaGreatDoor
open Go.ChangeShapes Go.WideShapes Go.ChangeAt Go.RowKit
set_option maxRecDepth 100000
set_option linter.unusedVariables false
set_option linter.unusedSimpArgs false

theorem infoRow : (Tryz.prog.info? 45).map (fun i => (i.zero, i.size, i.bytes)) = some (some (.agg #[.int .i64 0, .int .i64 0]), 2, 16) := by kernel_rfl
theorem infoTab : (Tryz.prog.info? 43).map (fun i => (i.zero, i.size, i.bytes)) = some (some (.agg #[.string ByteArray.empty, .slice none 0 0]), 2, 40) := by kernel_rfl
theorem iRow : ∃ i, Tryz.prog.info? 45 = some i ∧ i.zero = some (.agg #[.int .i64 0, .int .i64 0]) ∧ i.size = 2 ∧ i.bytes = 16 := by
  have h := infoRow
  cases e : Tryz.prog.info? 45 with
  | none => rw [e] at h; cases h
  | some i =>
    rw [e] at h
    simp only [Option.map_some, Option.some.injEq, Prod.mk.injEq] at h
    exact ⟨i, rfl, h.1, h.2.1, h.2.2⟩
theorem iTab : ∃ i, Tryz.prog.info? 43 = some i ∧ i.zero = some (.agg #[.string ByteArray.empty, .slice none 0 0]) ∧ i.size = 2 ∧ i.bytes = 40 := by
  have h := infoTab
  cases e : Tryz.prog.info? 43 with
  | none => rw [e] at h; cases h
  | some i =>
    rw [e] at h
    simp only [Option.map_some, Option.some.injEq, Prod.mk.injEq] at h
    exact ⟨i, rfl, h.1, h.2.1, h.2.2⟩
theorem undRow : Tryz.prog.underlying 36 = some (.slice 45) := Tryz.underlying36
theorem undTab : Tryz.prog.underlying 32 = some (.slice 43) := Tryz.underlying32
/-- the command's cells that Do's closure reads -/
def CK (w : World) (x : Nat) (kb : Bool) (K : Int) : Prop := w.cell? ⟨x, 4, none⟩ = some (.bool kb) ∧ w.cell? ⟨x, 2, none⟩ = some (.int .i64 K)
theorem CK.below {w w' : World} {x : Nat} {kb : Bool} {K : Int} {B : Nat} (h : CK w x kb K) (hb : Below B w w') (hx : x < B) : CK w' x kb K :=
  ⟨(hb.cell (p := ⟨x, 4, none⟩) hx).trans h.1, (hb.cell (p := ⟨x, 2, none⟩) hx).trans h.2⟩
theorem CK.lt {w : World} {x : Nat} {kb : Bool} {K : Int} (h : CK w x kb K) : x < w.heap.size := World.block_lt_of_cell? w _ h.1
theorem meant_any (r0 r1 : Int) (x : Nat) (kb : Bool) (K : Int) (w : World) (h : CK w x kb K) :
    Calls Tryz.prog 40 #[.agg #[.int .i64 r0, .int .i64 r1], .pointer (some ⟨x, 0, none⟩)] w fun e w' => e = .returned (.bool (meantB kb K (r0, r1))) ∧ Below w.heap.size w w' := by
  have hb := (Below.refl w.heap.size w).alloc (Nat.le_refl _) (.cells #[.int .i64 r0, .int .i64 r1] 45)
  have HB := Lib.hid hb
  obtain ⟨c4, c2⟩ := h.below hb h.lt
  obtain ⟨Q, hQ⟩ : ∃ Q, meantB kb K (r0, r1) = Q := ⟨_, rfl⟩
  rw [hQ]
  unfold meantB at hQ
  have HQ := Lib.hid hQ
  clear hQ hb h
  cases kb with
  | false =>
    have : Q = true := by rw [← HQ.out]; rfl
    subst this
    go_enter Tryz.func40, Tryz.ntmps40
    go_wp2
    go_ret
    exact ⟨rfl, HB.out⟩
  | true =>
    go_enter Tryz.func40, Tryz.ntmps40
    go_wp2
    go_ret
    exact ⟨by rw [← HQ.out]; rfl, HB.out⟩
theorem get_snoc (kb : Bool) (K : Int) {l : List Rw} {i : Nat} {r : Rw} (h : l[i]? = some r) : getR kb K (l.take (i + 1)) = if meantB kb K r = true then getR kb K (l.take i) ++ [r] else getR kb K (l.take i) := by
  obtain ⟨hi, he⟩ := List.getElem?_eq_some_iff.1 h
  unfold getR
  rw [List.take_add_one, h, Option.toList_some, List.filter_append, List.filter_cons]
  split
  · rfl
  · rw [List.filter_nil, List.append_nil]
theorem one_row {w : World} {B : Nat} {r0 r1 : Int} (hb : w.heap[B]? = some (.cells #[.int .i64 r0, .int .i64 r1] 45 (0, 0))) : ∀ (j : Nat) (u : Value), (rcs [(r0, r1)])[j]? = some u → w.cell? ((⟨B, 0, none⟩ : Addr).add j) = some u :=
  World.news_of_block hb
set_option maxHeartbeats 4000000 in
theorem chosen_any (v : Value) (l : List Rw) (x : Nat) (kb : Bool) (K : Int) (w : World) (h : RR w v l) (hc : CK w x kb K) (hl : l.length ≤ 1000000) :
    Calls Tryz.prog 41 #[v, .func (.func 40) #[] #[.pointer (some ⟨x, 0, none⟩)]] w fun e w' => ∃ v', e = .returned v' ∧ OR w.heap.size w' v' (getR kb K l) ∧ Below w.heap.size w w' := by
  obtain ⟨a, cap, rfl⟩ := h.form
  obtain ⟨i30, hi30, hz30, hs30, hb30⟩ := iRow
  have und30 := undRow
  have HH := Lib.hid h
  have HC := Lib.hid hc
  have HX := Lib.hid hc.lt
  have HL := Lib.hid hl
  clear h hc hl
  have henter : ∀ args w, (callFunc 40 args).run Tryz.prog w = .ok (.enter 40 args) w := fun args w => by show Sem.run Tryz.prog (callFunc 40 args) w = _; go_simp
  go_enter Tryz.func41, Tryz.ntmps41
  go_wp2
  go_loopg [5, 10] l.length (fun gk u5 u10 wx => ∃ i : Nat, u10 = .int .i64 (i : Int) ∧ i + gk = l.length ∧ Below w.heap.size w wx ∧ OR w.heap.size wx u5 (getR kb K (l.take i)))
  case atStart => exact ⟨0, rfl, by omega, Below.refl _ _, World.ownsRow_nil _ _ _ _⟩
  case round =>
    obtain ⟨i, rfl, hi, hB, hO⟩ := hrel
    have HB := Lib.hid hB
    have HI := Lib.hid hi
    have HO := Lib.hid hO
    cases gk with
    | zero =>
      have l1 : ¬ ((i : Int) < (l.length : Int)) := by omega
      have he : l.take i = l := List.take_of_length_le (by omega)
      have HE := Lib.hid he
      clear hB hi hO he
      go_wp2
      go_ret
      exact ⟨_, rfl, by have := HO.out; rw [HE.out] at this; exact this, HB.out⟩
    | succ gk =>
      have hlt : i < l.length := by omega
      have hRR := HH.out.below hB
      obtain ⟨b, o, cp, he, hcp, hx⟩ := hRR.inv (by omega)
      injection he with ea _ ec
      subst ea ec
      obtain ⟨r, hr0⟩ : ∃ r, l[i] = r := ⟨_, rfl⟩
      have hri : l[i]? = some r := by rw [List.getElem?_eq_getElem hlt, hr0]
      obtain ⟨x0, x1⟩ := hx i r hri
      have hsn := get_snoc kb K hri
      have l0 : (0 : Int) ≤ (i : Int) := by omega
      have l1 : (i : Int) < (l.length : Int) := by omega
      obtain ⟨i1, hi1⟩ : ∃ i1, i + 1 = i1 := ⟨_, rfl⟩
      have wk : IntKind.i64.wrap ((i : Int) + 1) = (i1 : Int) := by rw [show (i : Int) + 1 = (i1 : Int) by omega]; exact IntWalk.i64_in _ (by have := HL.out; omega)
      have HI1 := Lib.hid hi1
      rw [hi1] at hsn
      obtain ⟨r0, r1⟩ := r
      obtain ⟨Q, hQ⟩ : ∃ Q, meantB kb K (r0, r1) = Q := ⟨_, rfl⟩
      obtain ⟨L, hL⟩ : ∃ L, getR kb K (l.take i) = L := ⟨_, rfl⟩
      have hLl : L.length ≤ 1000000 := by
        rw [← hL]
        have h1 := List.length_filter_le (meantB kb K) (l.take i)
        have h2 : (l.take i).length ≤ l.length := by rw [List.length_take]; omega
        have h3 := HL.out
        show (List.filter _ _).length ≤ _
        omega
      have HLL := Lib.hid hLl
      rw [hQ, hL] at hsn
      rw [hL] at HO
      have hbA : Below w.heap.size w (wr.alloc (.cells #[.int .i64 r0, .int .i64 r1] 45)) := hB.alloc hB.size _
      have HBA := Lib.hid hbA
      have hOA : OR w.heap.size (wr.alloc (.cells #[.int .i64 r0, .int .i64 r1] 45)) u5 L := HO.out.alloc _
      have HOA := Lib.hid hOA
      have HM := Lib.hid (meant_any r0 r1 x kb K _ (HC.out.below hbA HX.out))
      rw [hQ] at HM
      have HSN := Lib.hid hsn
      have hblk : Blk (wr.alloc (.cells #[.int .i64 r0, .int .i64 r1] 45)) wr.heap.size 45 #[.int .i64 r0, .int .i64 r1] := Blk.new _ _ _
      have HK := Lib.hid hblk
      clear hB hi hRR hx hr0 hri hi1 hlt hQ hL hsn hbA hOA hO hLl hblk
      cases Q with
      | false =>
        go_wp2_with (go_at_call 40; (refine HM.out.mono ?_); rintro e w2 ⟨rfl, hb2⟩; have HB2 := Lib.hid (HBA.out.trans (hb2.mono HBA.out.size)); have HO2 := Lib.hid (own_below HOA.out hb2); clear hb2)
        go_roundg gk
        case measure => exact Nat.lt_succ_self _
        case rel => exact ⟨i1, rfl, by have := HI1.out; have := HI.out; omega, HB2.out, by have := HSN.out; rw [if_neg (by decide)] at this; rw [this]; exact HO2.out⟩
      | true =>
        go_wp2_with (first
          | (go_at_call 40; (refine HM.out.mono ?_); rintro e w2 ⟨rfl, hb2⟩; have HB2 := Lib.hid (HBA.out.trans (hb2.mono HBA.out.size)); have HO2 := Lib.hid (own_below HOA.out hb2); have hk2 := HK.out.below hb2 HK.out.lt; have y0 : w2.cell? ⟨wr.heap.size, 0, none⟩ = some (.int .i64 r0) := hk2.cell 0; have y1 : w2.cell? ⟨wr.heap.size, 1, none⟩ = some (.int .i64 r1) := hk2.cell 1; clear hb2 hk2)
          | (at_builtin; refine wpList_append_lies _ rfl _ _ 36 rfl w.heap.size 45 i30 (.agg #[.int .i64 0, .int .i64 0]) 2 16 und30 hi30 hz30 hs30 hb30 rfl (by decide) u5 L.length (rcs L) rfl (HO2.out.alloc _) ⟨w2.heap.size, 0, none⟩ 1 1 (rcs [(r0, r1)]) rfl rfl ?c1 ?c2 (by decide) ?c3 ?c4 ?c5 _ rfl ?_))
        all_goals first
          | exact one_row (heap_alloc_new _ _)
          | exact rcs_one _
          | (have := HLL.out; unfold maxLen; omega)
          | (have := HLL.out; omega)
          | (have := HB2.out.size; simp; omega)
          | skip
        intro g9 cap9 w9 hown9 hgr9 hat9 hlt9
        have hown8 : OR w.heap.size w9 (.slice (some ⟨g9, 0, none⟩) (L.length + 1) cap9) (L ++ [(r0, r1)]) := by
          unfold OR
          rw [rcs_append, List.length_append]
          exact hown9
        have hbel9 := (HB2.out.alloc HB2.out.size (.cells #[.int .i64 r0, .int .i64 r1] 45)).grown hgr9 (by have := HB2.out.size; simp; omega) (fun k hk => (HO2.out.lt k hk).1)
        have HO9 := Lib.hid hown8
        have HB9 := Lib.hid hbel9
        clear hown9 hown8 hgr9 hat9 hbel9
        go_wp2
        go_roundg gk
        case measure => exact Nat.lt_succ_self _
        case rel => exact ⟨i1, rfl, by have := HI1.out; have := HI.out; omega, HB9.out, by have := HSN.out; simp only [if_true] at this; rw [this]; exact HO9.out⟩
end Go.Proofs.YtjloookjlnmgdaaGreatDoor
namespace Go.Proofs.YtjloookjlnmgdaaGreatDoor
open Go.ChangeShapes Go.WideShapes Go.ChangeAt Go.RowKit
set_option maxRecDepth 100000
set_option linter.unusedVariables false
set_option linter.unusedSimpArgs false

theorem fl_rep (a b : Value) (k : Nat) : ∀ j, j < k * 2 → (fl (List.replicate k (a, b)))[j]? = some (if j % 2 = 0 then a else b) := by
  intro j hj
  have h := fl_at (List.replicate k (a, b)) (j / 2) (a, b) (by rw [List.getElem?_replicate, if_pos (by omega)])
  rcases (show j % 2 = 0 ∨ j % 2 = 1 by omega) with e | e
  · rw [if_pos e]
    have := h.1
    rw [show j / 2 * 2 = j by omega] at this; exact this
  · rw [if_neg (by omega)]
    have := h.2
    rw [show j / 2 * 2 + 1 = j by omega] at this; exact this
theorem zero2 (a b : Value) (k : Nat) : (Builtin.zeroCells #[a, b] k).toList = fl (List.replicate k (a, b)) := by
  apply List.ext_getElem?
  intro j
  by_cases hj : j < k * 2
  · rw [fl_rep a b k j hj]
    rcases (show j % 2 = 0 ∨ j % 2 = 1 by omega) with e | e <;> simp [Builtin.zeroCells, hj, e]
  · have e2 : (fl (List.replicate k (a, b)))[j]? = none := by
      rw [List.getElem?_eq_none_iff, fl_len, List.length_replicate]; omega
    rw [e2]
    simp [Builtin.zeroCells]; omega
theorem made2 (a b : Value) (k : Nat) : (madeCells #[a, b] (k * 2)).toList = fl (List.replicate k (a, b)) := by
  apply List.ext_getElem?
  intro j
  by_cases hj : j < k * 2
  · rw [fl_rep a b k j hj]
    rcases (show j % 2 = 0 ∨ j % 2 = 1 by omega) with e | e <;> simp [madeCells, hj, e]
  · have e2 : (fl (List.replicate k (a, b)))[j]? = none := by
      rw [List.getElem?_eq_none_iff, fl_len, List.length_replicate]; omega
    rw [e2]
    simp [madeCells]; omega
theorem take_splice {α : Type} (L : List α) (o N : Nat) (cs : List α) (h1 : o + cs.length ≤ N) (h2 : N ≤ L.length) : (L.take o ++ cs ++ L.drop (o + cs.length)).take N = splice (L.take N) o cs := by
  unfold splice
  apply List.ext_getElem?
  intro j
  rw [List.getElem?_take]
  have hlo : (L.take o).length = o := by rw [List.length_take]; omega
  have hlo2 : ((L.take N).take o).length = o := by rw [List.length_take, List.length_take]; omega
  by_cases hj : j < N
  · rw [if_pos hj, List.append_assoc, List.getElem?_append (l₁ := L.take o), List.getElem?_append (l₁ := (L.take N).take o), hlo, hlo2]
    by_cases h3 : j < o
    · rw [if_pos h3, if_pos h3, List.getElem?_take, if_pos h3, List.getElem?_take, if_pos h3, List.getElem?_take, if_pos hj]
    · rw [if_neg h3, if_neg h3, List.getElem?_append, List.getElem?_append]
      by_cases h4 : j - o < cs.length
      · rw [if_pos h4, if_pos h4]
      · rw [if_neg h4, if_neg h4, List.getElem?_drop, List.getElem?_drop, List.getElem?_take, if_pos (by omega)]
  · rw [if_neg hj]
    symm
    rw [List.getElem?_eq_none_iff, List.length_append, List.length_append, hlo2, List.length_drop, List.length_take]; omega
section
variable {P : Program} {w : World} {B g n cap z : Nat} {e : TypeId} {xs : List Value}
/-- cells stored into a row that the call owns -/
theorem run_store_own (h : w.ownsRow B e z (.slice (some ⟨g, 0, none⟩) n cap) n xs) (o : Nat) (cs : List Value) (hfit : o + cs.length ≤ n * z) (h1 : ∀ v ∈ cs, v.oneCell' = true) :
    ∃ w', (storeCells ⟨g, o, none⟩ cs).run P w = .ok () w' ∧ w'.ownsRow B e z (.slice (some ⟨g, 0, none⟩) n cap) n (splice xs o cs) ∧ w.grownBy w' (some g) := by
  rcases h.2 with ⟨h', _⟩ | ⟨g', cap', cur, h', hb, hg, hnc, hcm, hcs, htake⟩
  · simp at h'
  · simp only [Value.slice.injEq, Option.some.injEq, Addr.mk.injEq, and_true, true_and] at h'
    obtain ⟨rfl, rfl⟩ := h'
    have hN : n * z ≤ cur.toList.length := by rw [Array.length_toList, hcs]; exact Nat.mul_le_mul_right _ hnc
    have hst := run_storeCells_at P g o e cs 0 cur w hg (by rw [Array.length_toList] at hN; omega) h1
    simp only [Nat.add_zero] at hst
    have hl : (splice xs o cs).length = n * z := by rw [length_splice _ _ _ (by rw [h.1]; exact hfit), h.1]
    refine ⟨_, hst, ⟨hl, .inr ⟨g, cap, _, rfl, hb, setRow_heap w g cur _ e _ hg, hnc, hcm, ?_, ?_⟩⟩, ⟨rfl, rfl, rfl, by simp, fun k _ hk => setRow_other w g k _ (fun e => hk (by simp [e]))⟩⟩
    · simp only [List.size_toArray, List.length_append, List.length_take, List.length_drop, Array.length_toList]
      rw [Array.length_toList] at hN
      omega
    · rw [show (cur.toList.take o ++ cs ++ cur.toList.drop (o + cs.length)).toArray.toList = cur.toList.take o ++ cs ++ cur.toList.drop (o + cs.length) from rfl, take_splice _ _ _ _ hfit hN, htake]
/-- a shorter slice of the same row -/
theorem own_cut (h : w.ownsRow B e z (.slice (some ⟨g, 0, none⟩) n cap) n xs) (k : Nat) (hk : k ≤ n) : w.ownsRow B e z (.slice (some ⟨g, 0, none⟩) k cap) k (xs.take (k * z)) := by
  rcases h.2 with ⟨h', _⟩ | ⟨g', cap', cur, h', hb, hg, hnc, hcm, hcs, htake⟩
  · simp at h'
  · simp only [Value.slice.injEq, Option.some.injEq, Addr.mk.injEq, and_true, true_and] at h'
    obtain ⟨rfl, rfl⟩ := h'
    have hkz : k * z ≤ n * z := Nat.mul_le_mul_right _ hk
    refine ⟨by rw [List.length_take, h.1]; omega, .inr ⟨g, cap, cur, rfl, hb, hg, by omega, hcm, hcs, ?_⟩⟩
    rw [← htake, List.take_take]
    congr 1; omega
theorem run_clear2 (t ty : TypeId) (i : TypeInfo) (a b : Value) (ht : P.underlying t = some (.slice e)) (hi : P.info? e = some i) (hz : i.zero = some (.agg #[a, b])) (h1 : a.oneCell' = true) (h2 : b.oneCell' = true)
    (h : w.ownsRow B e 2 (.slice (some ⟨g, 0, none⟩) n cap) n xs) (k c : Nat) (hk : k < n) :
    ∃ w', (Builtin.clear_ #[t] ty #[.slice (some ⟨g, k * 2, none⟩) (n - k) c]).run P w = .ok (.tuple #[]) w' ∧ w'.ownsRow B e 2 (.slice (some ⟨g, 0, none⟩) n cap) n (splice xs (k * 2) (fl (List.replicate (n - k) (a, b)))) ∧ w.grownBy w' (some g) := by
  have hone : ∀ v ∈ fl (List.replicate (n - k) (a, b)), v.oneCell' = true := fl_all _ _ fun p hp => by
    rw [List.eq_of_mem_replicate hp]; exact ⟨h1, h2⟩
  obtain ⟨w', hs, ho, hg⟩ := run_store_own (P := P) h (k * 2) (fl (List.replicate (n - k) (a, b))) (by rw [fl_len, List.length_replicate]; omega) hone
  refine ⟨w', ?_, ho, hg⟩
  obtain ⟨m, hm⟩ : ∃ m, n - k = m + 1 := ⟨n - k - 1, by omega⟩
  rw [hm] at hs ⊢
  have hzc := zero2 a b (m + 1)
  have hzc2 : (Builtin.zeroCells (Value.agg #[a, b]).cells (m + 1)).toList = fl (List.replicate (m + 1) (a, b)) := hzc
  simp [Builtin.clear_, run_underlying ht, zeroValue, typeInfo, hi, hz, hzc2, hs]
theorem run_copy2 (dT sT ty : TypeId) (i : TypeInfo) (ht : P.underlying dT = some (.slice e)) (hi : P.info? e = some i) (hsz : i.size = z)
    (h : w.ownsRow B e z (.slice (some ⟨g, 0, none⟩) n cap) n xs) (o dLen dCap : Nat) (sp : Option Addr) (sLen sCap : Nat) (cs : List Value) (hl : cs.length = Nat.min sLen dLen * z)
    (hsrc : 0 < Nat.min sLen dLen → ∃ ad, sp = some ad ∧ ∀ j v, cs[j]? = some v → w.cell? (ad.add j) = some v) (hfit : o + cs.length ≤ n * z) (h1 : ∀ v ∈ cs, v.oneCell' = true) :
    ∃ w', (Builtin.copy_ #[dT, sT] ty #[.slice (some ⟨g, o, none⟩) dLen dCap, .slice sp sLen sCap]).run P w = .ok (goInt (Nat.min sLen dLen)) w' ∧ w'.ownsRow B e z (.slice (some ⟨g, 0, none⟩) n cap) n (splice xs o cs) ∧ w.grownBy w' (some g) := by
  obtain ⟨w', hs, ho, hg⟩ := run_store_own (P := P) h o cs hfit h1
  refine ⟨w', ?_, ho, hg⟩
  have hf : (Builtin.firstCells z (Nat.min sLen dLen) (.slice sp sLen sCap)).run P w = .ok cs.toArray w := by
    by_cases h0 : 0 < Nat.min sLen dLen
    · obtain ⟨ad, rfl, hc⟩ := hsrc h0
      exact run_firstCells_some w z _ ad sLen sCap cs hl hc
    · have e0 : Nat.min sLen dLen = 0 := by omega
      rw [e0, Nat.zero_mul] at hl
      have : cs = [] := List.eq_nil_of_length_eq_zero hl
      subst this
      rw [e0]
      cases sp with
      | none => exact run_firstCells_none w z 0 sLen sCap
      | some ad => exact run_firstCells_some w z 0 ad sLen sCap [] (by simp) (fun j v hj => by simp at hj)
  subst hsz
  simp [Builtin.copy_, run_underlying ht, Builtin.lenOf, sizeOf, typeInfo, hi, hf, hs]
theorem wpList_copy2 {ops : Array Oper} {rest : List Oper} {o : Oper} {a : Act} {Q : Exit → Act → World → Prop} (hgd : o.guard = none) (d s : Operand) (dT sT : TypeId)
    (ho : o.op = .call { callee := .builtin .copy, args := #[d, s], argTypes := #[dT, sT] }) (i : TypeInfo) (ht : P.underlying dT = some (.slice e)) (hi : P.info? e = some i) (hsz : i.size = z)
    (off dLen dCap : Nat) (sp : Option Addr) (sLen sCap : Nat) (hd : a.eval d = .slice (some ⟨g, off, none⟩) dLen dCap) (hs : a.eval s = .slice sp sLen sCap)
    (h : w.ownsRow B e z (.slice (some ⟨g, 0, none⟩) n cap) n xs) (cs : List Value) (hl : cs.length = Nat.min sLen dLen * z)
    (hsrc : 0 < Nat.min sLen dLen → ∃ ad, sp = some ad ∧ ∀ j v, cs[j]? = some v → w.cell? (ad.add j) = some v) (hfit : off + cs.length ≤ n * z) (h1 : ∀ v ∈ cs, v.oneCell' = true)
    (hk : ∀ w', w'.ownsRow B e z (.slice (some ⟨g, 0, none⟩) n cap) n (splice xs off cs) → w.grownBy w' (some g) → wpList P ops Q rest (a.put o.dst (goInt (Nat.min sLen dLen))) w') : wpList P ops Q (o :: rest) a w := by
  refine wpList_plain hgd fun K hK => ?_
  obtain ⟨w', hr, h2, h3⟩ := run_copy2 (P := P) dT sT o.type i ht hi hsz h off dLen dCap sp sLen sCap cs hl hsrc hfit h1
  unfold Oper.wp
  simp [execOp, ho, resolve, invoke, builtin, hd, hs, hr, Result.andThen]
  exact hK _ _ (hk w' h2 h3)
theorem step_copy2 {ops : Array Oper} {o : Oper} {a : Act} {K : Act → World → Prop} {Q : Exit → Act → World → Prop} {E : Prop} (hgd : o.guard = none) (d s : Operand) (dT sT : TypeId)
    (ho : o.op = .call { callee := .builtin .copy, args := #[d, s], argTypes := #[dT, sT] }) (i : TypeInfo) (ht : P.underlying dT = some (.slice e)) (hi : P.info? e = some i) (hsz : i.size = z)
    (off dLen dCap : Nat) (sp : Option Addr) (sLen sCap : Nat) (hd : a.eval d = .slice (some ⟨g, off, none⟩) dLen dCap) (hs : a.eval s = .slice sp sLen sCap)
    (h : w.ownsRow B e z (.slice (some ⟨g, 0, none⟩) n cap) n xs) (cs : List Value) (hl : cs.length = Nat.min sLen dLen * z)
    (hsrc : 0 < Nat.min sLen dLen → ∃ ad, sp = some ad ∧ ∀ j v, cs[j]? = some v → w.cell? (ad.add j) = some v) (hfit : off + cs.length ≤ n * z) (h1 : ∀ v ∈ cs, v.oneCell' = true)
    (hk : ∀ w', w'.ownsRow B e z (.slice (some ⟨g, 0, none⟩) n cap) n (splice xs off cs) → w.grownBy w' (some g) → K (a.put o.dst (goInt (Nat.min sLen dLen))) w') :
    if Region.wanted o (yielded ops a.tmps) = true then Oper.wp P o a w K Q else E := by
  have hw : Region.wanted o (yielded ops a.tmps) = true := by simp [Region.wanted, hgd]
  rw [if_pos hw]
  obtain ⟨w', hr, h2, h3⟩ := run_copy2 (P := P) dT sT o.type i ht hi hsz h off dLen dCap sp sLen sCap cs hl hsrc hfit h1
  unfold Oper.wp
  simp [execOp, ho, resolve, invoke, builtin, hd, hs, hr, Result.andThen]
  exact hk w' h2 h3
theorem wpList_clear2 {ops : Array Oper} {rest : List Oper} {o : Oper} {x : Act} {Q : Exit → Act → World → Prop} (hgd : o.guard = none) (s : Operand) (t : TypeId)
    (ho : o.op = .call { callee := .builtin .clear, args := #[s], argTypes := #[t] }) (i : TypeInfo) (a b : Value) (ht : P.underlying t = some (.slice e)) (hi : P.info? e = some i) (hz : i.zero = some (.agg #[a, b])) (h1 : a.oneCell' = true) (h2 : b.oneCell' = true)
    (k c : Nat) (hs : x.eval s = .slice (some ⟨g, k * 2, none⟩) (n - k) c) (h : w.ownsRow B e 2 (.slice (some ⟨g, 0, none⟩) n cap) n xs) (hk : k < n)
    (hq : ∀ w', w'.ownsRow B e 2 (.slice (some ⟨g, 0, none⟩) n cap) n (splice xs (k * 2) (fl (List.replicate (n - k) (a, b)))) → w.grownBy w' (some g) → wpList P ops Q rest (x.put o.dst (.tuple #[])) w') : wpList P ops Q (o :: rest) x w := by
  refine wpList_plain hgd fun K hK => ?_
  obtain ⟨w', hr, h3, h4⟩ := run_clear2 (P := P) t o.type i a b ht hi hz h1 h2 h k c hk
  unfold Oper.wp
  simp [execOp, ho, resolve, invoke, builtin, hs, hr, Result.andThen]
  exact hK _ _ (hq w' h3 h4)
/-- append(s[:i], make(S, k)...) where there is no room: a new row -/
theorem run_app_zeros (t tn ty : TypeId) (i : TypeInfo) (a b : Value) (bytes : Nat) (kq kn : IntKind) (ht : P.underlying t = some (.slice e)) (htn : P.underlying tn = some (.int kn)) (hi : P.info? e = some i) (hz : i.zero = some (.agg #[a, b])) (hsz : i.size = 2) (hby : i.bytes = bytes)
    (base : Option Addr) (m sCap : Nat) (olds : List Value) (hol : olds.length = m * 2) (hold : 0 < m → ∃ ad, base = some ad ∧ ∀ j v, olds[j]? = some v → w.cell? (ad.add j) = some v)
    (k : Nat) (h0 : 0 < k) (hg : sCap < m + k) (hb : B ≤ w.heap.size) (h48 : (m + k) * bytes ≤ 140737488355328) (h63 : m + k ≤ maxLen) :
    ∃ c w', (Builtin.append_ #[t, tn] ty #[.slice base m sCap, .int kq k]).run P w = .ok (.slice (some ⟨w.heap.size, 0, none⟩) (m + k) c) w' ∧
      w'.ownsRow B e 2 (.slice (some ⟨w.heap.size, 0, none⟩) (m + k) c) (m + k) (olds ++ fl (List.replicate k (a, b))) ∧ w.grownBy w' none := by
  have hf : (Builtin.firstCells i.size m (.slice base m sCap)).run P w.drew = .ok olds.toArray w.drew := by
    rw [hsz]
    by_cases hm : 0 < m
    · obtain ⟨ad, rfl, hc⟩ := hold hm
      exact run_firstCells_some w.drew 2 m ad m sCap olds hol hc
    · have : m = 0 := by omega
      subst this
      have : olds = [] := List.eq_nil_of_length_eq_zero (by simpa using hol)
      subst this
      cases base with
      | none => exact run_firstCells_none w.drew 2 0 0 sCap
      | some ad => exact run_firstCells_some w.drew 2 0 ad 0 sCap [] (by simp) (fun j v hj => by simp at hj)
  have hmk : k * bytes ≤ (m + k) * bytes := Nat.mul_le_mul_right _ (by omega)
  have hr := Lib.run_append_grow_zeros w t tn ty e i (.agg #[a, b]) kq kn ht htn hi hz base m sCap olds hf k h0 (by omega) hg (by unfold maxLen at h63; omega) (by rw [hby]; omega) (by rw [hby]; exact growslice_fits hg h48)
  refine ⟨_, _, hr, ?_, ?_⟩
  · have e1 : (Value.agg #[a, b]).cells = #[a, b] := rfl
    rw [e1]
    have hcl : m + k ≤ grownCap w (m + k) sCap e := grownCap_ge w _ _ _
    have hs2 : ∀ q, (Builtin.zeroCells #[a, b] q).size = q * 2 := fun q => size_zeroCells _ _
    refine ⟨by rw [List.length_append, hol, fl_len, List.length_replicate]; omega, .inr ⟨w.heap.size, _, (olds.toArray ++ Builtin.zeroCells #[a, b] k ++ Builtin.zeroCells #[a, b] (grownCap w (m + k) sCap e - (m + k))), rfl, hb, ?_, hcl, grownCap_le_maxLen w _ _ _ h63, ?_, ?_⟩⟩
    · exact heap_alloc_new w.drew _
    · rw [Array.size_append, Array.size_append, hs2, hs2, List.size_toArray, hol]; omega
    · rw [Array.toList_append, Array.toList_append, zero2, List.take_append_of_le_length (by rw [List.length_append, fl_len, List.length_replicate, hol]; omega), List.take_of_length_le (by rw [List.length_append, fl_len, List.length_replicate, hol]; omega)]
  · have G := World.grownBy_alloc w.drew (.cells (olds.toArray ++ Builtin.zeroCells (Value.agg #[a, b]).cells k ++ Builtin.zeroCells (Value.agg #[a, b]).cells (grownCap w (m + k) sCap e - (m + k))) e) none
    exact ⟨G.os, G.tape, G.output, G.size, fun j hj hn => G.block j hj hn⟩
end
end Go.Proofs.YtjloookjlnmgdaaGreatDoor
