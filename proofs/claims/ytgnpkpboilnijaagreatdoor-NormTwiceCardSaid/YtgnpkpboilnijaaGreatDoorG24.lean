/- What the laws' light at layer 5 answers. Condition: none.
   What strings.Trim answers at the ten digits: nothing is left just where all bytes are digits. Condition: a text's length.
   The normal form of a normal form is that again: in plain words. Condition: none.
   What package norm's param answers. Condition: how long a parameter's text.
   What package norm's Binds answers. Conditions: how many tokens, how long their texts. -/
import Derived.Test.YtgnpkpboilnijaaGreatDoorG23
import Derived.Test.YtgnpkpboilnijaaGreatDoorG18
import Derived.Deep.WholeRow
import Derived.Lib.UnsafeStr
set_option linter.unusedSimpArgs false
set_option linter.unusedVariables false
namespace Go.Proofs.YtgnpkpboilnijaaGreatDoor
open Go.ChangeShapes Go.WideShapes Go.ChangeAt Go.RowKit
set_option maxRecDepth 100000
set_option linter.unusedVariables false
set_option linter.unusedSimpArgs false

def lightL (l : List Tok) : Bool := decide (l.length ≤ 100) && l.all fun t => decide (t.2.1.size ≤ 200)
theorem light_yes {l : List Tok} (h : lightL l = true) : l.length ≤ 100 ∧ ∀ t ∈ l, t.2.1.size ≤ 200 := by
  unfold lightL at h
  rw [Bool.and_eq_true, decide_eq_true_iff, List.all_eq_true] at h
  exact ⟨h.1, fun t ht => of_decide_eq_true (h.2 t ht)⟩
set_option maxHeartbeats 2000000 in
theorem light_any (v : Value) (l : List Tok) (w : World) (h : TR w v l) :
    Calls Tryz.prog 7 #[v] w fun e w' => e = .returned (.bool (lightL l)) ∧ w' = w := by
  obtain ⟨a, cap, rfl, hx⟩ := tr_cells h
  obtain ⟨R, hR⟩ : ∃ R, lightL l = R := ⟨_, rfl⟩
  rw [hR]
  by_cases hl : l.length ≤ 100
  · have hR2 : (l.drop 0).all (fun t => decide (t.2.1.size ≤ 200)) = R := by
      rw [← hR, List.drop_zero]; unfold lightL; rw [decide_eq_true hl]; rfl
    have l1 : ¬ ((100 : Int) < (l.length : Int)) := by omega
    have HR := Lib.hid hR2
    have HX := Lib.hid hx
    clear hR hR2 hx h
    go_enter Tryz.func7, Tryz.ntmps7
    go_wp2
    go_loop [3] (fun u => ∃ k : Nat, k ≤ l.length ∧ u = .int .i64 (k : Int) ∧ (l.drop k).all (fun t => decide (t.2.1.size ≤ 200)) = R) (fun u => l.length - (intOf u).toNat)
    case atStart => exact ⟨0, Nat.zero_le _, rfl, HR.out⟩
    case round =>
      obtain ⟨k, hk, rfl, hv⟩ := hrel
      clear HR
      by_cases hlt : k < l.length
      · have l2 : (k : Int) < (l.length : Int) := by omega
        have l3 : (0 : Int) ≤ (k : Int) := by omega
        rcases HX.out with h0 | ⟨gb, off, rfl, hcap, hx⟩
        · omega
        · obtain ⟨x1, x2, x3⟩ := hx k hlt
          rw [List.drop_eq_getElem_cons hlt, List.all_cons] at hv
          clear hx x1 x3
          generalize l[k].2.1 = tx at *
          by_cases hs : tx.size ≤ 200
          · have l4 : ¬ ((200 : Int) < (tx.size : Int)) := by omega
            rw [decide_eq_true hs, Bool.true_and] at hv
            have HV := Lib.hid hv
            clear hv
            go_wp2
            go_round
            case rel => exact ⟨k + 1, by omega, by go_num, HV.out⟩
            case measure => simp [intOf]; omega
          · have l4 : (200 : Int) < (tx.size : Int) := by omega
            rw [decide_eq_false hs, Bool.false_and] at hv
            clear hs
            subst hv
            go_wp2
            go_ret
            exact ⟨rfl, rfl⟩
      · have l2 : ¬ ((k : Int) < (l.length : Int)) := by omega
        rw [List.drop_of_length_le (by omega)] at hv
        have hv2 : R = true := hv.symm
        clear hv
        subst hv2
        go_wp2
        go_ret
        exact ⟨rfl, rfl⟩
  · have hR2 : R = false := by rw [← hR]; unfold lightL; rw [decide_eq_false hl]; rfl
    have l1 : (100 : Int) < (l.length : Int) := by omega
    clear hR hl hx h
    subst hR2
    go_enter Tryz.func7, Tryz.ntmps7
    go_wp2
    go_ret
    exact ⟨rfl, rfl⟩
end Go.Proofs.YtgnpkpboilnijaaGreatDoor
namespace Go.Proofs.YtgnpkpboilnijaaGreatDoor
open Go.ChangeShapes Go.WideShapes Go.ChangeAt Go.RowKit
set_option maxRecDepth 100000
set_option linter.unusedVariables false
set_option linter.unusedSimpArgs false

def tenT : Tx := [48, 49, 50, 51, 52, 53, 54, 55, 56, 57]
def ten_bytesT (c : UInt8) : Bool := tenT.contains c == digB c
theorem ten_bytes : ((List.range 256).all fun n => ten_bytesT (UInt8.ofNat n)) = true := by kernel_rfl
theorem ten_dig (c : UInt8) : tenT.contains c = digB c := by
  have := byte_all (f := ten_bytesT) ten_bytes c
  unfold ten_bytesT at this
  exact beq_iff_eq.1 this
theorem all_head (t : ByteArray) (h : 0 < t.size) : t.data.toList.all digB = (digB (t[0]'h) && (t.extract 1 t.size).data.toList.all digB) := by
  have e := byte_at t 0 h
  rw [List.drop_zero] at e
  rw [ext_list, e, List.all_cons]; rfl
theorem all_last (t : ByteArray) (n : Nat) (h : n < t.size) (hn : t.size = n + 1) : t.data.toList.all digB = ((t.extract 0 n).data.toList.all digB && digB (t[n]'h)) := by
  have e : t.data.toList = t.data.toList.take n ++ [t[n]'h] := by
    have h1 := byte_at t n h
    have h2 : t.data.toList.drop (n + 1) = [] := List.drop_eq_nil_of_le (by have : t.size = t.data.toList.length := rfl; omega)
    rw [h2] at h1
    conv => lhs; rw [← List.take_append_drop n t.data.toList]
    rw [h1]
  have h3 : (t.extract 0 n).data.toList = t.data.toList.take n := by
    rw [ByteArray.data_extract, Array.toList_extract, List.extract_eq_take_drop]; simp
  rw [h3]
  conv => lhs; rw [e]
  rw [List.all_append]; simp
/-- what is left: nothing just where all of s are digits -/
def LeftP (s : ByteArray) (w : World) (e : Ending) (w' : World) : Prop := ∃ t : ByteArray, e = .returned (.string t) ∧ (t.size = 0 ↔ s.data.toList.all digB = true) ∧ w = w'
def RightP (s : ByteArray) (w : World) (e : Ending) (w' : World) : Prop := ∃ t : ByteArray, e = .returned (.string t) ∧ t.data.toList.all digB = s.data.toList.all digB ∧ t.size ≤ s.size ∧ w = w'
set_option maxHeartbeats 2000000 in
theorem tleft_any (s : ByteArray) (b : Nat) (w : World) (hs : s.size ≤ 1048576) (hset : ∀ x : UInt8, w.cell? ⟨b, x.toNat, none⟩ = some (.bool (digB x))) :
    Calls Tryz.prog 74 #[.string s, .pointer (some ⟨b, 0, none⟩)] w (LeftP s w) := by
  have HS := Lib.hid hset
  clear hset
  go_enter Tryz.func74, Tryz.ntmps74
  go_wp2
  go_loop [0] (fun v => ∃ t : ByteArray, v = .string t ∧ t.size ≤ s.size ∧ Hid (t.data.toList.all digB = s.data.toList.all digB)) (fun v => match v with | .string t => t.size | _ => 0)
  case atStart => exact ⟨s, rfl, Nat.le_refl _, Lib.hid rfl⟩
  case round =>
    obtain ⟨t, rfl, hts, HA⟩ := hrel
    by_cases h0 : 0 < t.size
    · have hh := all_head t h0
      have hset := HS.out (t[0]'h0)
      cases hd : digB (t[0]'h0) with
      | true =>
        rw [hd] at hset hh
        rw [Bool.true_and] at hh
        have HH := Lib.hid (hh.symm.trans HA.out)
        clear hh hd
        go_wp2_with (go_at_call 96; (with_reducible refine (Tryz.asciiSet_contains b (t[0]'h0) true w hset).mono ?_); rintro e w' ⟨rfl, hw⟩; obtain rfl := hw.symm)
        go_round
        case rel => exact ⟨_, rfl, by rw [ByteArray.size_extract]; omega, HH⟩
        case measure => show (t.extract 1 t.size).size < t.size; rw [ByteArray.size_extract]; omega
      | false =>
        rw [hd] at hset hh
        rw [Bool.false_and] at hh
        have HH := Lib.hid (hh.symm.trans HA.out)
        clear hh hd
        go_wp2_with (go_at_call 96; (with_reducible refine (Tryz.asciiSet_contains b (t[0]'h0) false w hset).mono ?_); rintro e w' ⟨rfl, hw⟩; obtain rfl := hw.symm)
        go_ret
        exact ⟨t, rfl, ⟨fun h => by omega, fun h => by rw [← HH.out] at h; cases h⟩, rfl⟩
    · have hz : t.size = 0 := by omega
      have hnil : t.data.toList = [] := List.eq_nil_of_length_eq_zero hz
      have HN := Lib.hid hnil
      have HZ := Lib.hid hz
      clear hnil hz
      go_wp2
      go_ret
      exact ⟨t, rfl, ⟨fun _ => by rw [← HA.out, HN.out]; rfl, fun _ => HZ.out⟩, rfl⟩
set_option maxHeartbeats 2000000 in
theorem tright_any (s : ByteArray) (b : Nat) (w : World) (hs : s.size ≤ 1048576) (hset : ∀ x : UInt8, w.cell? ⟨b, x.toNat, none⟩ = some (.bool (digB x))) :
    Calls Tryz.prog 75 #[.string s, .pointer (some ⟨b, 0, none⟩)] w (RightP s w) := by
  have HS := Lib.hid hset
  clear hset
  go_enter Tryz.func75, Tryz.ntmps75
  go_wp2
  go_loop [0] (fun v => ∃ t : ByteArray, v = .string t ∧ t.size ≤ s.size ∧ Hid (t.data.toList.all digB = s.data.toList.all digB)) (fun v => match v with | .string t => t.size | _ => 0)
  case atStart => exact ⟨s, rfl, Nat.le_refl _, Lib.hid rfl⟩
  case round =>
    obtain ⟨t, rfl, hts, HA⟩ := hrel
    by_cases h0 : 0 < t.size
    · obtain ⟨n, hn⟩ : ∃ n, t.size = n + 1 := ⟨t.size - 1, by omega⟩
      have hnt : n < t.size := by omega
      have hh := all_last t n hnt hn
      have hset := HS.out (t[n]'hnt)
      have cw : IntKind.i64.wrap ((t.size : Int) - 1) = (n : Int) := by rw [show (t.size : Int) - 1 = (n : Int) by omega]; exact IntWalk.i64_in _ (by omega)
      have l1 : (0 : Int) < (t.size : Int) := by omega
      have l2 : (n : Int) < (t.size : Int) := by omega
      have l3 : (0 : Int) ≤ (n : Int) := by omega
      have l4 : (n : Int) ≤ (t.size : Int) := by omega
      have HN := Lib.hid hn
      clear hn
      cases hd : digB (t[n]'hnt) with
      | true =>
        rw [hd] at hset hh
        rw [Bool.and_true] at hh
        have HH := Lib.hid (hh.symm.trans HA.out)
        clear hh hd
        go_wp2_with (go_at_call 96; (with_reducible refine (Tryz.asciiSet_contains b (t[n]'hnt) true w hset).mono ?_); rintro e w' ⟨rfl, hw⟩; obtain rfl := hw.symm)
        go_round
        case rel => exact ⟨_, rfl, by rw [ByteArray.size_extract]; have := HN.out; omega, HH⟩
        case measure => show (t.extract 0 n).size < t.size; rw [ByteArray.size_extract]; have := HN.out; omega
      | false =>
        rw [hd] at hset hh
        rw [Bool.and_false] at hh
        clear hd
        go_wp2_with (go_at_call 96; (with_reducible refine (Tryz.asciiSet_contains b (t[n]'hnt) false w hset).mono ?_); rintro e w' ⟨rfl, hw⟩; obtain rfl := hw.symm)
        go_ret
        exact ⟨t, rfl, HA.out, hts, rfl⟩
    · go_wp2
      go_ret
      exact ⟨t, rfl, HA.out, hts, rfl⟩
end Go.Proofs.YtgnpkpboilnijaaGreatDoor
namespace Go.Proofs.YtgnpkpboilnijaaGreatDoor
open Go.ChangeShapes Go.WideShapes Go.ChangeAt Go.RowKit
set_option maxRecDepth 100000
set_option linter.unusedVariables false
set_option linter.unusedSimpArgs false

/-- a text that frontL leaves as it is -/
def Lead (l : Tx) : Prop := ∀ c d r, l = c :: d :: r → ¬ (c = 48 ∧ d ≠ 46)
theorem front_lead : ∀ l : Tx, Lead (frontL l) := by
  intro l
  induction l with
  | nil => intro c d r h; cases h
  | cons c r ih =>
    cases r with
    | nil => intro c2 d r h; cases h
    | cons d r =>
      rw [frontL]
      split
      · exact ih
      · rename_i hn
        intro c2 d2 r2 h
        cases h
        exact hn
theorem lead_front (l : Tx) (h : Lead l) : frontL l = l := by
  cases l with
  | nil => rfl
  | cons c r =>
    cases r with
    | nil => rfl
    | cons d r =>
      rw [frontL, if_neg (h c d r rfl)]
theorem lead_take (l : Tx) (h : Lead l) (n : Nat) : Lead (l.take n) := by
  intro c d r he
  match l, n with
  | [], n => simp at he
  | [a], 0 => simp at he
  | [a], n + 1 => simp at he
  | a :: b :: t, 0 => simp at he
  | a :: b :: t, 1 => simp at he
  | a :: b :: t, n + 2 =>
    rw [List.take_succ_cons, List.take_succ_cons] at he
    cases he
    exact h _ _ _ rfl
theorem lead_count : ∀ l : Tx, (frontL l).count 46 = l.count 46 := by
  intro l
  induction l with
  | nil => rfl
  | cons c r ih =>
    cases r with
    | nil => rfl
    | cons d r =>
      rw [frontL]
      split
      · rename_i h
        rw [ih, List.count_cons (a := (46 : UInt8)) (b := c), h.1]; rfl
      · rfl
/-- backN stops at a byte that is no nought -/
theorem backN_spec (l : Tx) : ∀ n, backN l n = 0 ∨ l[backN l n - 1]? ≠ some 48 := by
  intro n
  induction n with
  | zero => exact .inl rfl
  | succ n ih =>
    rw [backN]
    split
    · exact ih
    · rename_i h; exact .inr (by simpa using h)
theorem backN_stay (l : Tx) (n : Nat) (h : n = 0 ∨ l[n - 1]? ≠ some 48) : backN l n = n := by
  cases n with
  | zero => rfl
  | succ n =>
    rw [backN, if_neg]
    rcases h with h | h
    · omega
    · simpa using h
theorem pointN_le (l : Tx) (n : Nat) : pointN l n ≤ n := by unfold pointN; split <;> omega
theorem num_twice (l : Tx) : numL (numL l) = numL l := by
  obtain ⟨z, hz⟩ : ∃ z, frontL l = z := ⟨_, rfl⟩
  have hl := front_lead l
  have hc := lead_count l
  rw [hz] at hl hc
  by_cases h1 : l.count 46 = 1
  · obtain ⟨b, hb⟩ : ∃ b, backN z z.length = b := ⟨_, rfl⟩
    have hbl : b ≤ z.length := by rw [← hb]; exact backN_le _ _
    have hbs : b = 0 ∨ z[b - 1]? ≠ some 48 := by rw [← hb]; exact backN_spec z _
    have e : numL l = z.take (pointN z b) := by unfold numL; rw [if_pos h1, hz, hb]
    rw [e]
    have hlt := lead_take z hl (pointN z b)
    have hp := pointN_le z b
    obtain ⟨y, hy⟩ : ∃ y, z.take (pointN z b) = y := ⟨_, rfl⟩
    rw [hy] at hlt ⊢
    unfold numL
    rw [lead_front y hlt]
    by_cases h2 : y.count 46 = 1
    · rw [if_pos h2]
      have hyl : y.length = pointN z b := by rw [← hy, List.length_take]; omega
      by_cases hpt : 0 < b ∧ z[b - 1]? = some 46
      · -- the point was the last one and is cut: none is left
        exfalso
        have hpn : pointN z b = b - 1 := if_pos hpt
        have hz2 : z.take b = z.take (b - 1) ++ [46] := by
          have := List.take_add_one (l := z) (i := b - 1)
          rw [show b - 1 + 1 = b by omega, hpt.2] at this
          exact this
        have h3 : (z.take b).count 46 ≤ z.count 46 := List.Sublist.count_le _ (List.take_sublist _ _)
        rw [hz2, List.count_append, ← hpn, hy, h2] at h3
        have h4 : ([46] : Tx).count 46 = 1 := rfl
        omega
      · have hpn : pointN z b = b := if_neg hpt
        rw [hpn] at hy hyl
        have hyg : ∀ i, i < b → y[i]? = z[i]? := fun i hi => by rw [← hy, List.getElem?_take, if_pos hi]
        have hb2 : backN y y.length = y.length := by
          apply backN_stay
          rw [hyl]
          rcases hbs with h | h
          · exact .inl h
          · by_cases h0 : b = 0
            · exact .inl h0
            · exact .inr (by rw [hyg _ (by omega)]; exact h)
        have hp2 : pointN y y.length = y.length := by
          unfold pointN
          rw [if_neg]
          rintro ⟨h3, h4⟩
          rw [hyl] at h3 h4
          rw [hyg _ (by omega)] at h4
          exact hpt ⟨h3, h4⟩
        rw [hb2, hp2, List.take_length]
    · rw [if_neg h2]
  · have e : numL l = z := by unfold numL; rw [if_neg h1, hz]
    rw [e]
    unfold numL
    rw [lead_front z hl, if_neg (by rw [hc]; exact h1)]
theorem bb_list (l : Tx) : (bb l).data.toList = l := by simp
theorem norm_twice (t : Tok) : normT (normT t) = normT t := by
  unfold normT
  by_cases h : t.1 = 4
  · rw [if_pos h, if_pos rfl]
    simp only [bb_list, num_twice]
  · rw [if_neg h, if_neg h]
theorem norm_semi (t : Tok) (h : isSemi (normT t) = true) : isSemi t = true := by
  unfold normT at h
  split at h
  · exact absurd h (by simp [isSemi])
  · exact h
/-- the last one that unN leaves is no Sign ; -/
theorem unN_spec (l : List Tok) : ∀ n, n ≤ l.length → unN l n = 0 ∨ ∃ t, l[unN l n - 1]? = some t ∧ isSemi t = false := by
  intro n
  induction n with
  | zero => intro _; exact .inl rfl
  | succ n ih =>
    intro hn
    rw [unN, List.getElem?_eq_getElem (by omega)]
    cases hs : isSemi l[n] with
    | true => simp only [hs, if_true]; exact ih (by omega)
    | false => simp only [hs]; exact .inr ⟨l[n], by simp, hs⟩
theorem unN_stay (l : List Tok) (h : l = [] ∨ ∃ t, l[l.length - 1]? = some t ∧ isSemi t = false) : unN l l.length = l.length := by
  rcases h with rfl | ⟨t, h1, h2⟩
  · rfl
  · cases hl : l.length with
    | zero => rfl
    | succ n =>
      rw [hl] at h1
      rw [unN, show l[n]? = some t from by simpa using h1]
      simp [h2]
theorem unN_le2 (l : List Tok) : ∀ n, unN l n ≤ n := by
  intro n
  induction n with
  | zero => exact Nat.le_refl _
  | succ n ih =>
    rw [unN]
    cases l[n]? with
    | none => simp
    | some t => cases hs : isSemi t <;> simp [hs] <;> omega
theorem tokens_twice (l : List Tok) : tokensL (tokensL l) = tokensL l := by
  obtain ⟨n, hn⟩ : ∃ n, unN l l.length = n := ⟨_, rfl⟩
  have h1 := unN_spec l l.length (Nat.le_refl _)
  have h2 := unN_le2 l l.length
  rw [hn] at h1 h2
  have e : tokensL l = (l.take n).map normT := by unfold tokensL; rw [hn]
  rw [e]
  have hlen : ((l.take n).map normT).length = n := by rw [List.length_map, List.length_take]; omega
  have hst : unN ((l.take n).map normT) ((l.take n).map normT).length = ((l.take n).map normT).length := by
    apply unN_stay
    by_cases h0 : n = 0
    · exact .inl (by rw [h0]; rfl)
    · rcases h1 with h1 | ⟨t, h3, h4⟩
      · exact absurd h1 h0
      · refine .inr ⟨normT t, ?_, ?_⟩
        · rw [hlen, List.getElem?_map, List.getElem?_take, if_pos (by omega), h3]; rfl
        · cases hs : isSemi (normT t) with
          | false => rfl
          | true => rw [norm_semi t hs] at h4; cases h4
  unfold tokensL
  rw [hst, List.take_length, List.map_map]
  apply List.map_congr_left
  intro t _
  exact norm_twice t
/-- two Signs ; more at the end make no difference -/
theorem tokens_semi (l : List Tok) (t : Tok) (h : isSemi t = true) : tokensL (l ++ [t]) = tokensL l := by
  have key : ∀ n, n ≤ l.length → unN (l ++ [t]) n = unN l n := by
    intro n
    induction n with
    | zero => intro _; rfl
    | succ n ih => intro hn; rw [unN, unN, List.getElem?_append_left (by omega), ih (by omega)]
  unfold tokensL
  have e : unN (l ++ [t]) (l ++ [t]).length = unN l l.length := by
    rw [List.length_append, List.length_singleton, unN, List.getElem?_append_right (Nat.le_refl _), Nat.sub_self]
    simp only [List.getElem?_cons_zero, h, if_true]
    exact key _ (Nat.le_refl _)
  rw [e, List.take_append_of_le_length (unN_le2 _ _)]
/-- without places -/
def bare (t : Tok) : Tok := (t.1, t.2.1, 0)
theorem bare_semi (t : Tok) : isSemi (bare t) = isSemi t := rfl
theorem bare_norm (t : Tok) : normT (bare t) = bare (normT t) := by
  unfold normT
  by_cases h : t.1 = 4
  · rw [if_pos h, if_pos (show (bare t).1 = 4 from h)]; rfl
  · rw [if_neg h, if_neg (show ¬ (bare t).1 = 4 from h)]
theorem unN_bare (l : List Tok) : ∀ n, unN (l.map bare) n = unN l n := by
  intro n
  induction n with
  | zero => rfl
  | succ n ih =>
    rw [unN, unN, List.getElem?_map, ih]
    cases l[n]? with
    | none => rfl
    | some t => rfl
theorem tokens_bare (l : List Tok) : tokensL (l.map bare) = (tokensL l).map bare := by
  unfold tokensL
  rw [List.length_map, unN_bare, ← List.map_take, List.map_map, List.map_map]
  apply List.map_congr_left
  intro t _
  exact bare_norm t
theorem shown_bare (t : Tok) : shownL (bare t) = shownL t := rfl
theorem alike_bare (a b : List Tok) (h : Alike false a b) : a.map bare = b.map bare := by
  apply List.ext_getElem?
  intro i
  rw [List.getElem?_map, List.getElem?_map]
  by_cases hi : i < a.length
  · have hj : i < b.length := by rw [← h.1]; exact hi
    rw [List.getElem?_eq_getElem hi, List.getElem?_eq_getElem hj]
    obtain ⟨h1, h2, _⟩ := h.2 i a[i] b[i] (List.getElem?_eq_getElem hi) (List.getElem?_eq_getElem hj)
    simp only [Option.map_some, bare, h1, h2]
  · have hj : ¬ i < b.length := by rw [← h.1]; exact hi
    rw [List.getElem?_eq_none (by omega), List.getElem?_eq_none (by omega)]
end Go.Proofs.YtgnpkpboilnijaaGreatDoor
namespace Go.Proofs.YtgnpkpboilnijaaGreatDoor
open Go.ChangeShapes Go.WideShapes Go.ChangeAt Go.RowKit
set_option maxRecDepth 100000
set_option linter.unusedVariables false
set_option linter.unusedSimpArgs false

/-- what is left of s at the ten digits: nothing just where all of it are digits -/
def TrimP (s : ByteArray) (w : World) (e : Ending) (w' : World) : Prop := ∃ t : ByteArray, e = .returned (.string t) ∧ (t.size = 0 ↔ s.data.toList.all digB = true) ∧ Below w.heap.size w w'
theorem ten_set : ∃ C : Array Value, Lib.setCells (⟨#[48, 49, 50, 51, 52, 53, 54, 55, 56, 57]⟩ : ByteArray).data.toList = C ∧ C.size = 256 ∧ (∀ x : UInt8, C[x.toNat]? = some (.bool (digB x))) ∧ C.all (·.oneCell') = true :=
  ⟨_, rfl, Lib.setCells_size _, fun x => by rw [Lib.setCells_at, ← ten_dig]; rfl, Lib.setCells_one _⟩
theorem not_empty (s : ByteArray) (h : 0 < s.size) : s.toList.isEmpty = false := by
  rw [Lib.toList_data]
  cases h2 : s.data.toList with
  | nil => have : s.size = s.data.toList.length := rfl
           rw [h2, List.length_nil] at this; omega
  | cons _ _ => rfl
theorem is_empty (s : ByteArray) (h : s.size = 0) : s = ⟨#[]⟩ := by
  apply ByteArray.ext
  apply Array.eq_empty_of_size_eq_zero
  exact h
theorem set_zero : ∀ w : World, (zeroValue 83).run Tryz.prog w = .ok (.agg (Array.replicate 256 (.bool false))) w := by
  have h : (Tryz.prog.info? 83).map (·.zero) = some (some (.agg (Array.replicate 256 (.bool false)))) := by kernel_rfl
  intro w
  cases hi : Tryz.prog.info? 83 with
  | none => rw [hi] at h; cases h
  | some i =>
    rw [hi] at h
    simp only [Option.map_some, Option.some.injEq] at h
    simp [zeroValue, typeInfo, hi, h, Result.andThen]
set_option maxHeartbeats 4000000 in
theorem trim_any (s : ByteArray) (w : World) (hs : s.size ≤ 1048576) (h0 : 0 < s.size) :
    Calls Tryz.prog 42 #[.string s, .string ⟨#[48, 49, 50, 51, 52, 53, 54, 55, 56, 57]⟩] w (TrimP s w) := by
  have hM := Tryz.strings_makeASCIISet set_zero (⟨#[48, 49, 50, 51, 52, 53, 54, 55, 56, 57]⟩ : ByteArray) w (by decide) (by
    intro j b hb
    have hm : b ∈ tenT := List.mem_of_getElem? hb
    have := (ten_dig b).symm.trans (List.contains_iff_mem.2 hm)
    exact Nat.lt_of_le_of_lt (dig_le b this).2 (by decide))
  obtain ⟨C, hC, hCs, hCx, hC1⟩ := ten_set
  rw [hC] at hM
  have hne := not_empty s h0
  have hcellAt : ∀ x : UInt8, ((w.alloc (.cells C 83)).alloc (.cells C 83)).cell? ⟨w.heap.size + 1, x.toNat, none⟩ = some (.bool (digB x)) := fun x => by
    rw [World.cell?_alloc_at _ _ _ _ (by simp), hCx]
  have hsc : (storeCells ⟨w.heap.size + 1, 0, none⟩ C.toList 0).run Tryz.prog ((w.alloc (.cells C 83)).alloc (.cells Tryz.zeroCells83 83)) = .ok () ((w.alloc (.cells C 83)).alloc (.cells C 83)) := by
    have := run_storeCells_new (P := Tryz.prog) (w.alloc (.cells C 83)) 83 Tryz.zeroCells83 C (by rw [hCs]; kernel_rfl) (by rw [hCs]; kernel_rfl) hC1
    simpa using this
  have HM := Lib.hid hM
  have HC := Lib.hid hcellAt
  have HR := Lib.hid (fun w1 hset => tright_any s (w.heap.size + 1) w1 hs hset)
  clear hM hcellAt hCx hC1 hC
  go_enter Tryz.func42, Tryz.ntmps42
  go_wp2_with (go_at_call 73; (with_reducible refine HM.out.mono ?_); rintro e w1 ⟨rfl, hw1⟩; rw [hw1])
  clear hsc HM
  have hR := HR.out _ HC.out
  have hl := fun t hts => tleft_any t (w.heap.size + 1) ((w.alloc (.cells C 83)).alloc (.cells C 83)) hts HC.out
  have HB := Lib.hid (((Below.refl _ w).alloc (Nat.le_refl _) (.cells C 83)).alloc (by simp) (.cells C 83))
  have HRR := Lib.hid hR
  have HL := Lib.hid hl
  clear hR hl HR HC
  refine HRR.out.mono ?_
  rintro e w2 ⟨t, rfl, ht, hts, hw2⟩
  obtain rfl := hw2
  have hl2 := HL.out t (by omega)
  have HT := Lib.hid ht
  clear ht
  go_wp2_with fail
  refine hl2.mono ?_
  rintro e w3 ⟨u, rfl, hu, hw3⟩
  obtain rfl := hw3
  go_wp2
  go_ret
  exact ⟨u, rfl, by rw [hu, HT.out], HB.out⟩
theorem dec_from (l : Tx) : ∀ acc : Nat, l.all digB = true → Lib.decFrom acc l = some (l.foldl (fun n c => 10 * n + (c.toNat - 48)) acc) := by
  induction l with
  | nil => intro acc _; rfl
  | cons c r ih =>
    intro acc h
    rw [List.all_cons, Bool.and_eq_true] at h
    have hd := dig_le c h.1
    have e : Lib.digitVal c = some (c.toNat - 48) := if_pos hd
    rw [List.foldl_cons, ← ih _ h.2]
    show (match Lib.digitVal c with | some d => Lib.decFrom (acc * 10 + d) r | none => none) = _
    rw [e, Nat.mul_comm 10 acc]
theorem atoi_val (l : Tx) (hne : l ≠ []) (h : l.all digB = true) : Lib.atoi l = some (valL l : Int) := by
  have hd := dec_from l 0 h
  cases l with
  | nil => exact absurd rfl hne
  | cons c r =>
    have hc : digB c = true := by rw [List.all_cons, Bool.and_eq_true] at h; exact h.1
    have h45 : (c == 45) = false := by rw [beq_eq_false_iff_ne]; rintro rfl; exact absurd hc (by decide)
    have h43 : (c == 43) = false := by rw [beq_eq_false_iff_ne]; rintro rfl; exact absurd hc (by decide)
    show (if (c == 45) = true then _ else if (c == 43) = true then _ else (Lib.decNat (c :: r)).map fun (m : Nat) => (m : Int)) = _
    rw [h45, h43, if_neg (by decide), if_neg (by decide)]
    have e : Lib.decNat (c :: r) = Lib.decFrom 0 (c :: r) := rfl
    rw [e, hd]; rfl
def StrNo (w : World) (e : Ending) (w' : World) : Prop := ∃ t : ByteArray, e = .returned (.string t) ∧ t.toList.isEmpty = false ∧ Below w.heap.size w w'
theorem trim_yes (s : ByteArray) (w : World) (hs : s.size ≤ 1048576) (h0 : 0 < s.size) (h : s.data.toList.all digB = true) :
    Calls Tryz.prog 42 #[.string s, .string ⟨#[48, 49, 50, 51, 52, 53, 54, 55, 56, 57]⟩] w fun e w' => e = .returned (.string ⟨#[]⟩) ∧ Below w.heap.size w w' :=
  (trim_any s w hs h0).mono fun e w' ⟨t, he, ht, hb⟩ => ⟨by rw [he, is_empty t (ht.2 h)], hb⟩
theorem trim_no (s : ByteArray) (w : World) (hs : s.size ≤ 1048576) (h0 : 0 < s.size) (h : s.data.toList.all digB = false) :
    Calls Tryz.prog 42 #[.string s, .string ⟨#[48, 49, 50, 51, 52, 53, 54, 55, 56, 57]⟩] w (StrNo w) :=
  (trim_any s w hs h0).mono fun e w' ⟨t, he, ht, hb⟩ => ⟨t, he, not_empty t (Nat.pos_of_ne_zero fun h2 => by rw [ht.1 h2] at h; cases h), hb⟩
theorem atoi_any (s : ByteArray) (w : World) (h0 : 0 < s.size) (hs : s.size ≤ 9) (h : s.data.toList.all digB = true) :
    Calls Tryz.prog 43 #[.string s] w fun e w' => e = .returned (.tuple #[.int .i64 (valL s.data.toList : Int), .nilIface]) ∧ Below w.heap.size w w' := by
  refine (Tryz.strconv_Atoi s _ (by omega) (atoi_val _ (fun hnil => (by
    have e : s.size = s.data.toList.length := rfl
    rw [hnil, List.length_nil] at e; omega)) h) w).mono fun e w' ⟨he, t, hw⟩ => ⟨he, ?_⟩
  rw [hw]
  exact Lib.below_freeze ((Below.drew (Below.refl _ w)).alloc (Nat.le_refl _) _) (p := ⟨w.heap.size, _, none⟩) (Nat.le_refl _) 1
theorem cut_yes (tx D : ByteArray) (r : Tx) (h : tx.data.toList = 36 :: r) (hD : D = bb r) (w : World) : Calls Tryz.prog 41 #[.string tx, .string ⟨#[36]⟩] w fun e w' => e = .returned (.tuple #[.string D, .bool true]) ∧ w' = w := by
  have := Tryz.strings_CutPrefix tx ⟨#[36]⟩ w
  have e1 : Lib.hasPrefix tx.data.toList (⟨#[36]⟩ : ByteArray).data.toList = true := by rw [h]; show ([36] : Tx).isPrefixOf (36 :: r) = true; simp [List.isPrefixOf]
  have e2 : Lib.trimPrefix tx.data.toList (⟨#[36]⟩ : ByteArray).data.toList = r := by unfold Lib.trimPrefix; rw [e1, if_pos rfl, h]; rfl
  rw [e1, e2] at this
  subst hD
  exact this
theorem cut_no (tx : ByteArray) (h : tx.data.toList.head? ≠ some 36) (w : World) : Calls Tryz.prog 41 #[.string tx, .string ⟨#[36]⟩] w fun e w' => e = .returned (.tuple #[.string tx, .bool false]) ∧ w' = w := by
  have := Tryz.strings_CutPrefix tx ⟨#[36]⟩ w
  have e1 : Lib.hasPrefix tx.data.toList (⟨#[36]⟩ : ByteArray).data.toList = false := by
    cases hl : tx.data.toList with
    | nil => rfl
    | cons c r =>
      rw [hl] at h
      show ([36] : Tx).isPrefixOf (c :: r) = false
      simp only [List.isPrefixOf, Bool.and_true]
      rw [beq_eq_false_iff_ne]
      intro h2; exact h (by rw [h2]; rfl)
  have e2 : Lib.trimPrefix tx.data.toList (⟨#[36]⟩ : ByteArray).data.toList = tx.data.toList := by unfold Lib.trimPrefix; rw [e1, if_neg (by decide)]
  rw [e1, e2] at this
  exact this
theorem cut_any (tx : ByteArray) (w : World) : Calls Tryz.prog 41 #[.string tx, .string ⟨#[36]⟩] w fun e w' => ∃ (D : ByteArray) (b : Bool), e = .returned (.tuple #[.string D, .bool b]) ∧ w' = w :=
  (Tryz.strings_CutPrefix tx ⟨#[36]⟩ w).mono fun e w' ⟨h, h2⟩ => ⟨_, _, h, h2⟩
theorem part_cons (ta : Int) (tx : ByteArray) (r : Tx) (h : tx.data.toList = 36 :: r) : parT (5, tx, ta) = if r ≠ [] ∧ r.all digB = true then some (if 9 < r.length then 0 else valL r) else none := by
  have hs : tx.size = r.length + 1 := by
    have e : tx.size = tx.data.toList.length := rfl
    rw [e, h]; rfl
  show (if (5 : Int) = 5 ∧ 2 ≤ tx.size ∧ tx.data.toList.headD 0 = 36 ∧ (tx.data.toList.drop 1).all digB = true then some (if 9 < tx.size - 1 then 0 else valL (tx.data.toList.drop 1)) else none) = _
  have e1 : tx.size - 1 = r.length := by omega
  have e2 : tx.data.toList.drop 1 = r := by rw [h]; rfl
  have e3 : tx.data.toList.headD 0 = 36 := by rw [h]; rfl
  rw [e1, e2, e3]
  by_cases hr : r = []
  · subst hr
    rw [if_neg (fun h2 => by have := h2.2.1; simp at hs; omega), if_neg (fun h2 => h2.1 rfl)]
  · have h0 : 0 < r.length := List.length_pos_iff.2 hr
    by_cases ha : r.all digB = true
    · have hc : (5 : Int) = 5 ∧ 2 ≤ tx.size ∧ (36 : UInt8) = 36 ∧ r.all digB = true := ⟨rfl, by omega, rfl, ha⟩
      have hd : r ≠ [] ∧ r.all digB = true := ⟨hr, ha⟩
      rw [if_pos hc, if_pos hd]
    · rw [if_neg (fun h2 => ha h2.2.2.2), if_neg (fun h2 => ha h2.2)]
theorem part_no (kd ta : Int) (tx : ByteArray) (h : kd ≠ 5 ∨ tx.data.toList.head? ≠ some 36) : parT (kd, tx, ta) = none := by
  unfold parT
  refine if_neg fun hh => ?_
  rcases h with h | h
  · exact h hh.1
  · have h2 : 2 ≤ tx.size := hh.2.1
    have h3 : tx.data.toList.headD 0 = 36 := hh.2.2.1
    have e : tx.size = tx.data.toList.length := rfl
    cases hl : tx.data.toList with
    | nil => rw [hl, List.length_nil] at e; omega
    | cons c r => rw [hl] at h h3; exact h (by rw [show c = 36 from h3]; rfl)
set_option maxHeartbeats 4000000 in
theorem nparam_any (kd ta : Int) (tx : ByteArray) (w : World) (hs : kd = 5 → tx.size ≤ 1048576) :
    Calls Tryz.prog 26 #[.agg #[.int .i64 kd, .string tx, .int .i64 ta]] w fun e w' => e = .returned (.tuple #[.int .i64 (((parT (kd, tx, ta)).getD 0 : Nat) : Int), .bool (parT (kd, tx, ta)).isSome]) ∧ Below w.heap.size w w' := by
  have hba := Lib.hid ((Below.refl w.heap.size w).alloc (Nat.le_refl _) (.cells #[.int .i64 kd, .string tx, .int .i64 ta] 35))
  by_cases h5 : kd = 5
  · have hs := hs h5
    subst h5
    by_cases hd : tx.data.toList.head? = some 36
    · obtain ⟨r, hr⟩ : ∃ r, tx.data.toList = 36 :: r := by
        cases hl : tx.data.toList with
        | nil => rw [hl] at hd; cases hd
        | cons c r => rw [hl] at hd; injection hd with hd; exact ⟨r, by rw [hd]⟩
      rw [part_cons ta tx r hr]
      have hrl : r.length ≤ 1048576 := by
        have e : tx.size = tx.data.toList.length := rfl
        rw [hr, List.length_cons] at e; omega
      obtain ⟨D, hD⟩ : ∃ D, D = bb r := ⟨_, rfl⟩
      have hDl : D.data.toList = r := by rw [hD]
      have hDs : D.size = r.length := by rw [hD]; exact bb_size r
      have HC := Lib.hid (fun w1 => cut_yes tx D r hr hD w1)
      by_cases hn : r = []
      · have hD0 : D = ⟨#[]⟩ := by rw [hD, hn]
        rw [if_neg (fun h => h.1 hn)]
        subst hD0
        clear hD hDl hDs hr hd hs hrl hn
        go_enter Tryz.func26, Tryz.ntmps26
        go_wp2_with (go_at_call 41; (with_reducible refine (HC.out _).mono ?_); rintro e w1 ⟨rfl, hw1⟩; obtain rfl := hw1.symm)
        go_ret2
        exact ⟨rfl, hba.out⟩
      · have h0 : 0 < D.size := by rw [hDs]; exact List.length_pos_iff.2 hn
        have hne := not_empty D h0
        cases ha : r.all digB with
        | false =>
          rw [if_neg (fun h => absurd h.2 (by decide))]
          have HT := Lib.hid (fun w1 => trim_no D w1 (by omega) h0 (by rw [hDl]; exact ha))
          clear hD hDl hDs hr hd hs hrl hn ha h0
          go_enter Tryz.func26, Tryz.ntmps26
          go_wp2_with (first
            | (go_at_call 41; (with_reducible refine (HC.out _).mono ?_); rintro e w1 ⟨rfl, hw1⟩; obtain rfl := hw1.symm)
            | (go_at_call 42; (with_reducible refine (HT.out _).mono ?_); rintro e w2 ⟨t, rfl, ht, hb2⟩; have HB2 := Lib.hid (hba.out.trans (hb2.mono (by simp))); clear hb2))
          go_ret2
          exact ⟨rfl, HB2.out⟩
        | true =>
          rw [if_pos ⟨hn, rfl⟩]
          have HT := Lib.hid (fun w1 => trim_yes D w1 (by omega) h0 (by rw [hDl]; exact ha))
          by_cases h9 : 9 < r.length
          · rw [if_pos h9]
            have h9' : (9 : Int) < (D.size : Int) := by omega
            clear hD hDl hDs hr hd hs hrl hn ha h0 h9
            go_enter Tryz.func26, Tryz.ntmps26
            go_wp2_with (first
              | (go_at_call 41; (with_reducible refine (HC.out _).mono ?_); rintro e w1 ⟨rfl, hw1⟩; obtain rfl := hw1.symm)
              | (go_at_call 42; (with_reducible refine (HT.out _).mono ?_); rintro e w2 ⟨rfl, hb2⟩; have HB2 := Lib.hid (hba.out.trans (hb2.mono (by simp))); clear hb2))
            go_ret2
            exact ⟨rfl, HB2.out⟩
          · rw [if_neg h9]
            have h9' : ¬ ((9 : Int) < (D.size : Int)) := by omega
            have hat := fun w1 => atoi_any D w1 h0 (by omega) (by rw [hDl]; exact ha)
            rw [hDl] at hat
            have HAT := Lib.hid hat
            clear hD hDl hDs hr hd hs hrl hn ha h0 h9 hat
            generalize valL r = q at *
            go_enter Tryz.func26, Tryz.ntmps26
            go_wp2_with (first
              | (go_at_call 41; (with_reducible refine (HC.out _).mono ?_); rintro e w1 ⟨rfl, hw1⟩; obtain rfl := hw1.symm)
              | (go_at_call 42; (with_reducible refine (HT.out _).mono ?_); rintro e w2 ⟨rfl, hb2⟩; have HB2 := Lib.hid (hba.out.trans (hb2.mono (by simp))); clear hb2)
              | (go_at_call 43; (with_reducible refine (HAT.out _).mono ?_); rintro e w3 ⟨rfl, hb3⟩; have HB3 := Lib.hid (HB2.out.trans (hb3.mono HB2.out.size)); clear hb3))
            go_ret2
            exact ⟨rfl, HB3.out⟩
    · rw [part_no 5 ta tx (.inr hd)]
      have HC := Lib.hid (fun w1 => cut_no tx hd w1)
      clear hd hs
      go_enter Tryz.func26, Tryz.ntmps26
      go_wp2_with (go_at_call 41; (with_reducible refine (HC.out _).mono ?_); rintro e w1 ⟨rfl, hw1⟩; obtain rfl := hw1.symm)
      go_ret2
      exact ⟨rfl, hba.out⟩
  · rw [part_no kd ta tx (.inl h5)]
    have HC := Lib.hid (fun w1 => cut_any tx w1)
    have n5 : (kd != (5 : Int)) = true := by rw [bne_iff_ne]; exact h5
    clear h5 hs
    go_enter Tryz.func26, Tryz.ntmps26
    go_wp2_with (go_at_call 41; (with_reducible refine (HC.out _).mono ?_); rintro e w1 ⟨D, b, rfl, hw1⟩; obtain rfl := hw1.symm)
    go_ret2
    exact ⟨rfl, hba.out⟩
end Go.Proofs.YtgnpkpboilnijaaGreatDoor
namespace Go.Proofs.YtgnpkpboilnijaaGreatDoor
open Go.ChangeShapes Go.WideShapes Go.ChangeAt Go.RowKit
set_option maxRecDepth 100000
set_option linter.unusedVariables false
set_option linter.unusedSimpArgs false

set_option maxHeartbeats 2000000 in
theorem binds_any (v : Value) (l : List Tok) (w : World) (hl : l.length ≤ 65536) (hz : ∀ t ∈ l, t.1 = 5 → t.2.1.size ≤ 65536) (h : TR w v l) :
    Calls Tryz.prog 16 #[v] w fun e w' => e = .returned (.int .i64 (bindsL l : Int)) ∧ Below w.heap.size w w' := by
  obtain ⟨a, cap, rfl, hx⟩ := tr_cells h
  obtain ⟨R, hR⟩ : ∃ R, bindsL l = R := ⟨_, rfl⟩
  rw [hR]
  have HR := Lib.hid hR
  have HX := Lib.hid hx
  have HZ := Lib.hid hz
  clear hR hx h hz
  go_enter Tryz.func16, Tryz.ntmps16
  go_wp2
  go_loopg [3, 10] l.length (fun g u3 u10 wx => ∃ (k n : Nat), u10 = .int .i64 (k : Int) ∧ u3 = .int .i64 (n : Int) ∧ k + g = l.length ∧ n < 1000000000 ∧ Below w.heap.size w wx ∧ (l.drop k).foldl bindF n = R)
  case atStart => exact ⟨0, 0, rfl, rfl, by omega, by decide, Below.refl _ _, HR.out⟩
  case round =>
    obtain ⟨k, n, rfl, rfl, hkg, hn, hB, hv⟩ := hrel
    have HB := Lib.hid hB
    clear HR hB
    cases gk with
    | zero =>
      have hkl : ¬ ((k : Int) < (l.length : Int)) := by omega
      have hZ : R = n := by
        rw [← hv, List.drop_of_length_le (by omega)]; rfl
      clear hv
      subst hZ
      go_wp2
      go_ret
      exact ⟨rfl, HB.out⟩
    | succ g =>
      have hkl : (k : Int) < (l.length : Int) := by omega
      have hlt : k < l.length := by omega
      have hk0 : (0 : Int) ≤ (k : Int) := by omega
      rcases HX.out with h0 | ⟨gb, off, rfl, hcap, hx⟩
      · omega
      · obtain ⟨x1, x2, x3⟩ := hx k hlt
        have hzk := HZ.out l[k] (List.getElem_mem hlt)
        have hgb : gb < w.heap.size := World.block_lt_of_cell? w _ x1
        rw [← HB.out.cell (p := ⟨gb, off + k * 3, none⟩) hgb] at x1
        rw [← HB.out.cell (p := ⟨gb, off + k * 3 + 1, none⟩) hgb] at x2
        rw [← HB.out.cell (p := ⟨gb, off + k * 3 + 2, none⟩) hgb] at x3
        rw [List.drop_eq_getElem_cons hlt, List.foldl_cons] at hv
        have hb2 := bind_lt n l[k] hn
        clear hx hgb
        generalize hT : l[k] = t at *
        clear hT
        obtain ⟨kd9, tx9, ta9⟩ := t
        simp only at x1 x2 x3 hzk
        have hp := fun w1 => nparam_any kd9 ta9 tx9 w1 (fun h => by have := hzk h; omega)
        have hmx : max (n : Int) (((parT (kd9, tx9, ta9)).getD 0 : Nat) : Int) = (bindF n (kd9, tx9, ta9) : Int) := by
          unfold bindF; omega
        obtain ⟨p, hpp⟩ : ∃ p : Nat, (parT (kd9, tx9, ta9)).getD 0 = p := ⟨_, rfl⟩
        obtain ⟨b, hbb⟩ : ∃ b : Bool, (parT (kd9, tx9, ta9)).isSome = b := ⟨_, rfl⟩
        obtain ⟨n2, hn2⟩ : ∃ n2, bindF n (kd9, tx9, ta9) = n2 := ⟨_, rfl⟩
        rw [hpp, hbb] at hp
        rw [hpp, hn2] at hmx
        rw [hn2] at hv hb2
        have HP := Lib.hid hp
        have HV := Lib.hid hv
        have HZ2 := Lib.hid hb2
        have HM := Lib.hid hmx
        clear hp hv hb2 hpp hn2 hzk hn hmx hbb
        go_wp2_with (go_at_call 26; (with_reducible refine (HP.out _).mono ?_); rintro e w2 ⟨rfl, hb9⟩; have HB2 := Lib.hid (HB.out.trans ((((Below.refl _ _).alloc (Nat.le_refl _) _).trans (hb9.mono (by simp))).mono HB.out.size)); clear hb9)
        go_roundg g
        case measure => omega
        case rel => exact ⟨k + 1, n2, by go_num, by rw [← HM.out], by omega, HZ2.out, HB2.out, HV.out⟩
end Go.Proofs.YtgnpkpboilnijaaGreatDoor
