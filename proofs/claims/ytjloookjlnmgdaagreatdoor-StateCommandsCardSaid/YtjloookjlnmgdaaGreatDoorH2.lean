/- Tes, Seo, Sep, Seq, Ser, Ses -/
import Derived.Test.YtjloookjlnmgdaaGreatDoorG9
import Derived.Test.YtjloookjlnmgdaaGreatDoorG19
import Derived.Test.YtjloookjlnmgdaaGreatDoorG16
import Derived.Deep.RegionWith
import Derived.Deep.RegionHeld3
import Derived.Test.YtjloookjlnmgdaaGreatDoorG17
import Derived.Test.YtjloookjlnmgdaaGreatDoorG13
set_option linter.unusedSimpArgs false
set_option linter.unusedVariables false
namespace Go.Proofs.YtjloookjlnmgdaaGreatDoor
open Go.ChangeShapes Go.WideShapes Go.ChangeAt Go.RowKit
set_option maxRecDepth 100000
set_option linter.unusedVariables false
set_option linter.unusedSimpArgs false

def numI (t : Tok) : Int := match numO t with | some k => (k : Int) | none => -1
theorem dig_take (s : ByteArray) (i : Nat) (h : i < s.size) : s.data.toList.take (i + 1) = s.data.toList.take i ++ [s[i]'h] := by
  have e : s.data.toList[i]? = some (s[i]'h) := by
    have hl : i < s.data.toList.length := h
    rw [List.getElem?_eq_getElem hl]; rfl
  rw [List.take_add_one, e]; rfl
set_option maxHeartbeats 2000000 in
theorem rdigits_any (t : Tok) (w : World) : Calls Tryz.prog 55 #[tkV t] w fun e w' => e = .returned (.int .i64 (numI t)) ∧ Below w.heap.size w w' := by
  obtain ⟨k, s, p⟩ := t
  obtain ⟨Z, hZ⟩ : ∃ Z, numI (k, s, p) = Z := ⟨_, rfl⟩
  rw [hZ]
  have hno : (k ≠ 4 ∨ 6 < s.size ∨ s.size = 0 ∨ s.data.toList.all digB = false) → Z = -1 := fun h => by
    rw [← hZ]; unfold numI; rw [num_none (k, s, p) h]
  have HB := Lib.hid ((Below.refl w.heap.size w).alloc (Nat.le_refl _) (.cells #[.int .i64 k, .string s, .int .i64 p] 27))
  by_cases h4 : k = 4
  · subst h4
    by_cases h6 : 6 < s.size
    · have l6 : (6 : Int) < (s.size : Int) := by omega
      have HZ := Lib.hid (hno (.inr (.inl h6)))
      clear hno hZ h6
      go_enter Tryz.func55, Tryz.ntmps55
      go_wp2
      go_ret
      exact ⟨by rw [HZ.out]; rfl, HB.out⟩
    · have l6 : ¬ ((6 : Int) < (s.size : Int)) := by omega
      by_cases h0 : s.size = 0
      · have l0 : decide ((s.size : Int) = 0) = true := by rw [decide_eq_true_iff]; omega
        have l0' : ((s.size : Int) == 0) = true := by rw [beq_iff_eq]; omega
        have HZ := Lib.hid (hno (.inr (.inr (.inl h0))))
        have hs0 : (s.size : Int) = 0 := by omega
        clear hno hZ h6 h0
        go_enter Tryz.func55, Tryz.ntmps55
        go_wp2
        go_ret
        exact ⟨by rw [HZ.out]; rfl, HB.out⟩
      · have hs0 : ¬ ((s.size : Int) = 0) := by omega
        have hyes : s.data.toList.all digB = true → Z = (valL s.data.toList : Int) := fun h => by
          rw [← hZ]; unfold numI
          have : numO (4, s, p) = some (valL s.data.toList) := if_pos ⟨rfl, by show s.size ≤ 6; omega, h0, h⟩
          rw [this]
        have HY := Lib.hid hyes
        have HN := Lib.hid (fun h => hno (.inr (.inr (.inr h))))
        have H6 := Lib.hid h6
        clear hno hZ h0 hyes h6
        go_enter Tryz.func55, Tryz.ntmps55
        go_wp2
        go_loopg [3, 4] s.size (fun gk u3 u4 wx => ∃ (i n : Nat), u4 = .int .i64 (i : Int) ∧ u3 = .int .i64 (n : Int) ∧ i + gk = s.size ∧ (s.data.toList.take i).all digB = true ∧ n = valL (s.data.toList.take i) ∧ wx = w.alloc (.cells #[.int .i64 4, .string s, .int .i64 p] 27))
        case atStart => exact ⟨0, 0, rfl, rfl, by omega, rfl, rfl, rfl⟩
        case round =>
          obtain ⟨i, n, rfl, rfl, hi, hall, hn, rfl⟩ := hrel
          have HI := Lib.hid hi
          cases gk with
          | zero =>
            have l1 : ¬ ((i : Int) < (s.size : Int)) := by omega
            have hfull : s.data.toList.take i = s.data.toList := List.take_of_length_le (by show s.size ≤ i; omega)
            rw [hfull] at hall hn
            have hz := HY.out hall
            rw [← hn] at hz
            have HZ := Lib.hid hz
            clear hi hall hn hfull hz
            go_wp2
            go_ret
            exact ⟨by rw [HZ.out]; rfl, HB.out⟩
          | succ gk =>
            have hlt : i < s.size := by omega
            have l1 : (i : Int) < (s.size : Int) := by omega
            have l3 : (0 : Int) ≤ (i : Int) := by omega
            have hd := dig_take s i hlt
            obtain ⟨c, hc⟩ : ∃ c, s[i]'hlt = c := ⟨_, rfl⟩
            rw [hc] at hd
            obtain ⟨q, hq⟩ : ∃ q : Int, (c.toNat : Int) = q := ⟨_, rfl⟩
            have hcq : ((s[i]'hlt).toNat : Int) = q := by rw [hc]; exact hq
            have hdig : digB c = decide (48 ≤ q ∧ q ≤ 57) := by rw [← hq]; rfl
            by_cases hg : 48 ≤ q ∧ q ≤ 57
            · obtain ⟨hg1, hg2⟩ := hg
              have g1 : ¬ (q < 48) := by omega
              have g2 : ¬ (57 < q) := by omega
              have hdg : digB c = true := by rw [hdig, decide_eq_true ⟨hg1, hg2⟩]
              have hall2 : (s.data.toList.take (i + 1)).all digB = true := by rw [hd, List.all_append, hall]; simp [hdg]
              have hn2 : 10 * n + (c.toNat - 48) = valL (s.data.toList.take (i + 1)) := by rw [hd, val_snoc, hn]
              have hlt9 : valL (s.data.toList.take (i + 1)) < 1000000000 := val_lt _ hall2 (by rw [List.length_take]; have := H6.out; omega)
              obtain ⟨n1, hn1⟩ : ∃ n1, valL (s.data.toList.take (i + 1)) = n1 := ⟨_, rfl⟩
              rw [hn1] at hn2 hlt9
              obtain ⟨b, hb⟩ : ∃ b, i + 1 = b := ⟨_, rfl⟩
              have cb : IntKind.i64.wrap ((i : Int) + 1) = (b : Int) := by rw [show (i : Int) + 1 = (b : Int) by omega]; exact IntWalk.i64_in _ (by have := H6.out; omega)
              have w1 : IntKind.i64.wrap (10 * (n : Int)) = 10 * (n : Int) := IntWalk.i64_in _ (by omega)
              have w2 : IntKind.u8.wrap (q - 48) = q - 48 := by
                have : q = 48 ∨ q = 49 ∨ q = 50 ∨ q = 51 ∨ q = 52 ∨ q = 53 ∨ q = 54 ∨ q = 55 ∨ q = 56 ∨ q = 57 := by omega
                rcases this with rfl | rfl | rfl | rfl | rfl | rfl | rfl | rfl | rfl | rfl <;> rfl
              have w3 : IntKind.i64.wrap (q - 48) = q - 48 := IntWalk.i64_in _ (by omega)
              have w4 : IntKind.i64.wrap (10 * (n : Int) + (q - 48)) = (n1 : Int) := by
                rw [show 10 * (n : Int) + (q - 48) = (n1 : Int) by omega]; exact IntWalk.i64_in _ (by omega)
              have HA := Lib.hid (show (s.data.toList.take b).all digB = true by rw [← hb]; exact hall2)
              have HN1 := Lib.hid (show n1 = valL (s.data.toList.take b) by rw [← hb, hn1])
              have HBB := Lib.hid hb
              clear hi hall hn hd hc hq hdig hg1 hg2 hdg hall2 hn2 hlt9 hn1 hb
              go_wp2
              go_roundg gk
              case measure => exact Nat.lt_succ_self _
              case rel => exact ⟨b, n1, rfl, rfl, by have := HBB.out; have := HI.out; omega, HA.out, HN1.out, rfl⟩
            · have hdg : digB c = false := by rw [hdig]; exact decide_eq_false hg
              have hz := HN.out (by
                cases hA : s.data.toList.all digB with
                | false => rfl
                | true =>
                  have hm : c ∈ s.data.toList := by
                    have : c ∈ s.data.toList.take (i + 1) := by rw [hd]; simp
                    exact List.mem_of_mem_take this
                  have := List.all_eq_true.1 hA c hm
                  rw [hdg] at this; cases this)
              have HZ := Lib.hid hz
              by_cases hg1 : q < 48
              · clear hi hall hn hd hc hq hdig hg hdg hz
                go_wp2
                go_ret
                exact ⟨by rw [HZ.out]; rfl, HB.out⟩
              · have hg2 : 57 < q := by omega
                clear hi hall hn hd hc hq hdig hg hdg hz
                go_wp2
                go_ret
                exact ⟨by rw [HZ.out]; rfl, HB.out⟩
  · have HZ := Lib.hid (hno (.inl h4))
    have l4 : (k != 4) = true := by rw [bne_iff_ne]; exact h4
    clear hno hZ h4
    go_enter Tryz.func55, Tryz.ntmps55
    go_wp2
    go_ret
    exact ⟨by rw [HZ.out]; rfl, HB.out⟩

def SRT (w : World) (v : Value) (d : List Tx) : Prop :=
  (∃ A cap, v = .slice A 0 cap ∧ d = []) ∨
  ∃ h off cap, v = .slice (some ⟨h, off, none⟩) d.length cap ∧ d.length ≤ cap ∧ ∀ (i : Nat) (x : Tx), d[i]? = some x → w.cell? ⟨h, off + i, none⟩ = some (sV x)
theorem SRT.own {w : World} {B : Nat} {v : Value} {d : List Tx} (h : w.ownsRow B 9 1 v d.length (d.map sV)) : SRT w v d := by
  rcases h.2 with ⟨rfl, hz⟩ | ⟨g, cap, cur, rfl, hb, hh, hc, hm, hs, ht⟩
  · exact .inl ⟨none, 0, rfl, List.eq_nil_of_length_eq_zero hz⟩
  · refine .inr ⟨g, 0, cap, rfl, hc, fun i x hi => ?_⟩
    have := h.cells (g := g) rfl i (sV x) (by rw [List.getElem?_map, hi]; rfl)
    rw [Addr.add_lit, Nat.zero_add] at this
    rw [Nat.zero_add]; exact this
theorem SRT.keep {w w' : World} {v : Value} {d : List Tx} (h : SRT w v d) (hk : ∀ p : Addr, (w.cell? p).isSome = true → w'.cell? p = w.cell? p) : SRT w' v d := by
  rcases h with h | ⟨h, off, cap, e, hc, hm⟩
  · exact .inl h
  · exact .inr ⟨h, off, cap, e, hc, fun i x hi => (hk _ (by rw [hm i x hi]; rfl)).trans (hm i x hi)⟩
theorem SRT.below {w w' : World} {v : Value} {d : List Tx} (h : SRT w v d) (hb : Below w.heap.size w w') : SRT w' v d :=
  h.keep fun p hp => by
    obtain ⟨u, hu⟩ := Option.isSome_iff_exists.1 hp
    exact hb.cell (World.block_lt_of_cell? w p hu)
theorem SRT.at_ {w : World} {v : Value} {d : List Tx} (h : SRT w v d) : ∃ a cap, v = .slice a d.length cap ∧ (d.length = 0 ∨ ∃ g off, a = some ⟨g, off, none⟩ ∧ d.length ≤ cap ∧ ∀ k (hk : k < d.length), w.cell? ⟨g, off + k, none⟩ = some (sV d[k])) := by
  rcases h with ⟨A, cap, rfl, rfl⟩ | ⟨g, off, cap, rfl, hc, hx⟩
  · exact ⟨_, _, rfl, .inl rfl⟩
  · exact ⟨_, _, rfl, .inr ⟨g, off, rfl, hc, fun k hk => hx k d[k] (List.getElem?_eq_getElem hk)⟩⟩
set_option maxHeartbeats 1000000 in
theorem rssign_any (v : Value) (l : List Tok) (i : Nat) (s : ByteArray) (w : World) (h : TR w v l) (hl : l.length ≤ 1099511627776) :
    Calls Tryz.prog 134 #[v, .int .i64 (i : Int), .string s] w fun e w' => e = .returned (.bool (isTok 5 [s.toList] l i)) ∧ w' = w := by
  obtain ⟨a, cap, rfl, hx⟩ := tr_at h
  clear h
  by_cases hi : i < l.length
  · rcases hx with h0 | ⟨g, off, rfl, hcap, hx⟩
    · omega
    · obtain ⟨x1, x2⟩ := hx i hi
      have l0 : (0 : Int) ≤ (i : Int) := by omega
      have l1 : (i : Int) < (l.length : Int) := by omega
      rw [isTok_in 5 [s.toList] hi, one_text]
      generalize l[i] = t at *
      obtain ⟨kd, tx, ta⟩ := t
      simp only at x1 x2 ⊢
      clear hx hi
      by_cases hk : kd = 5
      · subst hk
        obtain ⟨c, hc⟩ : ∃ c, (tx.toList == s.toList) = c := ⟨_, rfl⟩
        rw [hc]
        go_enter Tryz.func134, Tryz.ntmps134
        go_wp2
        go_ret
        exact ⟨rfl, rfl⟩
      · have hk2 : (kd == (5 : Int)) = false := by rw [beq_eq_false_iff_ne]; exact hk
        rw [hk2]
        clear hk
        go_enter Tryz.func134, Tryz.ntmps134
        go_wp2
        go_ret
        exact ⟨rfl, rfl⟩
  · have l1 : ¬ ((i : Int) < (l.length : Int)) := by omega
    rw [isTok_out 5 _ hi]
    clear hx hi
    go_enter Tryz.func134, Tryz.ntmps134
    go_wp2
    go_ret
    exact ⟨rfl, rfl⟩
set_option maxHeartbeats 1000000 in
theorem rword_any (v : Value) (l : List Tok) (i : Nat) (s : ByteArray) (w : World) (h : TR w v l) (hl : l.length ≤ 1099511627776) :
    Calls Tryz.prog 98 #[v, .int .i64 (i : Int), .string s] w fun e w' => e = .returned (.bool (isTok 1 [s.toList] l i)) ∧ w' = w := by
  obtain ⟨a, cap, rfl, hx⟩ := tr_at h
  clear h
  have l0 : (0 : Int) ≤ (i : Int) := by omega
  by_cases hi : i < l.length
  · rcases hx with h0 | ⟨g, off, rfl, hcap, hx⟩
    · omega
    · obtain ⟨x1, x2⟩ := hx i hi
      have l1 : (i : Int) < (l.length : Int) := by omega
      rw [isTok_in 1 [s.toList] hi, one_text]
      generalize l[i] = t at *
      obtain ⟨kd, tx, ta⟩ := t
      simp only at x1 x2 ⊢
      clear hx hi
      by_cases hk : kd = 1
      · subst hk
        obtain ⟨c, hc⟩ : ∃ c, (tx.toList == s.toList) = c := ⟨_, rfl⟩
        rw [hc]
        go_enter Tryz.func98, Tryz.ntmps98
        go_wp2
        go_ret
        exact ⟨rfl, rfl⟩
      · have hk2 : (kd == (1 : Int)) = false := by rw [beq_eq_false_iff_ne]; exact hk
        rw [hk2]
        clear hk
        go_enter Tryz.func98, Tryz.ntmps98
        go_wp2
        go_ret
        exact ⟨rfl, rfl⟩
  · have l1 : ¬ ((i : Int) < (l.length : Int)) := by omega
    rw [isTok_out 1 _ hi]
    clear hx hi
    go_enter Tryz.func98, Tryz.ntmps98
    go_wp2
    go_ret
    exact ⟨rfl, rfl⟩
theorem rword_neg (v s : Value) (w : World) :
    Calls Tryz.prog 98 #[v, .int .i64 (-1), s] w fun e w' => e = .returned (.bool false) ∧ w' = w := by
  go_enter Tryz.func98, Tryz.ntmps98
  go_wp2
  go_ret
  exact ⟨rfl, rfl⟩
theorem drop_contains {d : List Tx} {k : Nat} (hk : k < d.length) (x : Tx) : (d.drop k).contains x = (x == d[k] || (d.drop (k + 1)).contains x) := by
  rw [List.drop_eq_getElem_cons hk, List.contains_cons]
set_option maxHeartbeats 1000000 in
theorem rin_any (v : Value) (d : List Tx) (s : ByteArray) (w : World) (h : SRT w v d) (hl : d.length ≤ 1000000000000) :
    Calls Tryz.prog 131 #[v, .string s] w fun e w' => e = .returned (.bool (d.contains s.toList)) ∧ w' = w := by
  obtain ⟨a, cap, rfl, hx⟩ := h.at_
  obtain ⟨R, hR⟩ : ∃ R, d.contains s.toList = R := ⟨_, rfl⟩
  rw [hR]
  have HR := Lib.hid hR
  have HX := Lib.hid hx
  clear h hR hx
  go_enter Tryz.func131, Tryz.ntmps131
  go_wp2
  go_loopg [5] d.length (fun g u5 wx => ∃ k : Nat, u5 = .int .i64 (k : Int) ∧ k + g = d.length ∧ R = (d.drop k).contains s.toList ∧ wx = w)
  case atStart => exact ⟨0, rfl, by omega, by rw [List.drop_zero]; exact HR.out.symm, rfl⟩
  case round =>
    obtain ⟨k, rfl, hk, hv, rfl⟩ := hrel
    cases gk with
    | zero =>
      have hkl : k = d.length := by omega
      have hv2 : R = false := by rw [hv, hkl, List.drop_length]; rfl
      have l1 : ¬ ((k : Int) < (d.length : Int)) := by omega
      clear hv HX HR
      subst hv2
      go_wp2
      go_ret
      exact ⟨rfl, rfl⟩
    | succ g =>
      have hlt : k < d.length := by omega
      rcases HX.out with h0 | ⟨b, off, rfl, hcap, hx⟩
      · omega
      · have c1 := hx k hlt
        rw [drop_contains hlt] at hv
        have l0 : (0 : Int) ≤ (k : Int) := by omega
        have l1 : (k : Int) < (d.length : Int) := by omega
        obtain ⟨t, ht⟩ : ∃ t : ByteArray, (⟨d[k].toArray⟩ : ByteArray) = t := ⟨_, rfl⟩
        have htl : t.toList = d[k] := by rw [← ht, bytes_of]
        rw [← htl] at hv
        unfold sV at c1
        rw [ht] at c1
        obtain ⟨k1, hk1⟩ : ∃ k1, k + 1 = k1 := ⟨_, rfl⟩
        have wk : IntKind.i64.wrap ((k : Int) + 1) = (k1 : Int) := by rw [show (k : Int) + 1 = (k1 : Int) by omega]; exact wrap_nat (by omega)
        rw [hk1] at hv
        have hcm : (s.toList == t.toList) = (t.toList == s.toList) := by rw [Bool.eq_iff_iff, beq_iff_eq, beq_iff_eq]; exact ⟨Eq.symm, Eq.symm⟩
        rw [hcm] at hv
        have HK1 := Lib.hid hk1
        clear hx HX ht htl hk1 HR hcm
        obtain ⟨c, hc⟩ : ∃ c, (t.toList == s.toList) = c := ⟨_, rfl⟩
        rw [hc] at hv
        cases c
        · have HV := Lib.hid hv
          clear hv
          go_wp2
          go_roundg g
          case measure => exact Nat.lt_succ_self _
          case rel => exact ⟨k1, rfl, by have := HK1.out; omega, by rw [HV.out, Bool.false_or], rfl⟩
        · rw [Bool.true_or] at hv
          subst hv
          go_wp2
          go_ret
          exact ⟨rfl, rfl⟩

theorem new_texts (w : World) (d : List Tx) (e : TypeId) : SRT (w.alloc (.cells (d.map sV).toArray e)) (.slice (some ⟨w.heap.size, 0, none⟩) d.length d.length) d := by
  refine .inr ⟨w.heap.size, 0, d.length, rfl, Nat.le_refl _, fun i x hi => ?_⟩
  have hb : (w.alloc (.cells (d.map sV).toArray e)).heap[w.heap.size]? = some (.cells (d.map sV).toArray e) := by show (w.heap.push _)[w.heap.size]? = _; simp
  rw [World.cell?, hb]
  simp [hi]
theorem rkeys_any (w : World) : Calls Tryz.prog 166 #[] w fun e w' => ∃ v, e = .returned v ∧ SRT w' v keysL ∧ Below w.heap.size w w' := by
  go_enter Tryz.func166, Tryz.ntmps166
  go_wp2
  go_ret
  exact ⟨_, rfl, new_texts w keysL _, below_new _ _⟩
set_option maxHeartbeats 2000000 in
theorem rpart_any (v : Value) (l : List Tok) (i : Nat) (w : World) (h : TR w v l) (hl : l.length ≤ 1000000) :
    Calls Tryz.prog 133 #[v, .int .i64 (i : Int)] w fun e w' => e = .returned (.bool (partB l i)) ∧ Below w.heap.size w w' := by
  obtain ⟨a, cap, rfl, hx⟩ := tr_at h
  clear h
  have l0 : (0 : Int) ≤ (i : Int) := by omega
  by_cases hi : i < l.length
  · rcases hx with h0 | ⟨g, off, rfl, hcap, hx⟩
    · omega
    · obtain ⟨x1, x2⟩ := hx i hi
      have l1 : (i : Int) < (l.length : Int) := by omega
      rw [partB_in hi]
      generalize l[i] = t at *
      obtain ⟨kd, tx, ta⟩ := t
      simp only at x1 x2 ⊢
      clear hx hi
      by_cases h2 : kd = 2
      · subst h2
        go_enter Tryz.func133, Tryz.ntmps133
        go_wp2
        go_quiet (fail)
        go_wp2
        go_ret
        exact ⟨rfl, rfl, rfl, rfl, Nat.le_refl _, fun _ _ => rfl⟩
      · have k2 : (kd == (2 : Int)) = false := by rw [beq_eq_false_iff_ne]; exact h2
        rw [k2]
        by_cases h1 : kd = 1
        · subst h1
          clear h2 k2
          rw [Bool.false_or, show ((1 : Int) == 1) = true from rfl, Bool.true_and]
          obtain ⟨c, hc⟩ : ∃ c, keysL.contains tx.toList = c := ⟨_, rfl⟩
          have hin := fun vk W hk => rin_any vk keysL tx W hk (by decide)
          simp only [hc] at hin
          rw [hc]
          clear hc
          go_enter Tryz.func133, Tryz.ntmps133
          go_wp2
          refine wp_region_held_drew (S := (fun w' : World => w'.cell? ⟨g, off + i * 3, none⟩ = some (.int .i64 1) ∧ w'.cell? ⟨g, off + i * 3 + 1, none⟩ = some (.string tx) ∧ Below w.heap.size w w')) (by kernel_rfl) ?_ (fun hS => ?_)
          · exact ⟨x1, x2, ⟨rfl, rfl, rfl, Nat.le_refl _, fun _ _ => rfl⟩⟩
          try dsimp only at hS
          refine wpAnyH_take (i := 0) (v := ?_) rfl (by kernel_rfl) (by kernel_rfl) (by kernel_rfl) (fun _ _ _ h => h) (Or.inl ⟨by kernel_rfl, ?_⟩) hS ?_
          rotate_left
          · intro wz hSz; try dsimp only at hSz
            go_simp
            all_goals with_reducible rfl
          try simp only [Act.put, List.getElem_toArray, List.getElem_cons_succ, List.getElem_cons_zero, List.setIfInBounds_toArray, List.set_cons_zero, List.set_cons_succ]
          refine wpAnyH_take (i := 1) (v := ?_) rfl (by kernel_rfl) (by kernel_rfl) (by kernel_rfl) (fun _ _ _ h => h) (Or.inl ⟨by kernel_rfl, ?_⟩) hS ?_
          rotate_left
          · intro wz hSz; try dsimp only at hSz
            go_simp
            all_goals with_reducible rfl
          try simp only [Act.put, List.getElem_toArray, List.getElem_cons_succ, List.getElem_cons_zero, List.setIfInBounds_toArray, List.set_cons_zero, List.set_cons_succ]
          refine wpAnyH_take (i := 2) (v := ?_) rfl (by kernel_rfl) (by kernel_rfl) (by kernel_rfl) (fun _ _ _ h => h) (Or.inl ⟨by kernel_rfl, ?_⟩) hS ?_
          rotate_left
          · intro wz hSz; try dsimp only at hSz
            go_simp
            all_goals with_reducible rfl
          try simp only [Act.put, List.getElem_toArray, List.getElem_cons_succ, List.getElem_cons_zero, List.setIfInBounds_toArray, List.set_cons_zero, List.set_cons_succ]
          refine wpAnyH_take (i := 3) (v := ?_) rfl (by kernel_rfl) (by kernel_rfl) (by kernel_rfl) (fun _ _ _ h => h) (Or.inl ⟨by kernel_rfl, ?_⟩) hS ?_
          rotate_left
          · intro wz hSz; try dsimp only at hSz
            go_simp
            all_goals with_reducible rfl
          try simp only [Act.put, List.getElem_toArray, List.getElem_cons_succ, List.getElem_cons_zero, List.setIfInBounds_toArray, List.set_cons_zero, List.set_cons_succ]
          refine wpAnyH_take (i := 4) (v := ?_) rfl (by kernel_rfl) (by kernel_rfl) (by kernel_rfl) (fun _ _ _ h => h) (Or.inl ⟨by kernel_rfl, ?_⟩) hS ?_
          rotate_left
          · intro wz hSz; try dsimp only at hSz
            go_simp
            all_goals with_reducible rfl
          try simp only [Act.put, List.getElem_toArray, List.getElem_cons_succ, List.getElem_cons_zero, List.setIfInBounds_toArray, List.set_cons_zero, List.set_cons_succ]
          refine wpAnyH_take (i := 5) (v := ?_) rfl (by kernel_rfl) (by kernel_rfl) (by kernel_rfl) (fun _ _ _ h => h) (Or.inl ⟨by kernel_rfl, ?_⟩) hS ?_
          rotate_left
          · intro wz hSz; try dsimp only at hSz
            go_simp
            all_goals with_reducible rfl
          try simp only [Act.put, List.getElem_toArray, List.getElem_cons_succ, List.getElem_cons_zero, List.setIfInBounds_toArray, List.set_cons_zero, List.set_cons_succ]
          refine wpAnyH_take (i := 6) (v := ?_) rfl (by kernel_rfl) (by kernel_rfl) (by kernel_rfl) (fun _ _ _ h => h) (Or.inl ⟨by kernel_rfl, ?_⟩) hS ?_
          rotate_left
          · intro wz hSz; try dsimp only at hSz
            go_simp
            all_goals with_reducible rfl
          try simp only [Act.put, List.getElem_toArray, List.getElem_cons_succ, List.getElem_cons_zero, List.setIfInBounds_toArray, List.set_cons_zero, List.set_cons_succ]
          refine wpAnyH_take (i := 7) (v := ?_) rfl (by kernel_rfl) (by kernel_rfl) (by kernel_rfl) (fun _ _ _ h => h) (Or.inl ⟨by kernel_rfl, ?_⟩) hS ?_
          rotate_left
          · intro wz hSz; try dsimp only at hSz
            go_simp
            all_goals with_reducible rfl
          try simp only [Act.put, List.getElem_toArray, List.getElem_cons_succ, List.getElem_cons_zero, List.setIfInBounds_toArray, List.set_cons_zero, List.set_cons_succ]
          refine wpAnyH_take (i := 8) (v := ?_) rfl (by kernel_rfl) (by kernel_rfl) (by kernel_rfl) (fun _ _ _ h => h) (Or.inl ⟨by kernel_rfl, ?_⟩) hS ?_
          rotate_left
          · intro wz hSz; try dsimp only at hSz
            go_simp
            all_goals with_reducible rfl
          try simp only [Act.put, List.getElem_toArray, List.getElem_cons_succ, List.getElem_cons_zero, List.setIfInBounds_toArray, List.set_cons_zero, List.set_cons_succ]
          refine wpAnyH_take (i := 9) (v := ?_) rfl (by kernel_rfl) (by kernel_rfl) (by kernel_rfl) (fun _ _ _ h => h) (Or.inl ⟨by kernel_rfl, ?_⟩) hS ?_
          rotate_left
          · intro wz hSz; try dsimp only at hSz
            go_simp
            all_goals with_reducible rfl
          try simp only [Act.put, List.getElem_toArray, List.getElem_cons_succ, List.getElem_cons_zero, List.setIfInBounds_toArray, List.set_cons_zero, List.set_cons_succ]
          refine wpAnyH_take (i := 10) (v := ?_) rfl (by kernel_rfl) (by kernel_rfl) (by kernel_rfl) (fun _ _ _ h => h) (Or.inl ⟨by kernel_rfl, ?_⟩) hS ?_
          rotate_left
          · intro wz hSz; try dsimp only at hSz
            go_simp
            all_goals with_reducible rfl
          try simp only [Act.put, List.getElem_toArray, List.getElem_cons_succ, List.getElem_cons_zero, List.setIfInBounds_toArray, List.set_cons_zero, List.set_cons_succ]
          refine wpAnyH_take (i := 11) (v := ?_) rfl (by kernel_rfl) (by kernel_rfl) (by kernel_rfl) (fun _ _ _ h => h) (Or.inl ⟨by kernel_rfl, ?_⟩) hS ?_
          rotate_left
          · intro wz hSz; try dsimp only at hSz
            go_simp
            all_goals with_reducible rfl
          try simp only [Act.put, List.getElem_toArray, List.getElem_cons_succ, List.getElem_cons_zero, List.setIfInBounds_toArray, List.set_cons_zero, List.set_cons_succ]
          refine wpAnyH_take (i := 12) (v := ?_) rfl (by kernel_rfl) (by kernel_rfl) (by kernel_rfl) (fun _ _ _ h => h) (Or.inl ⟨by kernel_rfl, ?_⟩) hS ?_
          rotate_left
          · intro wz hSz; try dsimp only at hSz
            go_simp
            all_goals with_reducible rfl
          try simp only [Act.put, List.getElem_toArray, List.getElem_cons_succ, List.getElem_cons_zero, List.setIfInBounds_toArray, List.set_cons_zero, List.set_cons_succ]
          refine wpAnyH_take (i := 13) (v := ?_) rfl (by kernel_rfl) (by kernel_rfl) (by kernel_rfl) (fun _ _ _ h => h) (Or.inl ⟨by kernel_rfl, ?_⟩) hS ?_
          rotate_left
          · intro wz hSz; try dsimp only at hSz
            go_simp
            all_goals with_reducible rfl
          try simp only [Act.put, List.getElem_toArray, List.getElem_cons_succ, List.getElem_cons_zero, List.setIfInBounds_toArray, List.set_cons_zero, List.set_cons_succ]
          refine wpAnyH_take (i := 14) (v := ?_) rfl (by kernel_rfl) (by kernel_rfl) (by kernel_rfl) (fun _ _ _ h => h) (Or.inl ⟨by kernel_rfl, ?_⟩) hS ?_
          rotate_left
          · intro wz hSz; try dsimp only at hSz
            go_simp
            all_goals with_reducible rfl
          try simp only [Act.put, List.getElem_toArray, List.getElem_cons_succ, List.getElem_cons_zero, List.setIfInBounds_toArray, List.set_cons_zero, List.set_cons_succ]
          refine wpAnyH_take (i := 15) (v := ?_) rfl (by kernel_rfl) (by kernel_rfl) (by kernel_rfl) (fun _ _ _ h => h) (Or.inl ⟨by kernel_rfl, ?_⟩) hS ?_
          rotate_left
          · intro wz hSz; try dsimp only at hSz
            go_simp
            all_goals with_reducible rfl
          try simp only [Act.put, List.getElem_toArray, List.getElem_cons_succ, List.getElem_cons_zero, List.setIfInBounds_toArray, List.set_cons_zero, List.set_cons_succ]
          refine wpAnyH_take (i := 16) (v := ?_) rfl (by kernel_rfl) (by kernel_rfl) (by kernel_rfl) (fun _ _ _ h => h) (Or.inl ⟨by kernel_rfl, ?_⟩) hS ?_
          rotate_left
          · intro wz hSz; try dsimp only at hSz
            go_simp
            all_goals with_reducible rfl
          try simp only [Act.put, List.getElem_toArray, List.getElem_cons_succ, List.getElem_cons_zero, List.setIfInBounds_toArray, List.set_cons_zero, List.set_cons_succ]
          refine wpAnyH_take (i := 17) (v := ?_) rfl (by kernel_rfl) (by kernel_rfl) (by kernel_rfl) (fun _ _ _ h => h) (Or.inl ⟨by kernel_rfl, ?_⟩) hS ?_
          rotate_left
          · intro wz hSz; try dsimp only at hSz
            go_simp
            all_goals with_reducible rfl
          try simp only [Act.put, List.getElem_toArray, List.getElem_cons_succ, List.getElem_cons_zero, List.setIfInBounds_toArray, List.set_cons_zero, List.set_cons_succ]
          refine wpAnyH_take (i := 18) (v := ?_) rfl (by kernel_rfl) (by kernel_rfl) (by kernel_rfl) (fun _ _ _ h => h) (Or.inl ⟨by kernel_rfl, ?_⟩) hS ?_
          rotate_left
          · intro wz hSz; try dsimp only at hSz
            go_simp
            all_goals with_reducible rfl
          try simp only [Act.put, List.getElem_toArray, List.getElem_cons_succ, List.getElem_cons_zero, List.setIfInBounds_toArray, List.set_cons_zero, List.set_cons_succ]
          refine wpAnyH_take (i := 20) (v := ?_) rfl (by kernel_rfl) (by kernel_rfl) (by kernel_rfl) (fun _ _ _ h => h) (Or.inl ⟨by kernel_rfl, ?_⟩) hS ?_
          rotate_left
          · intro wz hSz; try dsimp only at hSz
            go_simp
            all_goals with_reducible rfl
          try simp only [Act.put, List.getElem_toArray, List.getElem_cons_succ, List.getElem_cons_zero, List.setIfInBounds_toArray, List.set_cons_zero, List.set_cons_succ]
          refine wpAnyH_take (i := 21) (v := ?_) rfl (by kernel_rfl) (by kernel_rfl) (by kernel_rfl) (fun _ _ _ h => h) (Or.inl ⟨by kernel_rfl, ?_⟩) hS ?_
          rotate_left
          · intro wz hSz; try dsimp only at hSz
            go_simp
            all_goals with_reducible rfl
          try simp only [Act.put, List.getElem_toArray, List.getElem_cons_succ, List.getElem_cons_zero, List.setIfInBounds_toArray, List.set_cons_zero, List.set_cons_succ]
          refine wpAnyH_take (i := 22) (v := ?_) rfl (by kernel_rfl) (by kernel_rfl) (by kernel_rfl) (fun _ _ _ h => h) (Or.inl ⟨by kernel_rfl, ?_⟩) hS ?_
          rotate_left
          · intro wz hSz; try dsimp only at hSz
            go_simp
            all_goals with_reducible rfl
          try simp only [Act.put, List.getElem_toArray, List.getElem_cons_succ, List.getElem_cons_zero, List.setIfInBounds_toArray, List.set_cons_zero, List.set_cons_succ]
          refine wpAnyH_take (i := 23) (v := ?_) rfl (by kernel_rfl) (by kernel_rfl) (by kernel_rfl) (fun _ _ _ h => h) (Or.inl ⟨by kernel_rfl, ?_⟩) hS ?_
          rotate_left
          · intro wz hSz; try dsimp only at hSz
            go_simp
            all_goals with_reducible rfl
          try simp only [Act.put, List.getElem_toArray, List.getElem_cons_succ, List.getElem_cons_zero, List.setIfInBounds_toArray, List.set_cons_zero, List.set_cons_succ]
          refine wpAnyH_take (i := 24) (v := ?_) rfl (by kernel_rfl) (by kernel_rfl) (by kernel_rfl) (fun _ _ _ h => h) (Or.inl ⟨by kernel_rfl, ?_⟩) hS ?_
          rotate_left
          · intro wz hSz; try dsimp only at hSz
            go_simp
            all_goals with_reducible rfl
          try simp only [Act.put, List.getElem_toArray, List.getElem_cons_succ, List.getElem_cons_zero, List.setIfInBounds_toArray, List.set_cons_zero, List.set_cons_succ]
          refine wpAnyH_ready (rs := [19]) (by kernel_rfl) (by simp) (AllReadyH.cons rfl (fun K hK => ?_) AllReadyH.nil)
          go_simp
          go_at_call 166; refine (rkeys_any _).mono ?_; rintro e w2 ⟨vk, rfl, hk2, hb2⟩
          refine hK.out _ _ ?_ (fun hSn => ?_)
          · exact ⟨(hb2.cell (World.block_lt_of_cell? _ _ hS.1)).trans hS.1, (hb2.cell (World.block_lt_of_cell? _ _ hS.2.1)).trans hS.2.1, hS.2.2.trans (hb2.mono hS.2.2.size)⟩
          clear hK K hS
          have hS := hSn
          clear hSn
          try dsimp only at hS
          try simp only [Act.put, List.getElem_toArray, List.getElem_cons_succ, List.getElem_cons_zero, List.setIfInBounds_toArray, List.set_cons_zero, List.set_cons_succ]
          refine wpAnyH_ready (rs := [25]) (by kernel_rfl) (by simp) (AllReadyH.cons rfl (fun K hK => ?_) AllReadyH.nil)
          go_simp
          go_at_call 131; refine (hin vk _ hk2).mono ?_; rintro e w3 ⟨rfl, rfl⟩
          refine hK.out _ _ ?_ (fun hSn => ?_)
          · exact hS
          clear hK K hS
          have hS := hSn
          clear hSn
          try dsimp only at hS
          try simp only [Act.put, List.getElem_toArray, List.getElem_cons_succ, List.getElem_cons_zero, List.setIfInBounds_toArray, List.set_cons_zero, List.set_cons_succ]
          refine wpAnyH_take (i := 26) (v := ?_) rfl (by kernel_rfl) (by kernel_rfl) (by kernel_rfl) (fun _ _ _ h => h) (Or.inl ⟨by kernel_rfl, ?_⟩) hS ?_
          rotate_left
          · intro wz hSz; try dsimp only at hSz
            go_simp
            all_goals with_reducible rfl
          try simp only [Act.put, List.getElem_toArray, List.getElem_cons_succ, List.getElem_cons_zero, List.setIfInBounds_toArray, List.set_cons_zero, List.set_cons_succ]
          refine wpAnyH_take (i := 27) (v := ?_) rfl (by kernel_rfl) (by kernel_rfl) (by kernel_rfl) (fun _ _ _ h => h) (Or.inl ⟨by kernel_rfl, ?_⟩) hS ?_
          rotate_left
          · intro wz hSz; try dsimp only at hSz
            go_simp
            all_goals with_reducible rfl
          try simp only [Act.put, List.getElem_toArray, List.getElem_cons_succ, List.getElem_cons_zero, List.setIfInBounds_toArray, List.set_cons_zero, List.set_cons_succ]
          refine wpAnyH_take (i := 28) (v := ?_) rfl (by kernel_rfl) (by kernel_rfl) (by kernel_rfl) (fun _ _ _ h => h) (Or.inl ⟨by kernel_rfl, ?_⟩) hS ?_
          rotate_left
          · intro wz hSz; try dsimp only at hSz
            go_simp
            all_goals with_reducible rfl
          try simp only [Act.put, List.getElem_toArray, List.getElem_cons_succ, List.getElem_cons_zero, List.setIfInBounds_toArray, List.set_cons_zero, List.set_cons_succ]
          refine wpAnyH_take (i := 29) (v := ?_) rfl (by kernel_rfl) (by kernel_rfl) (by kernel_rfl) (fun _ _ _ h => h) (Or.inl ⟨by kernel_rfl, ?_⟩) hS ?_
          rotate_left
          · intro wz hSz; try dsimp only at hSz
            go_simp
            all_goals with_reducible rfl
          try simp only [Act.put, List.getElem_toArray, List.getElem_cons_succ, List.getElem_cons_zero, List.setIfInBounds_toArray, List.set_cons_zero, List.set_cons_succ]
          refine wpAnyH_take (i := 30) (v := ?_) rfl (by kernel_rfl) (by kernel_rfl) (by kernel_rfl) (fun _ _ _ h => h) (Or.inl ⟨by kernel_rfl, ?_⟩) hS ?_
          rotate_left
          · intro wz hSz; try dsimp only at hSz
            go_simp
            all_goals with_reducible rfl
          try simp only [Act.put, List.getElem_toArray, List.getElem_cons_succ, List.getElem_cons_zero, List.setIfInBounds_toArray, List.set_cons_zero, List.set_cons_succ]
          refine wpAnyH_done (by kernel_rfl) ?_ _
          go_wp2
          go_ret
          exact ⟨rfl, hS.2.2⟩
        · have k1 : (kd == (1 : Int)) = false := by rw [beq_eq_false_iff_ne]; exact h1
          rw [k1]
          clear h1 h2
          go_enter Tryz.func133, Tryz.ntmps133
          go_wp2
          go_quiet (fail)
          go_wp2
          go_ret
          exact ⟨rfl, rfl, rfl, rfl, Nat.le_refl _, fun _ _ => rfl⟩
  · have l1 : ¬ ((i : Int) < (l.length : Int)) := by omega
    have ld : decide (i < l.length) = false := by rw [decide_eq_false_iff_not]; exact hi
    rw [partB_out hi]
    clear hx hi
    go_enter Tryz.func133, Tryz.ntmps133
    go_wp2
    go_quiet (fail)
    go_wp2
    go_ret
    exact ⟨rfl, rfl, rfl, rfl, Nat.le_refl _, fun _ _ => rfl⟩

def NameP (l : List Tok) (i : Nat) (w : World) (e : Ending) (w' : World) : Prop :=
  (∃ s : ByteArray, e = .returned (.tuple #[.string s, .int .i64 ((i + nameW l i : Nat) : Int)]) ∧ (nameW l i ≠ 0 → s.toList = nameX l i)) ∧ Below w.heap.size w w'
set_option maxHeartbeats 2000000 in
theorem rname_any (v : Value) (l : List Tok) (i : Nat) (w : World) (h : TR w v l) (hl : l.length ≤ 1000000) (hi : i ≤ 1000000) (hz : ∀ t ∈ l, t.2.1.size ≤ 1000000000) :
    Calls Tryz.prog 132 #[v, .int .i64 (i : Int)] w (NameP l i w) := by
  have hp1 : ∀ W, Below w.heap.size w W → Calls Tryz.prog 133 #[v, .int .i64 (i : Int)] W fun e w' => e = .returned (.bool (partB l i)) ∧ Below w.heap.size w w' := fun W hW =>
    (rpart_any v l i W (h.below hW) hl).mono fun e w' h2 => ⟨h2.1, hW.trans (h2.2.mono hW.size)⟩
  obtain ⟨i1, hi1⟩ : ∃ i1, i + 1 = i1 := ⟨_, rfl⟩
  obtain ⟨i2, hi2⟩ : ∃ i2, i + 2 = i2 := ⟨_, rfl⟩
  obtain ⟨i3, hi3⟩ : ∃ i3, i + 3 = i3 := ⟨_, rfl⟩
  have hp2 : ∀ W, Below w.heap.size w W → Calls Tryz.prog 133 #[v, .int .i64 (i2 : Int)] W fun e w' => e = .returned (.bool (partB l i2)) ∧ Below w.heap.size w w' := fun W hW =>
    (rpart_any v l i2 W (h.below hW) hl).mono fun e w' h2 => ⟨h2.1, hW.trans (h2.2.mono hW.size)⟩
  have hs1 : ∀ W, Below w.heap.size w W → Calls Tryz.prog 134 #[v, .int .i64 (i1 : Int), .string ⟨#[46]⟩] W fun e w' => e = .returned (.bool (isTok 5 [[46]] l i1)) ∧ w' = W := fun W hW => by
    have := rssign_any v l i1 ⟨#[46]⟩ W (h.below hW) (by omega)
    rwa [show [(⟨#[46]⟩ : ByteArray).toList] = [[46]] by rw [Lib.toList_data]] at this
  have w1 : IntKind.i64.wrap ((i : Int) + 1) = (i1 : Int) := by rw [show (i : Int) + 1 = (i1 : Int) by omega]; exact wrap_nat (by omega)
  have w2 : IntKind.i64.wrap ((i : Int) + 2) = (i2 : Int) := by rw [show (i : Int) + 2 = (i2 : Int) by omega]; exact wrap_nat (by omega)
  have w3 : IntKind.i64.wrap ((i : Int) + 3) = (i3 : Int) := by rw [show (i : Int) + 3 = (i3 : Int) by omega]; exact wrap_nat (by omega)
  have hn : nameW l i = if partB l i = false then 0 else if (isTok 5 [[46]] l i1 && partB l i2) = true then 3 else 1 := by rw [← hi1, ← hi2]; rfl
  have hx : nameX l i = if nameW l i = 3 then txtAt l i ++ [46] ++ txtAt l i2 else txtAt l i := by rw [← hi2]; rfl
  have hpi : partB l i = true → i < l.length := partB_lt
  have hpi2 : partB l i2 = true → i2 < l.length := partB_lt
  obtain ⟨a, cap, rfl, hcx⟩ := tr_at h
  have htx : ∀ k (hk : k < l.length), l[k].2.1.toList = txtAt l k := fun k hk => by unfold txtAt; rw [List.getElem?_eq_getElem hk]
  have hzz : ∀ k (hk : k < l.length), l[k].2.1.size ≤ 1000000000 := fun k hk => hz _ (List.getElem_mem hk)
  have hcell : ∀ k, k < l.length → ∃ s : ByteArray, s.toList = txtAt l k ∧ s.size ≤ 1000000000 ∧ ∃ g off, a = some ⟨g, off, none⟩ ∧ l.length ≤ cap ∧ ∀ W, Below w.heap.size w W → W.cell? ⟨g, off + k * 3 + 1, none⟩ = some (.string s) := fun k hk => by
    rcases hcx with h0 | ⟨g, off, e, hc, hx⟩
    · omega
    · refine ⟨_, htx k hk, hzz k hk, g, off, e, hc, fun W hW => ?_⟩
      have := (hx k hk).2
      exact (hW.cell (World.block_lt_of_cell? _ _ this)).trans this
  have HP1 := Lib.hid hp1
  have HP2 := Lib.hid hp2
  have HS1 := Lib.hid hs1
  have HCELL := Lib.hid hcell
  have HX := Lib.hid hx
  have HN := Lib.hid hn
  have H1 := Lib.hid (And.intro hi1 (And.intro hi2 hi3))
  have HPI := Lib.hid hpi
  have HPI2 := Lib.hid hpi2
  clear hp1 hp2 hs1 hcell hx hn hi1 hi2 hi3 hpi hpi2 htx hzz hcx h hz
  generalize partB l i = p at *
  generalize isTok 5 [[46]] l i1 = q at *
  generalize partB l i2 = r at *
  have l0 : (0 : Int) ≤ (i : Int) := by omega
  cases p
  · have e0 : nameW l i = 0 := by rw [HN.out]; rfl
    unfold NameP
    rw [e0, Nat.add_zero]
    clear HX HN HPI
    go_enter Tryz.func132, Tryz.ntmps132
    go_wp2_with (go_at_call 133; (with_reducible refine (HP1.out _ (Below.refl _ _)).mono ?_); rintro e w4 ⟨rfl, hb4⟩)
    go_ret2
    exact ⟨⟨_, rfl, fun h => absurd rfl h⟩, hb4⟩
  · obtain ⟨s, hs, hsz, g, off, rfl, hcap, hc⟩ := HCELL.out i (HPI.out rfl)
    have hil := HPI.out rfl
    have l1 : (i : Int) < (l.length : Int) := by omega
    have HC := Lib.hid hc
    have HSS := Lib.hid hs
    clear hc hs hil HPI
    cases q
    · have e1 : nameW l i = 1 := by rw [HN.out]; rfl
      have ex : nameX l i = txtAt l i := by rw [HX.out, e1, if_neg (by decide)]
      unfold NameP
      rw [e1, ex]
      have ei : i + 1 = i1 := H1.out.1
      rw [ei]
      have HEI := Lib.hid ei
      clear HX HN HP2 HPI2 HCELL ei e1 ex H1
      go_enter Tryz.func132, Tryz.ntmps132
      go_wp2_with (first
        | (go_at_call 133; (with_reducible refine (HP1.out _ (Below.refl _ _)).mono ?_); rintro e w4 ⟨rfl, hb4⟩; have HB4 := Lib.hid hb4; have c4 := HC.out _ hb4; clear hb4)
        | (go_at_call 134; (with_reducible refine (HS1.out _ HB4.out).mono ?_); rintro e w5 ⟨rfl, rfl⟩))
      go_ret2
      exact ⟨⟨_, rfl, fun _ => HSS.out⟩, HB4.out⟩
    · cases r
      · have e1 : nameW l i = 1 := by rw [HN.out]; rfl
        have ex : nameX l i = txtAt l i := by rw [HX.out, e1, if_neg (by decide)]
        unfold NameP
        rw [e1, ex]
        have ei : i + 1 = i1 := H1.out.1
        rw [ei]
        have HEI := Lib.hid ei
        clear HX HN HPI2 HCELL ei e1 ex H1
        go_enter Tryz.func132, Tryz.ntmps132
        go_wp2_with (first
          | (go_at_call 133; (with_reducible refine (HP1.out _ (Below.refl _ _)).mono ?_); rintro e w4 ⟨rfl, hb4⟩; have HB4 := Lib.hid hb4; clear hb4)
          | (go_at_call 133; (with_reducible refine (HP2.out _ HB4.out).mono ?_); rintro e w6 ⟨rfl, hb6⟩; have HB6 := Lib.hid hb6; have c6 := HC.out _ hb6; clear hb6)
          | (go_at_call 134; (with_reducible refine (HS1.out _ HB4.out).mono ?_); rintro e w5 ⟨rfl, rfl⟩))
        go_ret2
        exact ⟨⟨_, rfl, fun _ => HSS.out⟩, HB6.out⟩
      · have e1 : nameW l i = 3 := by rw [HN.out]; rfl
        have ex : nameX l i = txtAt l i ++ [46] ++ txtAt l i2 := by rw [HX.out, e1, if_pos rfl]
        obtain ⟨s2, hs2, hsz2, g2, off2, eg, _, hc2⟩ := HCELL.out i2 (HPI2.out rfl)
        injection eg with eg
        injection eg with eg1 eg2
        subst eg1 eg2
        have hil2 := HPI2.out rfl
        have l2 : (i2 : Int) < (l.length : Int) := by omega
        have l3 : (0 : Int) ≤ (i2 : Int) := by omega
        unfold NameP
        rw [e1, ex]
        have ei : i + 3 = i3 := H1.out.2.2
        rw [ei]
        have HC2 := Lib.hid hc2
        have HSS2 := Lib.hid hs2
        clear HX HN HPI2 HCELL ei e1 ex H1 hc2 hs2 hil2
        go_enter Tryz.func132, Tryz.ntmps132
        go_wp2_with (first
          | (go_at_call 133; (with_reducible refine (HP1.out _ (Below.refl _ _)).mono ?_); rintro e w4 ⟨rfl, hb4⟩; have HB4 := Lib.hid hb4; clear hb4)
          | (go_at_call 133; (with_reducible refine (HP2.out _ HB4.out).mono ?_); rintro e w6 ⟨rfl, hb6⟩; have HB6 := Lib.hid hb6; have c6 := HC.out _ hb6; have c7 := HC2.out _ hb6; clear hb6)
          | (go_at_call 134; (with_reducible refine (HS1.out _ HB4.out).mono ?_); rintro e w5 ⟨rfl, rfl⟩))
        go_quiet (fail)
        go_wp2
        go_ret2
        refine ⟨⟨_, rfl, fun _ => ?_⟩, HB6.out.trans ⟨rfl, rfl, rfl, Nat.le_refl _, fun _ _ => rfl⟩⟩
        simp only [Lib.toList_data, ByteArray.data_append, Array.toList_append] at *
        rw [← HSS.out, ← HSS2.out]

structure NJ (w : World) (B : Nat) (d : List Tx) (vo : Value) (W : World) : Prop where
  bel : Below w.heap.size w W
  own : W.ownsRow B 9 1 vo d.length (d.map sV)
theorem NJ.step {w W W2 : World} {B : Nat} {d : List Tx} {vo : Value} (h : NJ w B d vo W) (b : Below W.heap.size W W2) : NJ w B d vo W2 := ⟨h.bel.trans (b.mono h.bel.size), ownsRow_below h.own b⟩
theorem NJ.form {w W : World} {B : Nat} {d : List Tx} {vo : Value} (h : NJ w B d vo W) : ∃ a cap, vo = .slice a d.length cap := by
  rcases h.own.2 with ⟨rfl, hz⟩ | ⟨g, cap, cur, rfl, _⟩
  · exact ⟨none, 0, by rw [hz]⟩
  · exact ⟨_, _, rfl⟩
theorem NJ.push {w W W1 : World} {B g cap : Nat} {d : List Tx} {s : ByteArray} {vs : Value} {x : Tx} (h : NJ w B d vs W) (hB : w.heap.size ≤ B) (hs : s.toList = x)
    (hown : W1.ownsRow B 9 1 (.slice (some ⟨g, 0, none⟩) (d.length + 1) cap) (d.length + 1) (d.map sV ++ [.string s])) (hg : W.grownBy W1 vs.ownBlock) :
    NJ w B (d ++ [x]) (.slice (some ⟨g, 0, none⟩) (d.length + 1) cap) W1 := by
  refine ⟨h.bel.grown hg h.bel.size fun k hk => Nat.le_trans hB (World.ownsRow.lt h.own k hk).1, ?_⟩
  have e1 : (d ++ [x]).map sV = d.map sV ++ [.string s] := by
    rw [List.map_append, List.map_cons, List.map_nil]
    have : (⟨x.toArray⟩ : ByteArray) = s := bytes_inj (by rw [bytes_of, hs])
    rw [← this]
  rw [List.length_append, List.length_singleton, e1]
  exact hown
theorem tok_two (l : List Tok) (i : Nat) (x y : Tx) : isTok 1 [x, y] l i = (isTok 1 [x] l i || isTok 1 [y] l i) := by
  unfold isTok
  split
  · simp only [List.contains_cons, List.contains_nil, Bool.or_false, Bool.and_or_distrib_left]
  · rfl
def FromP (w : World) (R : List Tx) (e : Ending) (w' : World) : Prop := ∃ vo, e = .returned vo ∧ NJ w w.heap.size R vo w'
set_option maxHeartbeats 8000000 in
theorem rfrom_any (v : Value) (l : List Tok) (i : Nat) (w : World) (h : TR w v l) (hl : l.length ≤ 900000) (hi : i ≤ l.length) (hz : ∀ t ∈ l, t.2.1.size ≤ 1000000000) :
    Calls Tryz.prog 100 #[v, .int .i64 (i : Int)] w (FromP w ((fromL l i).map (·.1))) := by
  obtain ⟨R, hR⟩ : ∃ R, (fromL l i).map (·.1) = R := ⟨_, rfl⟩
  rw [hR]
  obtain ⟨i0, hi0, hz0, hz1, hz2⟩ := info_parts info9
  have HH := Lib.hid h
  have HZ := Lib.hid hz
  have HR := Lib.hid hR
  have HS := Lib.hid (NJ.mk (Below.refl w.heap.size w) (World.ownsRow_nil w w.heap.size 9 1) : NJ w w.heap.size [] (.slice none 0 0) w)
  clear h hz hR
  go_enter Tryz.func100, Tryz.ntmps100
  go_wp2
  go_loopg [1, 5] (l.length + 1) (fun g u1 u5 wx => ∃ (k : Nat) (d : List Tx), u1 = .int .i64 (k : Int) ∧ k ≤ l.length ∧ l.length - k + 1 ≤ g ∧ NJ w w.heap.size d u5 wx ∧ d.length + (l.length - k) ≤ l.length ∧ R = d ++ (fromL l k).map (·.1))
  case atStart => exact ⟨i, [], rfl, hi, by omega, HS.out, by simp, by rw [List.nil_append]; exact HR.out.symm⟩
  case round =>
    obtain ⟨k, d, rfl, hk, hg, hJ, hdk, hv⟩ := hrel
    obtain ⟨a5, c5, rfl⟩ := hJ.form
    have HJ := Lib.hid hJ
    have HV := Lib.hid hv
    have HDK := Lib.hid hdk
    have hT : ∀ W, Below w.heap.size w W → TR W v l := fun W hW => HH.out.below hW
    have HT := Lib.hid hT
    clear hJ hv hdk HR HS hT
    have hwo := rword_any v l k ⟨#[111, 110, 108, 121]⟩ wr (HT.out _ HJ.out.bel) (by omega)
    have hwt := rword_any v l k ⟨#[116, 97, 98, 108, 101]⟩ wr (HT.out _ HJ.out.bel) (by omega)
    rw [show [(⟨#[111, 110, 108, 121]⟩ : ByteArray).toList] = [w_only] by rw [Lib.toList_data]; rfl] at hwo
    rw [show [(⟨#[116, 97, 98, 108, 101]⟩ : ByteArray).toList] = [w_table] by rw [Lib.toList_data]; rfl] at hwt
    obtain ⟨j, hj⟩ : ∃ j, skipB l k = j := ⟨_, rfl⟩
    obtain ⟨n, hn⟩ : ∃ n, nameW l j = n := ⟨_, rfl⟩
    have hjk := skip_le l k
    rw [hj] at hjk
    have hjd : j = if (isTok 1 [w_only] l k || isTok 1 [w_table] l k) = true then k + 1 else k := by rw [← hj, skipB, tok_two]
    have hnm := rname_any v l j wr (HT.out _ HJ.out.bel) (by omega) (by omega) HZ.out
    unfold NameP at hnm
    have hE := fromL_eq l k
    obtain ⟨jn, hjn⟩ : ∃ jn, j + n = jn := ⟨_, rfl⟩
    rw [hn, hjn] at hnm
    rw [hj, hn, hjn] at hE
    have hjw : j = k + 1 → IntKind.i64.wrap ((k : Int) + 1) = (j : Int) := fun e => by rw [show (k : Int) + 1 = (j : Int) by omega]; exact wrap_nat (by omega)
    have hnw : n ≠ 0 → jn ≤ l.length ∧ 1 ≤ n := fun e => by have := nameW_lt (l := l) (i := j) (by rw [hn]; exact e); rw [hn] at this; omega
    generalize isTok 1 [w_only] l k = bo at *
    generalize isTok 1 [w_table] l k = bt at *
    have HWO := Lib.hid hwo
    have HWT := Lib.hid hwt
    have HNM := Lib.hid hnm
    have HE := Lib.hid hE
    have HJK := Lib.hid hjk
    have HJN := Lib.hid hjn
    clear hwo hwt hnm hE hjk hj hn
    by_cases hn0 : n = 0
    · have hv2 : R = d := by rw [HV.out, HE.out, if_pos hn0]; simp
      have hjj : j = jn := by rw [← hjn, hn0, Nat.add_zero]
      clear hjn hnw
      subst hjj hn0
      have HV2 := Lib.hid hv2
      clear hv2 HE HV
      cases bo
      · cases bt
        · have hje : j = k := by rw [hjd]; rfl
          subst hje
          clear hjw hjd
          go_wp2_with (first
          | (go_at_call 98; (with_reducible refine HWO.out.mono ?_); rintro e w2 ⟨rfl, rfl⟩)
          | (go_at_call 98; (with_reducible refine HWT.out.mono ?_); rintro e w3 ⟨rfl, rfl⟩)
          | (go_at_call 132; (with_reducible refine HNM.out.mono ?_); rintro e w4 ⟨⟨s, rfl, hs⟩, hb4⟩; have HB4 := Lib.hid hb4; have HSX := Lib.hid hs; have HJ4 := Lib.hid (HJ.out.step hb4); clear hs hb4))
          go_ret
          exact ⟨_, rfl, by rw [HV2.out]; exact HJ4.out⟩
        · have hje : j = k + 1 := by rw [hjd]; rfl
          have hw := hjw hje
          clear hjw hjd hje
          go_wp2_with (first
          | (go_at_call 98; (with_reducible refine HWO.out.mono ?_); rintro e w2 ⟨rfl, rfl⟩)
          | (go_at_call 98; (with_reducible refine HWT.out.mono ?_); rintro e w3 ⟨rfl, rfl⟩)
          | (go_at_call 132; (with_reducible refine HNM.out.mono ?_); rintro e w4 ⟨⟨s, rfl, hs⟩, hb4⟩; have HB4 := Lib.hid hb4; have HSX := Lib.hid hs; have HJ4 := Lib.hid (HJ.out.step hb4); clear hs hb4))
          go_ret
          exact ⟨_, rfl, by rw [HV2.out]; exact HJ4.out⟩
      · have hje : j = k + 1 := by rw [hjd]; rfl
        have hw := hjw hje
        clear hjw hjd hje
        go_wp2_with (first
          | (go_at_call 98; (with_reducible refine HWO.out.mono ?_); rintro e w2 ⟨rfl, rfl⟩)
          | (go_at_call 98; (with_reducible refine HWT.out.mono ?_); rintro e w3 ⟨rfl, rfl⟩)
          | (go_at_call 132; (with_reducible refine HNM.out.mono ?_); rintro e w4 ⟨⟨s, rfl, hs⟩, hb4⟩; have HB4 := Lib.hid hb4; have HSX := Lib.hid hs; have HJ4 := Lib.hid (HJ.out.step hb4); clear hs hb4))
        go_ret
        exact ⟨_, rfl, by rw [HV2.out]; exact HJ4.out⟩
    · have en : ((jn : Int) == (j : Int)) = false := by rw [beq_eq_false_iff_ne]; omega
      obtain ⟨hjl, hn1⟩ := hnw hn0
      have HJL := Lib.hid hjl
      obtain ⟨t, ht⟩ : ∃ t, asB l jn = t := ⟨_, rfl⟩
      obtain ⟨q, hq⟩ : ∃ q, aliasB l jn = q := ⟨_, rfl⟩
      obtain ⟨q1, hq1⟩ : ∃ q1, q + 1 = q1 := ⟨_, rfl⟩
      have htd : t = if isTok 1 [w_as] l jn = true then jn + 1 else jn := by rw [← ht]; rfl
      have hqd : q = if partB l t = true then t + 1 else t := by rw [← hq, ← ht]; rfl
      have has : ∀ W, Below w.heap.size w W → Calls Tryz.prog 98 #[v, .int .i64 (jn : Int), .string ⟨#[97, 115]⟩] W fun e w' => e = .returned (.bool (isTok 1 [w_as] l jn)) ∧ w' = W := fun W hW => by
        have := rword_any v l jn ⟨#[97, 115]⟩ W (HT.out _ hW) (by omega)
        rwa [show [(⟨#[97, 115]⟩ : ByteArray).toList] = [w_as] by rw [Lib.toList_data]; rfl] at this
      have hpt : ∀ W, Calls Tryz.prog 133 #[v, .int .i64 (t : Int)] W (fun e w' => e = .returned (.bool (partB l t)) ∧ Below W.heap.size W w') ∨ ¬ Below w.heap.size w W := fun W => by
        by_cases hW : Below w.heap.size w W
        · exact .inl (rpart_any v l t W (HT.out _ hW) (by omega))
        · exact .inr hW
      have hsg : ∀ W, Below w.heap.size w W → Calls Tryz.prog 134 #[v, .int .i64 (q : Int), .string ⟨#[44]⟩] W fun e w' => e = .returned (.bool (commaB l q)) ∧ w' = W := fun W hW => by
        have := rssign_any v l q ⟨#[44]⟩ W (HT.out _ hW) (by omega)
        rwa [show [(⟨#[44]⟩ : ByteArray).toList] = [[44]] by rw [Lib.toList_data]] at this
      have hqk := alias_le l jn
      rw [hq] at hqk
      have hv1 : R = d ++ nameX l j :: (if commaB l q = true then (fromL l q1).map (·.1) else []) := by
        rw [HV.out, HE.out, if_neg hn0, hq, hq1]
        cases commaB l q <;> simp
      have htw : t = jn + 1 → IntKind.i64.wrap ((jn : Int) + 1) = (t : Int) := fun e => by rw [show (jn : Int) + 1 = (t : Int) by omega]; exact wrap_nat (by omega)
      have hqw : q = t + 1 → IntKind.i64.wrap ((t : Int) + 1) = (q : Int) := fun e => by rw [show (t : Int) + 1 = (q : Int) by omega]; exact wrap_nat (by omega)
      have hq1w : IntKind.i64.wrap ((q : Int) + 1) = (q1 : Int) := by rw [show (q : Int) + 1 = (q1 : Int) by omega]; exact wrap_nat (by omega)
      have hcl : commaB l q = true → q < l.length := isTok_lt
      generalize isTok 1 [w_as] l jn = bas at *
      generalize partB l t = bp at *
      generalize commaB l q = bc at *
      have HAS := Lib.hid has
      have HPT := Lib.hid hpt
      have HSG := Lib.hid hsg
      have HV1 := Lib.hid hv1
      have HQK := Lib.hid hqk
      have HQ1 := Lib.hid hq1
      have HTD := Lib.hid htd
      have HQD := Lib.hid hqd
      have HTW := Lib.hid htw
      have HQW := Lib.hid hqw
      have HCL := Lib.hid hcl
      clear has hpt hsg hv1 hqk hq1 htd hqd htw hqw ht hq hcl HE HV
      cases bo
      · cases bt
        · have hje : j = k := by rw [hjd]; rfl
          subst hje
          clear hjw hjd
          go_wp2_with (first
          | (go_at_call 98; (with_reducible refine HWO.out.mono ?_); rintro e w2 ⟨rfl, rfl⟩)
          | (go_at_call 98; (with_reducible refine HWT.out.mono ?_); rintro e w3 ⟨rfl, rfl⟩)
          | (go_at_call 132; (with_reducible refine HNM.out.mono ?_); rintro e w4 ⟨⟨s, rfl, hs⟩, hb4⟩; have HB4 := Lib.hid hb4; have HSX := Lib.hid hs; have HJ4 := Lib.hid (HJ.out.step hb4); clear hs hb4)
          | (at_builtin; refine wpList_append_lies _ rfl _ _ 56 rfl w.heap.size 9 i0 (.string ByteArray.empty) 1 16 und26 hi0 hz0 hz1 hz2 rfl (by decide) _ d.length (d.map sV) rfl (HJ4.out.own.alloc _) ⟨w4.heap.size, 0, none⟩ 1 1 [.string s] rfl rfl ?c1 ?c2 (by decide) ?c3 ?c4 ?c5 _ rfl ?_))
          case c1 =>
            intro j u hj
            match j, hj with
            | 0, hj => simp at hj; subst hj; simp [Addr.add]
          case c2 => intro u hu; simp at hu; subst hu; rfl
          case c3 => have := HDK.out; unfold maxLen; omega
          case c4 => have := HDK.out; omega
          case c5 => have := HJ4.out.bel.size; simp; omega
          intro g cap W1 hown hgrow hat hlt
          have hJ5 := NJ.push (HJ4.out.step (below_new _ _)) (Nat.le_refl _) (HSX.out (by omega)) hown hgrow
          have HJ5 := Lib.hid hJ5
          have HPT1 := Lib.hid ((HPT.out W1).resolve_right (fun h => h HJ5.out.bel))
          clear hJ5 hown hgrow hat hlt HPT
          cases bas
          · obtain rfl : t = jn := by rw [HTD.out]; rfl
            clear HTW HTD
            cases bp
            · obtain rfl : q = t := by rw [HQD.out]; rfl
              clear HQW HQD
              cases bc
              · have hv6 := HV1.out
                have HV6 := Lib.hid hv6
                clear hv6 HV1
                go_wp2_with (first
                  | (go_at_call 98; (with_reducible refine (HAS.out _ HJ5.out.bel).mono ?_); rintro e w6 ⟨rfl, rfl⟩)
                  | (go_at_call 133; (with_reducible refine HPT1.out.mono ?_); rintro e w7 ⟨rfl, hb7⟩; have HJ7 := Lib.hid (HJ5.out.step hb7); clear hb7)
                  | (go_at_call 134; (with_reducible refine (HSG.out _ HJ7.out.bel).mono ?_); rintro e w8 ⟨rfl, rfl⟩))
                go_ret
                exact ⟨_, rfl, by rw [HV6.out]; exact HJ7.out⟩
              · have hv6 := HV1.out
                have HV6 := Lib.hid hv6
                clear hv6 HV1
                obtain ⟨g2, rfl⟩ : ∃ g2, gk = g2 + 1 := ⟨gk - 1, by omega⟩
                go_wp2_with (first
                  | (go_at_call 98; (with_reducible refine (HAS.out _ HJ5.out.bel).mono ?_); rintro e w6 ⟨rfl, rfl⟩)
                  | (go_at_call 133; (with_reducible refine HPT1.out.mono ?_); rintro e w7 ⟨rfl, hb7⟩; have HJ7 := Lib.hid (HJ5.out.step hb7); clear hb7)
                  | (go_at_call 134; (with_reducible refine (HSG.out _ HJ7.out.bel).mono ?_); rintro e w8 ⟨rfl, rfl⟩))
                go_roundg g2
                case measure => exact Nat.lt_succ_self _
                case rel =>
                  have r1 := HV6.out
                  have r2 := HQK.out
                  have r3 := HJN.out
                  have r4 := HQ1.out
                  have r5 := HJK.out
                  have r6 := HDK.out
                  have r7 := HCL.out (by first | rfl | trivial)
                  clear HWO HWT HNM HAS HPT1 HSG
                  refine ⟨q1, d ++ [nameX l j], rfl, by omega, by omega, by simpa using HJ7.out, by rw [List.length_append, List.length_singleton]; omega, ?_⟩
                  rw [r1]; simp
            · have hw6 := HQW.out (by rw [HQD.out]; rfl)
              clear HQW HQD
              cases bc
              · have hv6 := HV1.out
                have HV6 := Lib.hid hv6
                clear hv6 HV1
                go_wp2_with (first
                  | (go_at_call 98; (with_reducible refine (HAS.out _ HJ5.out.bel).mono ?_); rintro e w6 ⟨rfl, rfl⟩)
                  | (go_at_call 133; (with_reducible refine HPT1.out.mono ?_); rintro e w7 ⟨rfl, hb7⟩; have HJ7 := Lib.hid (HJ5.out.step hb7); clear hb7)
                  | (go_at_call 134; (with_reducible refine (HSG.out _ HJ7.out.bel).mono ?_); rintro e w8 ⟨rfl, rfl⟩))
                go_ret
                exact ⟨_, rfl, by rw [HV6.out]; exact HJ7.out⟩
              · have hv6 := HV1.out
                have HV6 := Lib.hid hv6
                clear hv6 HV1
                obtain ⟨g2, rfl⟩ : ∃ g2, gk = g2 + 1 := ⟨gk - 1, by omega⟩
                go_wp2_with (first
                  | (go_at_call 98; (with_reducible refine (HAS.out _ HJ5.out.bel).mono ?_); rintro e w6 ⟨rfl, rfl⟩)
                  | (go_at_call 133; (with_reducible refine HPT1.out.mono ?_); rintro e w7 ⟨rfl, hb7⟩; have HJ7 := Lib.hid (HJ5.out.step hb7); clear hb7)
                  | (go_at_call 134; (with_reducible refine (HSG.out _ HJ7.out.bel).mono ?_); rintro e w8 ⟨rfl, rfl⟩))
                go_roundg g2
                case measure => exact Nat.lt_succ_self _
                case rel =>
                  have r1 := HV6.out
                  have r2 := HQK.out
                  have r3 := HJN.out
                  have r4 := HQ1.out
                  have r5 := HJK.out
                  have r6 := HDK.out
                  have r7 := HCL.out (by first | rfl | trivial)
                  clear HWO HWT HNM HAS HPT1 HSG
                  refine ⟨q1, d ++ [nameX l j], rfl, by omega, by omega, by simpa using HJ7.out, by rw [List.length_append, List.length_singleton]; omega, ?_⟩
                  rw [r1]; simp
          · have hw5 := HTW.out (by rw [HTD.out]; rfl)
            clear HTW HTD
            cases bp
            · obtain rfl : q = t := by rw [HQD.out]; rfl
              clear HQW HQD
              cases bc
              · have hv6 := HV1.out
                have HV6 := Lib.hid hv6
                clear hv6 HV1
                go_wp2_with (first
                  | (go_at_call 98; (with_reducible refine (HAS.out _ HJ5.out.bel).mono ?_); rintro e w6 ⟨rfl, rfl⟩)
                  | (go_at_call 133; (with_reducible refine HPT1.out.mono ?_); rintro e w7 ⟨rfl, hb7⟩; have HJ7 := Lib.hid (HJ5.out.step hb7); clear hb7)
                  | (go_at_call 134; (with_reducible refine (HSG.out _ HJ7.out.bel).mono ?_); rintro e w8 ⟨rfl, rfl⟩))
                go_ret
                exact ⟨_, rfl, by rw [HV6.out]; exact HJ7.out⟩
              · have hv6 := HV1.out
                have HV6 := Lib.hid hv6
                clear hv6 HV1
                obtain ⟨g2, rfl⟩ : ∃ g2, gk = g2 + 1 := ⟨gk - 1, by omega⟩
                go_wp2_with (first
                  | (go_at_call 98; (with_reducible refine (HAS.out _ HJ5.out.bel).mono ?_); rintro e w6 ⟨rfl, rfl⟩)
                  | (go_at_call 133; (with_reducible refine HPT1.out.mono ?_); rintro e w7 ⟨rfl, hb7⟩; have HJ7 := Lib.hid (HJ5.out.step hb7); clear hb7)
                  | (go_at_call 134; (with_reducible refine (HSG.out _ HJ7.out.bel).mono ?_); rintro e w8 ⟨rfl, rfl⟩))
                go_roundg g2
                case measure => exact Nat.lt_succ_self _
                case rel =>
                  have r1 := HV6.out
                  have r2 := HQK.out
                  have r3 := HJN.out
                  have r4 := HQ1.out
                  have r5 := HJK.out
                  have r6 := HDK.out
                  have r7 := HCL.out (by first | rfl | trivial)
                  clear HWO HWT HNM HAS HPT1 HSG
                  refine ⟨q1, d ++ [nameX l j], rfl, by omega, by omega, by simpa using HJ7.out, by rw [List.length_append, List.length_singleton]; omega, ?_⟩
                  rw [r1]; simp
            · have hw6 := HQW.out (by rw [HQD.out]; rfl)
              clear HQW HQD
              cases bc
              · have hv6 := HV1.out
                have HV6 := Lib.hid hv6
                clear hv6 HV1
                go_wp2_with (first
                  | (go_at_call 98; (with_reducible refine (HAS.out _ HJ5.out.bel).mono ?_); rintro e w6 ⟨rfl, rfl⟩)
                  | (go_at_call 133; (with_reducible refine HPT1.out.mono ?_); rintro e w7 ⟨rfl, hb7⟩; have HJ7 := Lib.hid (HJ5.out.step hb7); clear hb7)
                  | (go_at_call 134; (with_reducible refine (HSG.out _ HJ7.out.bel).mono ?_); rintro e w8 ⟨rfl, rfl⟩))
                go_ret
                exact ⟨_, rfl, by rw [HV6.out]; exact HJ7.out⟩
              · have hv6 := HV1.out
                have HV6 := Lib.hid hv6
                clear hv6 HV1
                obtain ⟨g2, rfl⟩ : ∃ g2, gk = g2 + 1 := ⟨gk - 1, by omega⟩
                go_wp2_with (first
                  | (go_at_call 98; (with_reducible refine (HAS.out _ HJ5.out.bel).mono ?_); rintro e w6 ⟨rfl, rfl⟩)
                  | (go_at_call 133; (with_reducible refine HPT1.out.mono ?_); rintro e w7 ⟨rfl, hb7⟩; have HJ7 := Lib.hid (HJ5.out.step hb7); clear hb7)
                  | (go_at_call 134; (with_reducible refine (HSG.out _ HJ7.out.bel).mono ?_); rintro e w8 ⟨rfl, rfl⟩))
                go_roundg g2
                case measure => exact Nat.lt_succ_self _
                case rel =>
                  have r1 := HV6.out
                  have r2 := HQK.out
                  have r3 := HJN.out
                  have r4 := HQ1.out
                  have r5 := HJK.out
                  have r6 := HDK.out
                  have r7 := HCL.out (by first | rfl | trivial)
                  clear HWO HWT HNM HAS HPT1 HSG
                  refine ⟨q1, d ++ [nameX l j], rfl, by omega, by omega, by simpa using HJ7.out, by rw [List.length_append, List.length_singleton]; omega, ?_⟩
                  rw [r1]; simp
        · have hje : j = k + 1 := by rw [hjd]; rfl
          have hw := hjw hje
          clear hjw hjd hje
          go_wp2_with (first
          | (go_at_call 98; (with_reducible refine HWO.out.mono ?_); rintro e w2 ⟨rfl, rfl⟩)
          | (go_at_call 98; (with_reducible refine HWT.out.mono ?_); rintro e w3 ⟨rfl, rfl⟩)
          | (go_at_call 132; (with_reducible refine HNM.out.mono ?_); rintro e w4 ⟨⟨s, rfl, hs⟩, hb4⟩; have HB4 := Lib.hid hb4; have HSX := Lib.hid hs; have HJ4 := Lib.hid (HJ.out.step hb4); clear hs hb4)
          | (at_builtin; refine wpList_append_lies _ rfl _ _ 56 rfl w.heap.size 9 i0 (.string ByteArray.empty) 1 16 und26 hi0 hz0 hz1 hz2 rfl (by decide) _ d.length (d.map sV) rfl (HJ4.out.own.alloc _) ⟨w4.heap.size, 0, none⟩ 1 1 [.string s] rfl rfl ?c1 ?c2 (by decide) ?c3 ?c4 ?c5 _ rfl ?_))
          case c1 =>
            intro j u hj
            match j, hj with
            | 0, hj => simp at hj; subst hj; simp [Addr.add]
          case c2 => intro u hu; simp at hu; subst hu; rfl
          case c3 => have := HDK.out; unfold maxLen; omega
          case c4 => have := HDK.out; omega
          case c5 => have := HJ4.out.bel.size; simp; omega
          intro g cap W1 hown hgrow hat hlt
          have hJ5 := NJ.push (HJ4.out.step (below_new _ _)) (Nat.le_refl _) (HSX.out (by omega)) hown hgrow
          have HJ5 := Lib.hid hJ5
          have HPT1 := Lib.hid ((HPT.out W1).resolve_right (fun h => h HJ5.out.bel))
          clear hJ5 hown hgrow hat hlt HPT
          cases bas
          · obtain rfl : t = jn := by rw [HTD.out]; rfl
            clear HTW HTD
            cases bp
            · obtain rfl : q = t := by rw [HQD.out]; rfl
              clear HQW HQD
              cases bc
              · have hv6 := HV1.out
                have HV6 := Lib.hid hv6
                clear hv6 HV1
                go_wp2_with (first
                  | (go_at_call 98; (with_reducible refine (HAS.out _ HJ5.out.bel).mono ?_); rintro e w6 ⟨rfl, rfl⟩)
                  | (go_at_call 133; (with_reducible refine HPT1.out.mono ?_); rintro e w7 ⟨rfl, hb7⟩; have HJ7 := Lib.hid (HJ5.out.step hb7); clear hb7)
                  | (go_at_call 134; (with_reducible refine (HSG.out _ HJ7.out.bel).mono ?_); rintro e w8 ⟨rfl, rfl⟩))
                go_ret
                exact ⟨_, rfl, by rw [HV6.out]; exact HJ7.out⟩
              · have hv6 := HV1.out
                have HV6 := Lib.hid hv6
                clear hv6 HV1
                obtain ⟨g2, rfl⟩ : ∃ g2, gk = g2 + 1 := ⟨gk - 1, by omega⟩
                go_wp2_with (first
                  | (go_at_call 98; (with_reducible refine (HAS.out _ HJ5.out.bel).mono ?_); rintro e w6 ⟨rfl, rfl⟩)
                  | (go_at_call 133; (with_reducible refine HPT1.out.mono ?_); rintro e w7 ⟨rfl, hb7⟩; have HJ7 := Lib.hid (HJ5.out.step hb7); clear hb7)
                  | (go_at_call 134; (with_reducible refine (HSG.out _ HJ7.out.bel).mono ?_); rintro e w8 ⟨rfl, rfl⟩))
                go_roundg g2
                case measure => exact Nat.lt_succ_self _
                case rel =>
                  have r1 := HV6.out
                  have r2 := HQK.out
                  have r3 := HJN.out
                  have r4 := HQ1.out
                  have r5 := HJK.out
                  have r6 := HDK.out
                  have r7 := HCL.out (by first | rfl | trivial)
                  clear HWO HWT HNM HAS HPT1 HSG
                  refine ⟨q1, d ++ [nameX l j], rfl, by omega, by omega, by simpa using HJ7.out, by rw [List.length_append, List.length_singleton]; omega, ?_⟩
                  rw [r1]; simp
            · have hw6 := HQW.out (by rw [HQD.out]; rfl)
              clear HQW HQD
              cases bc
              · have hv6 := HV1.out
                have HV6 := Lib.hid hv6
                clear hv6 HV1
                go_wp2_with (first
                  | (go_at_call 98; (with_reducible refine (HAS.out _ HJ5.out.bel).mono ?_); rintro e w6 ⟨rfl, rfl⟩)
                  | (go_at_call 133; (with_reducible refine HPT1.out.mono ?_); rintro e w7 ⟨rfl, hb7⟩; have HJ7 := Lib.hid (HJ5.out.step hb7); clear hb7)
                  | (go_at_call 134; (with_reducible refine (HSG.out _ HJ7.out.bel).mono ?_); rintro e w8 ⟨rfl, rfl⟩))
                go_ret
                exact ⟨_, rfl, by rw [HV6.out]; exact HJ7.out⟩
              · have hv6 := HV1.out
                have HV6 := Lib.hid hv6
                clear hv6 HV1
                obtain ⟨g2, rfl⟩ : ∃ g2, gk = g2 + 1 := ⟨gk - 1, by omega⟩
                go_wp2_with (first
                  | (go_at_call 98; (with_reducible refine (HAS.out _ HJ5.out.bel).mono ?_); rintro e w6 ⟨rfl, rfl⟩)
                  | (go_at_call 133; (with_reducible refine HPT1.out.mono ?_); rintro e w7 ⟨rfl, hb7⟩; have HJ7 := Lib.hid (HJ5.out.step hb7); clear hb7)
                  | (go_at_call 134; (with_reducible refine (HSG.out _ HJ7.out.bel).mono ?_); rintro e w8 ⟨rfl, rfl⟩))
                go_roundg g2
                case measure => exact Nat.lt_succ_self _
                case rel =>
                  have r1 := HV6.out
                  have r2 := HQK.out
                  have r3 := HJN.out
                  have r4 := HQ1.out
                  have r5 := HJK.out
                  have r6 := HDK.out
                  have r7 := HCL.out (by first | rfl | trivial)
                  clear HWO HWT HNM HAS HPT1 HSG
                  refine ⟨q1, d ++ [nameX l j], rfl, by omega, by omega, by simpa using HJ7.out, by rw [List.length_append, List.length_singleton]; omega, ?_⟩
                  rw [r1]; simp
          · have hw5 := HTW.out (by rw [HTD.out]; rfl)
            clear HTW HTD
            cases bp
            · obtain rfl : q = t := by rw [HQD.out]; rfl
              clear HQW HQD
              cases bc
              · have hv6 := HV1.out
                have HV6 := Lib.hid hv6
                clear hv6 HV1
                go_wp2_with (first
                  | (go_at_call 98; (with_reducible refine (HAS.out _ HJ5.out.bel).mono ?_); rintro e w6 ⟨rfl, rfl⟩)
                  | (go_at_call 133; (with_reducible refine HPT1.out.mono ?_); rintro e w7 ⟨rfl, hb7⟩; have HJ7 := Lib.hid (HJ5.out.step hb7); clear hb7)
                  | (go_at_call 134; (with_reducible refine (HSG.out _ HJ7.out.bel).mono ?_); rintro e w8 ⟨rfl, rfl⟩))
                go_ret
                exact ⟨_, rfl, by rw [HV6.out]; exact HJ7.out⟩
              · have hv6 := HV1.out
                have HV6 := Lib.hid hv6
                clear hv6 HV1
                obtain ⟨g2, rfl⟩ : ∃ g2, gk = g2 + 1 := ⟨gk - 1, by omega⟩
                go_wp2_with (first
                  | (go_at_call 98; (with_reducible refine (HAS.out _ HJ5.out.bel).mono ?_); rintro e w6 ⟨rfl, rfl⟩)
                  | (go_at_call 133; (with_reducible refine HPT1.out.mono ?_); rintro e w7 ⟨rfl, hb7⟩; have HJ7 := Lib.hid (HJ5.out.step hb7); clear hb7)
                  | (go_at_call 134; (with_reducible refine (HSG.out _ HJ7.out.bel).mono ?_); rintro e w8 ⟨rfl, rfl⟩))
                go_roundg g2
                case measure => exact Nat.lt_succ_self _
                case rel =>
                  have r1 := HV6.out
                  have r2 := HQK.out
                  have r3 := HJN.out
                  have r4 := HQ1.out
                  have r5 := HJK.out
                  have r6 := HDK.out
                  have r7 := HCL.out (by first | rfl | trivial)
                  clear HWO HWT HNM HAS HPT1 HSG
                  refine ⟨q1, d ++ [nameX l j], rfl, by omega, by omega, by simpa using HJ7.out, by rw [List.length_append, List.length_singleton]; omega, ?_⟩
                  rw [r1]; simp
            · have hw6 := HQW.out (by rw [HQD.out]; rfl)
              clear HQW HQD
              cases bc
              · have hv6 := HV1.out
                have HV6 := Lib.hid hv6
                clear hv6 HV1
                go_wp2_with (first
                  | (go_at_call 98; (with_reducible refine (HAS.out _ HJ5.out.bel).mono ?_); rintro e w6 ⟨rfl, rfl⟩)
                  | (go_at_call 133; (with_reducible refine HPT1.out.mono ?_); rintro e w7 ⟨rfl, hb7⟩; have HJ7 := Lib.hid (HJ5.out.step hb7); clear hb7)
                  | (go_at_call 134; (with_reducible refine (HSG.out _ HJ7.out.bel).mono ?_); rintro e w8 ⟨rfl, rfl⟩))
                go_ret
                exact ⟨_, rfl, by rw [HV6.out]; exact HJ7.out⟩
              · have hv6 := HV1.out
                have HV6 := Lib.hid hv6
                clear hv6 HV1
                obtain ⟨g2, rfl⟩ : ∃ g2, gk = g2 + 1 := ⟨gk - 1, by omega⟩
                go_wp2_with (first
                  | (go_at_call 98; (with_reducible refine (HAS.out _ HJ5.out.bel).mono ?_); rintro e w6 ⟨rfl, rfl⟩)
                  | (go_at_call 133; (with_reducible refine HPT1.out.mono ?_); rintro e w7 ⟨rfl, hb7⟩; have HJ7 := Lib.hid (HJ5.out.step hb7); clear hb7)
                  | (go_at_call 134; (with_reducible refine (HSG.out _ HJ7.out.bel).mono ?_); rintro e w8 ⟨rfl, rfl⟩))
                go_roundg g2
                case measure => exact Nat.lt_succ_self _
                case rel =>
                  have r1 := HV6.out
                  have r2 := HQK.out
                  have r3 := HJN.out
                  have r4 := HQ1.out
                  have r5 := HJK.out
                  have r6 := HDK.out
                  have r7 := HCL.out (by first | rfl | trivial)
                  clear HWO HWT HNM HAS HPT1 HSG
                  refine ⟨q1, d ++ [nameX l j], rfl, by omega, by omega, by simpa using HJ7.out, by rw [List.length_append, List.length_singleton]; omega, ?_⟩
                  rw [r1]; simp
      · have hje : j = k + 1 := by rw [hjd]; rfl
        have hw := hjw hje
        clear hjw hjd hje
        go_wp2_with (first
          | (go_at_call 98; (with_reducible refine HWO.out.mono ?_); rintro e w2 ⟨rfl, rfl⟩)
          | (go_at_call 98; (with_reducible refine HWT.out.mono ?_); rintro e w3 ⟨rfl, rfl⟩)
          | (go_at_call 132; (with_reducible refine HNM.out.mono ?_); rintro e w4 ⟨⟨s, rfl, hs⟩, hb4⟩; have HB4 := Lib.hid hb4; have HSX := Lib.hid hs; have HJ4 := Lib.hid (HJ.out.step hb4); clear hs hb4)
          | (at_builtin; refine wpList_append_lies _ rfl _ _ 56 rfl w.heap.size 9 i0 (.string ByteArray.empty) 1 16 und26 hi0 hz0 hz1 hz2 rfl (by decide) _ d.length (d.map sV) rfl (HJ4.out.own.alloc _) ⟨w4.heap.size, 0, none⟩ 1 1 [.string s] rfl rfl ?c1 ?c2 (by decide) ?c3 ?c4 ?c5 _ rfl ?_))
        case c1 =>
          intro j u hj
          match j, hj with
          | 0, hj => simp at hj; subst hj; simp [Addr.add]
        case c2 => intro u hu; simp at hu; subst hu; rfl
        case c3 => have := HDK.out; unfold maxLen; omega
        case c4 => have := HDK.out; omega
        case c5 => have := HJ4.out.bel.size; simp; omega
        intro g cap W1 hown hgrow hat hlt
        have hJ5 := NJ.push (HJ4.out.step (below_new _ _)) (Nat.le_refl _) (HSX.out (by omega)) hown hgrow
        have HJ5 := Lib.hid hJ5
        have HPT1 := Lib.hid ((HPT.out W1).resolve_right (fun h => h HJ5.out.bel))
        clear hJ5 hown hgrow hat hlt HPT
        cases bas
        · obtain rfl : t = jn := by rw [HTD.out]; rfl
          clear HTW HTD
          cases bp
          · obtain rfl : q = t := by rw [HQD.out]; rfl
            clear HQW HQD
            cases bc
            · have hv6 := HV1.out
              have HV6 := Lib.hid hv6
              clear hv6 HV1
              go_wp2_with (first
                | (go_at_call 98; (with_reducible refine (HAS.out _ HJ5.out.bel).mono ?_); rintro e w6 ⟨rfl, rfl⟩)
                | (go_at_call 133; (with_reducible refine HPT1.out.mono ?_); rintro e w7 ⟨rfl, hb7⟩; have HJ7 := Lib.hid (HJ5.out.step hb7); clear hb7)
                | (go_at_call 134; (with_reducible refine (HSG.out _ HJ7.out.bel).mono ?_); rintro e w8 ⟨rfl, rfl⟩))
              go_ret
              exact ⟨_, rfl, by rw [HV6.out]; exact HJ7.out⟩
            · have hv6 := HV1.out
              have HV6 := Lib.hid hv6
              clear hv6 HV1
              obtain ⟨g2, rfl⟩ : ∃ g2, gk = g2 + 1 := ⟨gk - 1, by omega⟩
              go_wp2_with (first
                | (go_at_call 98; (with_reducible refine (HAS.out _ HJ5.out.bel).mono ?_); rintro e w6 ⟨rfl, rfl⟩)
                | (go_at_call 133; (with_reducible refine HPT1.out.mono ?_); rintro e w7 ⟨rfl, hb7⟩; have HJ7 := Lib.hid (HJ5.out.step hb7); clear hb7)
                | (go_at_call 134; (with_reducible refine (HSG.out _ HJ7.out.bel).mono ?_); rintro e w8 ⟨rfl, rfl⟩))
              go_roundg g2
              case measure => exact Nat.lt_succ_self _
              case rel =>
                have r1 := HV6.out
                have r2 := HQK.out
                have r3 := HJN.out
                have r4 := HQ1.out
                have r5 := HJK.out
                have r6 := HDK.out
                have r7 := HCL.out (by first | rfl | trivial)
                clear HWO HWT HNM HAS HPT1 HSG
                refine ⟨q1, d ++ [nameX l j], rfl, by omega, by omega, by simpa using HJ7.out, by rw [List.length_append, List.length_singleton]; omega, ?_⟩
                rw [r1]; simp
          · have hw6 := HQW.out (by rw [HQD.out]; rfl)
            clear HQW HQD
            cases bc
            · have hv6 := HV1.out
              have HV6 := Lib.hid hv6
              clear hv6 HV1
              go_wp2_with (first
                | (go_at_call 98; (with_reducible refine (HAS.out _ HJ5.out.bel).mono ?_); rintro e w6 ⟨rfl, rfl⟩)
                | (go_at_call 133; (with_reducible refine HPT1.out.mono ?_); rintro e w7 ⟨rfl, hb7⟩; have HJ7 := Lib.hid (HJ5.out.step hb7); clear hb7)
                | (go_at_call 134; (with_reducible refine (HSG.out _ HJ7.out.bel).mono ?_); rintro e w8 ⟨rfl, rfl⟩))
              go_ret
              exact ⟨_, rfl, by rw [HV6.out]; exact HJ7.out⟩
            · have hv6 := HV1.out
              have HV6 := Lib.hid hv6
              clear hv6 HV1
              obtain ⟨g2, rfl⟩ : ∃ g2, gk = g2 + 1 := ⟨gk - 1, by omega⟩
              go_wp2_with (first
                | (go_at_call 98; (with_reducible refine (HAS.out _ HJ5.out.bel).mono ?_); rintro e w6 ⟨rfl, rfl⟩)
                | (go_at_call 133; (with_reducible refine HPT1.out.mono ?_); rintro e w7 ⟨rfl, hb7⟩; have HJ7 := Lib.hid (HJ5.out.step hb7); clear hb7)
                | (go_at_call 134; (with_reducible refine (HSG.out _ HJ7.out.bel).mono ?_); rintro e w8 ⟨rfl, rfl⟩))
              go_roundg g2
              case measure => exact Nat.lt_succ_self _
              case rel =>
                have r1 := HV6.out
                have r2 := HQK.out
                have r3 := HJN.out
                have r4 := HQ1.out
                have r5 := HJK.out
                have r6 := HDK.out
                have r7 := HCL.out (by first | rfl | trivial)
                clear HWO HWT HNM HAS HPT1 HSG
                refine ⟨q1, d ++ [nameX l j], rfl, by omega, by omega, by simpa using HJ7.out, by rw [List.length_append, List.length_singleton]; omega, ?_⟩
                rw [r1]; simp
        · have hw5 := HTW.out (by rw [HTD.out]; rfl)
          clear HTW HTD
          cases bp
          · obtain rfl : q = t := by rw [HQD.out]; rfl
            clear HQW HQD
            cases bc
            · have hv6 := HV1.out
              have HV6 := Lib.hid hv6
              clear hv6 HV1
              go_wp2_with (first
                | (go_at_call 98; (with_reducible refine (HAS.out _ HJ5.out.bel).mono ?_); rintro e w6 ⟨rfl, rfl⟩)
                | (go_at_call 133; (with_reducible refine HPT1.out.mono ?_); rintro e w7 ⟨rfl, hb7⟩; have HJ7 := Lib.hid (HJ5.out.step hb7); clear hb7)
                | (go_at_call 134; (with_reducible refine (HSG.out _ HJ7.out.bel).mono ?_); rintro e w8 ⟨rfl, rfl⟩))
              go_ret
              exact ⟨_, rfl, by rw [HV6.out]; exact HJ7.out⟩
            · have hv6 := HV1.out
              have HV6 := Lib.hid hv6
              clear hv6 HV1
              obtain ⟨g2, rfl⟩ : ∃ g2, gk = g2 + 1 := ⟨gk - 1, by omega⟩
              go_wp2_with (first
                | (go_at_call 98; (with_reducible refine (HAS.out _ HJ5.out.bel).mono ?_); rintro e w6 ⟨rfl, rfl⟩)
                | (go_at_call 133; (with_reducible refine HPT1.out.mono ?_); rintro e w7 ⟨rfl, hb7⟩; have HJ7 := Lib.hid (HJ5.out.step hb7); clear hb7)
                | (go_at_call 134; (with_reducible refine (HSG.out _ HJ7.out.bel).mono ?_); rintro e w8 ⟨rfl, rfl⟩))
              go_roundg g2
              case measure => exact Nat.lt_succ_self _
              case rel =>
                have r1 := HV6.out
                have r2 := HQK.out
                have r3 := HJN.out
                have r4 := HQ1.out
                have r5 := HJK.out
                have r6 := HDK.out
                have r7 := HCL.out (by first | rfl | trivial)
                clear HWO HWT HNM HAS HPT1 HSG
                refine ⟨q1, d ++ [nameX l j], rfl, by omega, by omega, by simpa using HJ7.out, by rw [List.length_append, List.length_singleton]; omega, ?_⟩
                rw [r1]; simp
          · have hw6 := HQW.out (by rw [HQD.out]; rfl)
            clear HQW HQD
            cases bc
            · have hv6 := HV1.out
              have HV6 := Lib.hid hv6
              clear hv6 HV1
              go_wp2_with (first
                | (go_at_call 98; (with_reducible refine (HAS.out _ HJ5.out.bel).mono ?_); rintro e w6 ⟨rfl, rfl⟩)
                | (go_at_call 133; (with_reducible refine HPT1.out.mono ?_); rintro e w7 ⟨rfl, hb7⟩; have HJ7 := Lib.hid (HJ5.out.step hb7); clear hb7)
                | (go_at_call 134; (with_reducible refine (HSG.out _ HJ7.out.bel).mono ?_); rintro e w8 ⟨rfl, rfl⟩))
              go_ret
              exact ⟨_, rfl, by rw [HV6.out]; exact HJ7.out⟩
            · have hv6 := HV1.out
              have HV6 := Lib.hid hv6
              clear hv6 HV1
              obtain ⟨g2, rfl⟩ : ∃ g2, gk = g2 + 1 := ⟨gk - 1, by omega⟩
              go_wp2_with (first
                | (go_at_call 98; (with_reducible refine (HAS.out _ HJ5.out.bel).mono ?_); rintro e w6 ⟨rfl, rfl⟩)
                | (go_at_call 133; (with_reducible refine HPT1.out.mono ?_); rintro e w7 ⟨rfl, hb7⟩; have HJ7 := Lib.hid (HJ5.out.step hb7); clear hb7)
                | (go_at_call 134; (with_reducible refine (HSG.out _ HJ7.out.bel).mono ?_); rintro e w8 ⟨rfl, rfl⟩))
              go_roundg g2
              case measure => exact Nat.lt_succ_self _
              case rel =>
                have r1 := HV6.out
                have r2 := HQK.out
                have r3 := HJN.out
                have r4 := HQ1.out
                have r5 := HJK.out
                have r6 := HDK.out
                have r7 := HCL.out (by first | rfl | trivial)
                clear HWO HWT HNM HAS HPT1 HSG
                refine ⟨q1, d ++ [nameX l j], rfl, by omega, by omega, by simpa using HJ7.out, by rw [List.length_append, List.length_singleton]; omega, ?_⟩
                rw [r1]; simp

theorem lt_both {x y : UInt8} {r t : Tx} : decide (x :: r < y :: t) = (if x = y then decide (r < t) else decide (x < y)) := by
  by_cases h : x = y
  · subst h
    rw [if_pos rfl]
    rw [Bool.eq_iff_iff, decide_eq_true_eq, decide_eq_true_eq, List.cons_lt_cons_iff]
    exact ⟨fun h => h.elim (fun h => absurd h (UInt8.lt_irrefl _)) And.right, fun h => .inr ⟨rfl, h⟩⟩
  · rw [if_neg h, Bool.eq_iff_iff, decide_eq_true_eq, decide_eq_true_eq, List.cons_lt_cons_iff]
    exact ⟨fun h2 => h2.elim id fun h3 => absurd h3.1 h, .inl⟩
theorem byte_dr (s : ByteArray) (i : Nat) (h : i < s.size) : s.toList.drop i = s[i] :: s.toList.drop (i + 1) := by
  rw [Lib.toList_data]
  have h2 : i < s.data.toList.length := by simpa using h
  rw [List.drop_eq_getElem_cons h2]
  congr 1
theorem drop_out (l : Tx) (k : Nat) (h : l.length ≤ k) : l.drop k = [] := by simp; omega
theorem len_dr (s : ByteArray) : s.toList.length = s.size := by rw [Lib.toList_data]; rfl
set_option maxHeartbeats 2000000 in
theorem rless_any (s t : ByteArray) (w : World) (hs : s.size ≤ 4000000000) (ht : t.size ≤ 4000000000) :
    Calls Tryz.prog 36 #[.string s, .string t] w fun e w' => e = .returned (.bool (decide (s.toList < t.toList))) ∧ ∃ n, w' = w.drewN n := by
  obtain ⟨R, hR⟩ : ∃ R, decide (s.toList < t.toList) = R := ⟨_, rfl⟩
  rw [hR]
  have HR := Lib.hid hR
  clear hR
  go_enter Tryz.func36, Tryz.ntmps36
  go_wp2
  go_loopg [5] s.size (fun g u5 wx => ∃ k : Nat, u5 = .int .i64 (k : Int) ∧ k + g = s.size ∧ k ≤ t.size ∧ R = decide (s.toList.drop k < t.toList.drop k) ∧ ∃ n, wx = w.drewN n)
  case atStart => exact ⟨0, rfl, by omega, Nat.zero_le _, HR.out.symm, 0, rfl⟩
  case round =>
    obtain ⟨k, rfl, hk, hkt, hv, n0, rfl⟩ := hrel
    have HV := Lib.hid hv
    clear hv HR
    have ls := len_dr s
    have lt := len_dr t
    have HLS := Lib.hid ls
    have HLT := Lib.hid lt
    clear ls lt
    by_cases h1 : k < s.size
    · have i1 : (k : Int) < (s.size : Int) := by omega
      by_cases h2 : k < t.size
      · have i2 : (k : Int) < (t.size : Int) := by omega
        have l0 : (0 : Int) ≤ (k : Int) := by omega
        obtain ⟨g, rfl⟩ : ∃ g, gk = g + 1 := ⟨gk - 1, by omega⟩
        have hv2 := HV.out
        rw [byte_dr s k h1, byte_dr t k h2, lt_both] at hv2
        obtain ⟨z, hz⟩ : ∃ z : Int, ((s[k]'h1).toNat : Int) = z := ⟨_, rfl⟩
        obtain ⟨y, hy⟩ : ∃ y : Int, ((t[k]'h2).toNat : Int) = y := ⟨_, rfl⟩
        have heq : s[k] = t[k] ↔ z = y := by
          rw [← hz, ← hy]
          exact ⟨fun h => by rw [h], fun h => UInt8.toNat_inj.1 (by omega)⟩
        have hlt : decide (s[k] < t[k]) = decide (z < y) := by
          rw [← hz, ← hy, Bool.eq_iff_iff, decide_eq_true_eq, decide_eq_true_eq, UInt8.lt_iff_toNat_lt]; omega
        obtain ⟨k1, hk1⟩ : ∃ k1, k + 1 = k1 := ⟨_, rfl⟩
        have wk : IntKind.i64.wrap ((k : Int) + 1) = (k1 : Int) := by rw [show (k : Int) + 1 = (k1 : Int) by omega]; exact wrap_nat (by omega)
        rw [hk1] at hv2
        by_cases hzy : z = y
        · rw [if_pos (heq.2 hzy)] at hv2
          have ne : (z != y) = false := by rw [bne_eq_false_iff_eq]; exact hzy
          have HV2 := Lib.hid hv2
          have HK1 := Lib.hid hk1
          have HH := Lib.hid h1
          have HH2 := Lib.hid h2
          subst hzy
          clear hv2 HV heq hlt hk1
          go_wp2
          go_quiet (fail)
          go_wp2
          go_roundg g
          case measure => exact Nat.lt_succ_self _
          case rel => exact ⟨k1, rfl, by have := HK1.out; omega, by have := HK1.out; have := HH2.out; omega, HV2.out, _, rfl⟩
        · rw [if_neg (fun h => hzy (heq.1 h)), hlt] at hv2
          have ne : (z != y) = true := by rw [bne_iff_ne]; exact hzy
          subst hv2
          clear HV heq hlt hzy hk1
          go_wp2
          go_quiet (fail)
          go_wp2
          go_quiet (fail)
          go_wp2
          go_ret
          refine ⟨rfl, ?_⟩
          rw [World.drewN_drewN, World.drewN_drewN]
          exact ⟨_, rfl⟩
      · have i2 : ¬ ((k : Int) < (t.size : Int)) := by omega
        have hv2 : R = false := by
          rw [HV.out, decide_eq_false_iff_not, drop_out t.toList k (by rw [HLT.out]; omega)]
          exact List.not_lt_nil _
        have hsz : decide ((s.size : Int) < (t.size : Int)) = false := by rw [decide_eq_false_iff_not]; omega
        have hszn : decide (s.size < t.size) = false := by rw [decide_eq_false_iff_not]; omega
        subst hv2
        clear HV
        go_wp2
        go_ret
        exact ⟨by simp [hszn], _, rfl⟩
    · have i1 : ¬ ((k : Int) < (s.size : Int)) := by omega
      have hks : k = s.size := by omega
      obtain ⟨c, hc⟩ : ∃ c, decide (s.size < t.size) = c := ⟨_, rfl⟩
      have hv2 : R = c := by
        rw [HV.out, ← hc, drop_out s.toList k (by rw [HLS.out]; omega)]
        by_cases h3 : s.size < t.size
        · rw [byte_dr t k (by omega), decide_eq_true h3]; simp
        · rw [drop_out t.toList k (by rw [HLT.out]; omega), decide_eq_false h3]; simp
      subst hv2
      clear HV hks
      go_wp2
      go_ret
      exact ⟨by simp [hc], _, rfl⟩
end Go.Proofs.YtjloookjlnmgdaaGreatDoor
