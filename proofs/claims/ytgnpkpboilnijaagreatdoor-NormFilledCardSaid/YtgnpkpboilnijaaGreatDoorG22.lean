/- What the document's own Form and param at layer 5 answer. Condition: how long a parameter's text.
   What the document's own Binds at layer 5 answers. Conditions: how many tokens, how long their texts. -/
import Derived.Test.YtgnpkpboilnijaaGreatDoorG21
set_option linter.unusedSimpArgs false
set_option linter.unusedVariables false
namespace Go.Proofs.YtgnpkpboilnijaaGreatDoor
open Go.ChangeShapes Go.WideShapes Go.ChangeAt Go.RowKit
set_option maxRecDepth 100000
set_option linter.unusedVariables false
set_option linter.unusedSimpArgs false

theorem rform_any (s : ByteArray) (w : World) :
    Calls Tryz.prog 10 #[.string s] w fun e w' => e = .returned (.tuple #[.string (bb (formA s).1), .int .i64 (formA s).2]) ∧ Below w.heap.size w w' := by
  have h1 : Calls Tryz.prog 18 #[.string s] w fun e w' => ∃ v, e = .returned (.tuple #[v, .int .i64 (scanA s).2.1, .int .i64 (scanA s).2.2]) ∧ TR w' v (scanA s).1 ∧ Below w.heap.size w w' := rscan_any s w
  have hct := scanA_count s
  have htx := scanA_txt s
  unfold formA
  generalize scanA s = R at *
  obtain ⟨l, er, ap⟩ := R
  simp only at hct htx h1 ⊢
  have H1 := Lib.hid h1
  have htk := fun v w1 (h : TR w1 v l) => rtokens_any v l w1 (by omega) (fun t ht => by have := htx t ht; omega) h
  have HTK := Lib.hid htk
  clear h1 htk htx
  by_cases he : er = 0
  · subst he
    rw [if_pos rfl]
    go_enter Tryz.func10, Tryz.ntmps10
    go_wp2_with fail
    refine H1.out.mono ?_
    rintro e w1 ⟨v1, rfl, ht1, hb1⟩
    have HT1 := Lib.hid ht1
    have HB1 := Lib.hid hb1
    clear ht1 hb1
    go_wp2_with (go_at_call 12; (with_reducible refine (HTK.out _ _ HT1.out).mono ?_); rintro e w2 ⟨rfl, hb2⟩)
    go_ret2
    exact ⟨rfl, HB1.out.trans (hb2.mono HB1.out.size)⟩
  · rw [if_neg he]
    have he2 : (er != (0 : Int)) = true := by rw [bne_iff_ne]; exact he
    clear he
    go_enter Tryz.func10, Tryz.ntmps10
    go_wp2_with fail
    refine H1.out.mono ?_
    rintro e w1 ⟨v1, rfl, ht1, hb1⟩
    have HB1 := Lib.hid hb1
    clear ht1 hb1
    go_wp2
    go_ret2
    exact ⟨rfl, HB1.out⟩
/-- a parameter's number as the document's param tells it -/
def parI (t : Tok) : Int := match parT t with | some n => (n : Int) | none => -1
theorem val_snoc (l : Tx) (c : UInt8) : valL (l ++ [c]) = 10 * valL l + (c.toNat - 48) := by
  unfold valL; rw [List.foldl_append]; rfl
theorem dig_le (c : UInt8) (h : digB c = true) : 48 ≤ c.toNat ∧ c.toNat ≤ 57 := by
  unfold digB digN at h
  rw [decide_eq_true_iff] at h
  omega
theorem val_fold : ∀ (l : Tx) (n : Nat), l.all digB = true → l.foldl (fun n c => 10 * n + (c.toNat - 48)) n < (n + 1) * 10 ^ l.length := by
  intro l
  induction l with
  | nil => intro n _; simp
  | cons c r ih =>
    intro n h
    rw [List.all_cons, Bool.and_eq_true] at h
    have h1 := ih (10 * n + (c.toNat - 48)) h.2
    have h3 := dig_le c h.1
    rw [List.foldl_cons, List.length_cons, Nat.pow_succ]
    have h4 : (10 * n + (c.toNat - 48) + 1) * 10 ^ r.length ≤ ((n + 1) * 10) * 10 ^ r.length := Nat.mul_le_mul_right _ (by omega)
    have h5 : (n + 1) * (10 ^ r.length * 10) = ((n + 1) * 10) * 10 ^ r.length := by rw [Nat.mul_comm (10 ^ r.length) 10, Nat.mul_assoc]
    omega
theorem val_lt (l : Tx) (h : l.all digB = true) (hl : l.length ≤ 9) : valL l < 1000000000 := by
  have h1 := val_fold l 0 h
  have h2 : 10 ^ l.length ≤ 10 ^ 9 := Nat.pow_le_pow_right (by decide) hl
  unfold valL
  omega
theorem dig_at (s : ByteArray) (i : Nat) (h0 : 1 ≤ i) (h : i < s.size) : (s.data.toList.drop 1).take (i - 1 + 1) = (s.data.toList.drop 1).take (i - 1) ++ [s[i]'h] := by
  have e : (s.data.toList.drop 1)[i - 1]? = some (s[i]'h) := by
    rw [List.getElem?_drop, show 1 + (i - 1) = i by omega]; exact last_get s i h
  rw [List.take_add_one, e]; rfl
theorem par_not (kd ta : Int) (tx : ByteArray) (h : ¬ (kd = 5 ∧ 2 ≤ tx.size ∧ tx.data.toList.headD 0 = 36)) : parI (kd, tx, ta) = -1 := by
  have e : parT (kd, tx, ta) = none := by
    unfold parT
    exact if_neg fun hh => h ⟨hh.1, hh.2.1, hh.2.2.1⟩
  unfold parI; rw [e]
theorem par_head (s : ByteArray) (h : 0 < s.size) : s.data.toList.headD 0 = s[0]'h := by
  have e := byte_at s 0 h
  rw [List.drop_zero] at e
  rw [e]; rfl
set_option maxHeartbeats 2000000 in
theorem rparam_any (kd ta : Int) (tx : ByteArray) (w : World) (hs : tx.size ≤ 1048576) :
    Calls Tryz.prog 28 #[.agg #[.int .i64 kd, .string tx, .int .i64 ta]] w fun e w' => e = .returned (.int .i64 (parI (kd, tx, ta))) ∧ Below w.heap.size w w' := by
  obtain ⟨Z, hZ⟩ : ∃ Z, parI (kd, tx, ta) = Z := ⟨_, rfl⟩
  rw [hZ]
  have hba := Lib.hid ((Below.refl w.heap.size w).alloc (Nat.le_refl _) (.cells #[.int .i64 kd, .string tx, .int .i64 ta] 35))
  by_cases h5 : kd = 5
  · by_cases h2 : 2 ≤ tx.size
    · obtain ⟨q0, hq0⟩ : ∃ q : Int, ((tx[0]'(by omega)).toNat : Int) = q := ⟨_, rfl⟩
      have e36 : tx.data.toList.headD 0 = 36 ↔ q0 = 36 := by
        rw [par_head tx (by omega), ← hq0]
        exact ⟨fun h => by rw [h]; rfl, fun h => UInt8.toNat_inj.1 (by show _ = 36; omega)⟩
      have hs0 : 0 < tx.size := by omega
      have l2 : ¬ ((tx.size : Int) < 2) := by omega
      by_cases h36 : q0 = 36
      · have hhead := e36.2 h36
        have hval : Z = if (tx.data.toList.drop 1).all digB = true then (if 9 < tx.size - 1 then 0 else (valL (tx.data.toList.drop 1) : Int)) else -1 := by
          rw [← hZ]; unfold parI parT
          simp only [h5, h2, hhead, true_and]
          by_cases hd : (tx.data.toList.drop 1).all digB = true
          · rw [if_pos hd, if_pos hd]
            show ((if 9 < tx.size - 1 then 0 else valL (tx.data.toList.drop 1) : Nat) : Int) = _
            split <;> rfl
          · rw [if_neg hd, if_neg hd]
        subst h5 h36
        have HV := Lib.hid hval
        clear hval hZ hhead e36
        go_enter Tryz.func28, Tryz.ntmps28
        go_wp2
        go_loop [3, 4] (fun u3 u4 => ∃ (i n : Nat), u4 = .int .i64 (i : Int) ∧ u3 = .int .i64 (n : Int) ∧ 1 ≤ i ∧ i ≤ tx.size ∧ ((tx.data.toList.drop 1).take (i - 1)).all digB = true ∧ n = valL ((tx.data.toList.drop 1).take (min (i - 1) 9))) (fun _ u4 => tx.size - (intOf u4).toNat)
        case atStart => exact ⟨1, 0, rfl, rfl, Nat.le_refl _, by omega, rfl, rfl⟩
        case round =>
          obtain ⟨i, n, rfl, rfl, hi1, hi2, hall, hn⟩ := hrel
          by_cases hlt : i < tx.size
          · have l1 : (i : Int) < (tx.size : Int) := by omega
            have l3 : (0 : Int) ≤ (i : Int) := by omega
            have hd := dig_at tx i hi1 hlt
            obtain ⟨c, hc⟩ : ∃ c, tx[i]'hlt = c := ⟨_, rfl⟩
            rw [hc] at hd
            obtain ⟨q, hq⟩ : ∃ q : Int, (c.toNat : Int) = q := ⟨_, rfl⟩
            have hcq : ((tx[i]'hlt).toNat : Int) = q := by rw [hc]; exact hq
            have hdig : digB c = decide (48 ≤ q ∧ q ≤ 57) := by rw [← hq]; rfl
            obtain ⟨D, hD⟩ : ∃ D, tx.data.toList.drop 1 = D := ⟨_, rfl⟩
            rw [hD] at hd hall hn
            have hVV := HV.out
            rw [hD] at hVV
            clear HV hc
            by_cases hg : 48 ≤ q ∧ q ≤ 57
            · obtain ⟨hg1, hg2⟩ := hg
              have g1 : ¬ (q < 48) := by omega
              have g2 : ¬ (57 < q) := by omega
              have hdg : digB c = true := by rw [hdig, decide_eq_true ⟨hg1, hg2⟩]
              have hall2 : (D.take (i - 1 + 1)).all digB = true := by
                rw [hd, List.all_append, hall]; simp [hdg]
              rw [show i - 1 + 1 = i by omega] at hall2
              obtain ⟨b, hb⟩ : ∃ b, i + 1 = b := ⟨_, rfl⟩
              have cb : IntKind.i64.wrap ((i : Int) + 1) = (b : Int) := by rw [show (i : Int) + 1 = (b : Int) by omega]; exact IntWalk.i64_in _ (by omega)
              have HA := Lib.hid (show (D.take (b - 1)).all digB = true by rw [← hb]; exact hall2)
              have HB := Lib.hid hb
              have HVV := Lib.hid hVV
              by_cases h9 : i ≤ 9
              · have h9' : (i : Int) ≤ 9 := by omega
                have hn2 : 10 * n + (c.toNat - 48) = valL (D.take (min (b - 1) 9)) := by
                  rw [show min (b - 1) 9 = i - 1 + 1 by omega, hd, val_snoc, hn, show min (i - 1) 9 = i - 1 by omega]
                have hlt9 : valL (D.take (min (b - 1) 9)) < 1000000000 := val_lt _ (by
                  rw [show min (b - 1) 9 = b - 1 by omega]; exact HA.out) (by rw [List.length_take]; omega)
                obtain ⟨n2, hn2'⟩ : ∃ n2, valL (D.take (min (b - 1) 9)) = n2 := ⟨_, rfl⟩
                rw [hn2'] at hn2 hlt9
                obtain ⟨d, hdd⟩ : ∃ d, q - 48 = d := ⟨_, rfl⟩
                obtain ⟨m, hm⟩ : ∃ m, 10 * (n : Int) = m := ⟨_, rfl⟩
                have s1 : IntKind.u8.wrap (q - 48) = d := by rw [hdd]; exact IntWalk.u8_in _ (by omega)
                have s2 : IntKind.i64.wrap d = d := IntWalk.i64_in _ (by omega)
                have s3 : IntKind.i64.wrap (10 * (n : Int)) = m := by rw [hm]; exact IntWalk.i64_in _ (by omega)
                have s4 : IntKind.i64.wrap (m + d) = (n2 : Int) := by rw [show m + d = (n2 : Int) by omega]; exact IntWalk.i64_in _ (by omega)
                have HN2 := Lib.hid hn2'
                have HD := Lib.hid hD
                clear hn2 hn2' hdd hm hb hd hall hall2 hdig hdg hq hn hVV hD hlt9 hg1 hg2
                go_wp2
                go_round
                case rel => exact ⟨b, n2, rfl, rfl, by have := HB.out; omega, by have := HB.out; omega, by rw [HD.out]; exact HA.out, by rw [HD.out]; exact HN2.out.symm⟩
                case measure =>
                  have := HB.out
                  show tx.size - b < tx.size - i
                  omega
              · have h9' : ¬ ((i : Int) ≤ 9) := by omega
                have hn2 : n = valL (D.take (min (b - 1) 9)) := by
                  rw [hn, show min (b - 1) 9 = min (i - 1) 9 by omega]
                have HN2 := Lib.hid hn2
                have HD := Lib.hid hD
                clear hn2 hb hd hall hall2 hdig hdg hq hn hVV hD hg1 hg2
                go_wp2
                go_round
                case rel => exact ⟨b, n, rfl, rfl, by have := HB.out; omega, by have := HB.out; omega, by rw [HD.out]; exact HA.out, by rw [HD.out]; exact HN2.out⟩
                case measure =>
                  have := HB.out
                  show tx.size - b < tx.size - i
                  omega
            · have hnd : ¬ (D.all digB = true) := by
                intro hh
                have h1 : (D.take (i - 1 + 1)).all digB = true := List.all_eq_true.2 fun x hx => List.all_eq_true.1 hh x (List.mem_of_mem_take hx)
                rw [hd, List.all_append, Bool.and_eq_true] at h1
                have h2 : digB c = true := by have := h1.2; simpa using this
                rw [hdig, decide_eq_true_iff] at h2
                exact hg h2
              have hZ1 : Z = -1 := by rw [hVV, if_neg hnd]
              clear hd hall hn hVV hdig hnd hD hq
              subst hZ1
              by_cases g1 : q < 48
              · go_wp2
                go_ret
                exact ⟨rfl, hba.out⟩
              · have g2 : 57 < q := by omega
                go_wp2
                go_ret
                exact ⟨rfl, hba.out⟩
          · have l1 : ¬ ((i : Int) < (tx.size : Int)) := by omega
            have hie : i = tx.size := by omega
            have hfull : (tx.data.toList.drop 1).take (i - 1) = tx.data.toList.drop 1 := List.take_of_length_le (by rw [List.length_drop]; show tx.size - 1 ≤ _; omega)
            rw [hfull] at hall
            have hVV := HV.out
            rw [if_pos hall] at hVV
            by_cases h10 : 10 < tx.size
            · have h10' : (10 : Int) < (tx.size : Int) := by omega
              have hZ1 : Z = 0 := by rw [hVV, if_pos (by omega)]
              clear hVV hall hn hfull HV
              subst hZ1
              go_wp2
              go_ret
              exact ⟨rfl, hba.out⟩
            · have h10' : ¬ ((10 : Int) < (tx.size : Int)) := by omega
              have hZ1 : Z = (n : Int) := by
                rw [hVV, if_neg (by omega), hn, show min (i - 1) 9 = i - 1 by omega, hfull]
              clear hVV hall hn hfull HV
              subst hZ1
              go_wp2
              go_ret
              exact ⟨rfl, hba.out⟩
      · have hZ1 : Z = -1 := by rw [← hZ]; exact par_not _ _ _ fun h => h36 (e36.1 h.2.2)
        subst h5
        have n36 : (q0 != (36 : Int)) = true := by rw [bne_iff_ne]; exact h36
        clear e36 hZ h36
        subst hZ1
        go_enter Tryz.func28, Tryz.ntmps28
        go_wp2
        go_ret
        exact ⟨rfl, hba.out⟩
    · have hZ1 : Z = -1 := by rw [← hZ]; exact par_not _ _ _ fun h => h2 h.2.1
      subst h5
      have l2 : (tx.size : Int) < 2 := by omega
      clear hZ h2
      subst hZ1
      go_enter Tryz.func28, Tryz.ntmps28
      go_wp2
      go_ret
      exact ⟨rfl, hba.out⟩
  · have hZ1 : Z = -1 := by rw [← hZ]; exact par_not _ _ _ fun h => h5 h.1
    have n5 : (kd != (5 : Int)) = true := by rw [bne_iff_ne]; exact h5
    clear hZ h5
    subst hZ1
    go_enter Tryz.func28, Tryz.ntmps28
    go_wp2
    go_ret
    exact ⟨rfl, hba.out⟩
end Go.Proofs.YtgnpkpboilnijaaGreatDoor
namespace Go.Proofs.YtgnpkpboilnijaaGreatDoor
open Go.ChangeShapes Go.WideShapes Go.ChangeAt Go.RowKit
set_option maxRecDepth 100000
set_option linter.unusedVariables false
set_option linter.unusedSimpArgs false

theorem parI_max (t : Tok) (n : Nat) : max (n : Int) (parI t) = ((max n ((parT t).getD 0) : Nat) : Int) := by
  unfold parI
  cases parT t with
  | none => simp; omega
  | some k => simp; omega
def bindF (n : Nat) (t : Tok) : Nat := max n ((parT t).getD 0)
theorem binds_fold (l : List Tok) : bindsL l = l.foldl bindF 0 := rfl
theorem par_lt (t : Tok) : (parT t).getD 0 < 1000000000 := by
  unfold parT
  split
  · rename_i h
    show (if 9 < t.2.1.size - 1 then 0 else valL (t.2.1.data.toList.drop 1)) < _
    split
    · decide
    · exact val_lt _ h.2.2.2 (by rw [List.length_drop]; show t.2.1.size - 1 ≤ 9; omega)
  · show 0 < _; decide
theorem bind_lt (n : Nat) (t : Tok) (h : n < 1000000000) : bindF n t < 1000000000 := by
  have := par_lt t
  unfold bindF
  omega
set_option maxHeartbeats 2000000 in
theorem rbinds_any (v : Value) (l : List Tok) (w : World) (hl : l.length ≤ 65536) (hz : ∀ t ∈ l, t.2.1.size ≤ 65536) (h : TR w v l) :
    Calls Tryz.prog 17 #[v] w fun e w' => e = .returned (.int .i64 (bindsL l : Int)) ∧ Below w.heap.size w w' := by
  obtain ⟨a, cap, rfl, hx⟩ := tr_cells h
  obtain ⟨R, hR⟩ : ∃ R, bindsL l = R := ⟨_, rfl⟩
  rw [hR]
  have HR := Lib.hid hR
  have HX := Lib.hid hx
  have HZ := Lib.hid hz
  clear hR hx h hz
  go_enter Tryz.func17, Tryz.ntmps17
  go_wp2
  go_loopg [3, 4] l.length (fun g u3 u4 wx => ∃ (k n : Nat), u4 = .int .i64 (k : Int) ∧ u3 = .int .i64 (n : Int) ∧ k + g = l.length ∧ n < 1000000000 ∧ Below w.heap.size w wx ∧ (l.drop k).foldl bindF n = R)
  case atStart => exact ⟨0, 0, rfl, rfl, by omega, by decide, Below.refl _ _, HR.out⟩
  case round =>
    obtain ⟨k, n, rfl, rfl, hkg, hn, hB, hv⟩ := hrel
    have HB := Lib.hid hB
    clear HR hB
    cases gk with
    | zero =>
      have hkl : ¬ ((k : Int) < (l.length : Int)) := by omega
      have hZ : R = n := by
        rw [← hv, List.drop_of_length_le (by omega)]; rfl
      clear hv
      subst hZ
      go_wp2
      go_ret
      exact ⟨rfl, HB.out⟩
    | succ g =>
      have hkl : (k : Int) < (l.length : Int) := by omega
      have hlt : k < l.length := by omega
      have hk0 : (0 : Int) ≤ (k : Int) := by omega
      rcases HX.out with h0 | ⟨gb, off, rfl, hcap, hx⟩
      · omega
      · obtain ⟨x1, x2, x3⟩ := hx k hlt
        have hzk := HZ.out l[k] (List.getElem_mem hlt)
        have hgb : gb < w.heap.size := World.block_lt_of_cell? w _ x1
        rw [← HB.out.cell (p := ⟨gb, off + k * 3, none⟩) hgb] at x1
        rw [← HB.out.cell (p := ⟨gb, off + k * 3 + 1, none⟩) hgb] at x2
        rw [← HB.out.cell (p := ⟨gb, off + k * 3 + 2, none⟩) hgb] at x3
        rw [List.drop_eq_getElem_cons hlt, List.foldl_cons] at hv
        have hb2 := bind_lt n l[k] hn
        have hmx := parI_max l[k] n
        have hmx2 : max (n : Int) (parI l[k]) = (bindF n l[k] : Int) := hmx
        clear hx hgb hmx
        generalize hT : l[k] = t at *
        clear hT
        obtain ⟨kd9, tx9, ta9⟩ := t
        simp only at x1 x2 x3 hzk
        have hp := fun w1 => rparam_any kd9 ta9 tx9 w1 (by omega)
        obtain ⟨p, hpp⟩ : ∃ p, parI (kd9, tx9, ta9) = p := ⟨_, rfl⟩
        obtain ⟨n2, hn2⟩ : ∃ n2, bindF n (kd9, tx9, ta9) = n2 := ⟨_, rfl⟩
        rw [hpp] at hp
        rw [hpp, hn2] at hmx2
        rw [hn2] at hv hb2
        have HP := Lib.hid hp
        have HV := Lib.hid hv
        have HZ2 := Lib.hid hb2
        have HM := Lib.hid hmx2
        clear hp hv hb2 hpp hn2 hzk hn hmx2
        go_wp2_with (go_at_call 28; (with_reducible refine (HP.out _).mono ?_); rintro e w2 ⟨rfl, hb9⟩; have HB2 := Lib.hid (HB.out.trans (hb9.mono HB.out.size)); clear hb9)
        go_roundg g
        case measure => omega
        case rel => exact ⟨k + 1, n2, by go_num, by rw [← HM.out], by omega, HZ2.out, HB2.out, HV.out⟩
end Go.Proofs.YtgnpkpboilnijaaGreatDoor
