/- What the document's own points and Number answer. Conditions: a text's length; a Number has a byte.
   What package norm's unended, and slices.Clone of tokens, answer. Condition: how many tokens.
   What package norm's Tokens and Form answer. Conditions: the word of bytealg, how many tokens, how long their texts. -/
import Derived.Test.YtgnpkpboilnijaaGreatDoorG19
import Derived.Lib.SliceRun
set_option linter.unusedSimpArgs false
set_option linter.unusedVariables false
namespace Go.Proofs.YtgnpkpboilnijaaGreatDoor
open Go.ChangeShapes Go.WideShapes Go.ChangeAt Go.RowKit
set_option maxRecDepth 100000
set_option linter.unusedVariables false
set_option linter.unusedSimpArgs false

theorem rpoints_any (s : ByteArray) (w : World) (hs : s.size ≤ 1048576) :
    Calls Tryz.prog 39 #[.string s] w fun e w' => e = .returned (.int .i64 ((s.data.toList.count 46 : Nat) : Int)) ∧ w' = w := by
  obtain ⟨R, hR⟩ : ∃ R, s.data.toList.count 46 = R := ⟨_, rfl⟩
  rw [hR]
  have HR := Lib.hid hR
  clear hR
  go_enter Tryz.func39, Tryz.ntmps39
  go_wp2
  go_loop [3, 4] (fun u3 u4 => ∃ i n : Nat, i ≤ s.size ∧ n ≤ i ∧ u4 = .int .i64 i ∧ u3 = .int .i64 n ∧ R = n + (s.data.toList.drop i).count 46) (fun _ u4 => s.size - (intOf u4).toNat)
  case atStart => exact ⟨0, 0, Nat.zero_le _, Nat.le_refl _, rfl, rfl, by rw [List.drop_zero, HR.out, Nat.zero_add]⟩
  case round =>
    obtain ⟨i, n, hi, hni, rfl, rfl, hv⟩ := hrel
    clear HR
    by_cases hlt : i < s.size
    · have l0 : (0 : Int) ≤ (i : Int) := by omega
      have l1 : (i : Int) < (s.size : Int) := by omega
      rw [byte_at s i hlt, List.count_cons] at hv
      obtain ⟨z, hz⟩ : ∃ z : Int, ((s[i]'hlt).toNat : Int) = z := ⟨_, rfl⟩
      have e46 : (s[i]'hlt == 46) = (z == 46) := by
        rw [← hz, Bool.eq_iff_iff, beq_iff_eq, beq_iff_eq]
        exact ⟨fun h => by rw [h]; rfl, fun h => UInt8.toNat_inj.1 (by show _ = 46; omega)⟩
      rw [e46] at hv
      by_cases h46 : z = 46
      · subst h46
        have HV := Lib.hid (show R = n + 1 + (s.data.toList.drop (i + 1)).count 46 by rw [hv]; simp; omega)
        clear hv e46
        go_wp2
        go_round
        case rel => exact ⟨i + 1, n + 1, by omega, by omega, by go_num, by go_num, HV.out⟩
        case measure => simp [intOf]; omega
      · have n46 : (z == (46 : Int)) = false := by rw [beq_eq_false_iff_ne]; exact h46
        have HV := Lib.hid (show R = n + (s.data.toList.drop (i + 1)).count 46 by rw [hv, n46]; simp)
        clear hv e46 h46
        go_wp2
        go_round
        case rel => exact ⟨i + 1, n, by omega, by omega, by go_num, rfl, HV.out⟩
        case measure => simp [intOf]; omega
    · have l1 : ¬ ((i : Int) < (s.size : Int)) := by omega
      have HV := Lib.hid (show R = n by rw [hv, drop_nil s i hlt]; simp)
      clear hv
      go_wp2
      go_ret
      exact ⟨by rw [HV.out]; rfl, rfl⟩
def lenOf (v : Value) : Nat := match v with | .string s => s.size | _ => 0
theorem front_count (l : Tx) : (frontL l).count 46 = l.count 46 := by
  induction l with
  | nil => rfl
  | cons c r ih =>
    cases r with
    | nil => rfl
    | cons d r =>
      rw [frontL]
      split
      · rename_i h
        rw [ih, List.count_cons (a := 46) (b := c)]
        rw [h.1]; simp
      · rfl
theorem front_cons (s : ByteArray) (h : 1 < s.size) : frontL s.data.toList = if s[0] = 48 ∧ s[1] ≠ 46 then frontL (s.extract 1 s.size).data.toList else s.data.toList := by
  have e := byte_at s 0 (by omega)
  have e1 := byte_at s 1 h
  rw [List.drop_zero] at e
  rw [ext_list]
  rw [e, e1, frontL]
  rfl
theorem front_short (s : ByteArray) (h : ¬ 1 < s.size) : frontL s.data.toList = s.data.toList := by
  have e : s.size = s.data.toList.length := rfl
  match hl : s.data.toList with
  | [] => rfl
  | [c] => rfl
  | c :: d :: r => rw [hl] at e; simp at e; omega
theorem last_get (s : ByteArray) (n : Nat) (h : n < s.size) : s.data.toList[n]? = some (s[n]'h) := by
  rw [List.getElem?_eq_getElem (by exact h)]; rfl
theorem take_has (l : Tx) (n : Nat) (h : 0 < (l.take n).count 46) : 0 < n := by
  cases n with
  | zero => simp at h
  | succ n => omega
set_option maxHeartbeats 2000000 in
theorem rnumber_any (s0 : ByteArray) (w : World) (hs : s0.size ≤ 1048576) (hne : 0 < s0.size) :
    Calls Tryz.prog 24 #[.string s0] w fun e w' => e = .returned (.string (bb (numL s0.data.toList))) ∧ w' = w := by
  obtain ⟨R, hR⟩ : ∃ R, frontL s0.data.toList = R := ⟨_, rfl⟩
  have hres : bb (numL s0.data.toList) = if R.count 46 = 1 then bb (R.take (pointN R (backN R R.length))) else bb R := by
    unfold numL
    rw [← front_count, hR]
    split <;> rfl
  obtain ⟨Z, hZ⟩ : ∃ Z, (if R.count 46 = 1 then bb (R.take (pointN R (backN R R.length))) else bb R) = Z := ⟨_, rfl⟩
  rw [hres, hZ]
  have HZ := Lib.hid hZ
  have HR := Lib.hid hR
  clear hres hR hZ
  go_enter Tryz.func24, Tryz.ntmps24
  go_wp2
  go_loop [0] (fun u0 => ∃ s : ByteArray, 0 < s.size ∧ s.size ≤ 1048576 ∧ u0 = .string s ∧ frontL s.data.toList = R) (fun u0 => lenOf u0)
  case atStart => exact ⟨s0, hne, hs, rfl, HR.out⟩
  case round =>
    obtain ⟨s, hpos, hsz, rfl, hf⟩ := hrel
    clear HR hne hs
    have stay : ∀ (P : Prop), (frontL s.data.toList = s.data.toList → P) → (s.data.toList = R → P) := fun P h h2 => by
      have : frontL s.data.toList = s.data.toList := by rw [hf, h2]
      exact h this
    by_cases h1 : 1 < s.size
    · have l1 : (1 : Int) < (s.size : Int) := by omega
      rw [front_cons s h1] at hf
      obtain ⟨z, hz⟩ : ∃ z : Int, ((s[0]'(Nat.lt_of_succ_lt h1)).toNat : Int) = z := ⟨_, rfl⟩
      obtain ⟨y, hy⟩ : ∃ y : Int, ((s[1]'h1).toNat : Int) = y := ⟨_, rfl⟩
      have e48 : (s[0]'(Nat.lt_of_succ_lt h1) = 48) ↔ z = 48 := by
        rw [← hz]
        exact ⟨fun h => by rw [h]; rfl, fun h => UInt8.toNat_inj.1 (by show _ = 48; omega)⟩
      have e46 : (s[1]'h1 = 46) ↔ y = 46 := by
        rw [← hy]
        exact ⟨fun h => by rw [h]; rfl, fun h => UInt8.toNat_inj.1 (by show _ = 46; omega)⟩
      by_cases z48 : z = 48
      · by_cases y46 : y = 46
        · have hRs : s.data.toList = R := by rw [if_neg (fun h => h.2 (e46.2 y46))] at hf; exact hf
          subst z48
          subst y46
          clear hf e48 e46 stay
          have HRS := Lib.hid hRs
          have hpt : ∀ w, Calls Tryz.prog 39 #[.string s] w fun e w' => e = .returned (.int .i64 ((R.count 46 : Nat) : Int)) ∧ w' = w := fun w => by have := rpoints_any s w hsz; rw [hRs] at this; exact this
          obtain ⟨N, hN⟩ : ∃ N, R.count 46 = N := ⟨_, rfl⟩
          rw [hN] at hpt
          have HPT := Lib.hid hpt
          have HN := Lib.hid hN
          clear hpt hN hRs
          by_cases hN1 : N = 1
          · subst hN1
            go_wp2_with (go_at_call 39; (with_reducible refine (HPT.out _).mono ?_); rintro e w1 ⟨rfl, hw1⟩; obtain rfl := hw1.symm)
            go_loop [0] (fun u0 => ∃ (n : Nat) (x : ByteArray), 0 < n ∧ n ≤ 1048576 ∧ x.size = n ∧ u0 = .string x ∧ x.data.toList = R.take n ∧ backN R R.length = backN R n ∧ (R.take n).count 46 = 1) (fun u0 => lenOf u0)
            case atStart =>
              have e : s.size = R.length := by rw [← HRS.out]; rfl
              exact ⟨s.size, s, hpos, hsz, rfl, rfl, by rw [e, List.take_length, HRS.out], by rw [e], by rw [e, List.take_length]; exact HN.out⟩
            case round =>
              obtain ⟨n, x, hn0, hn1, hxs, rfl, hxl, hb, hc⟩ := hrel
              obtain ⟨k, rfl⟩ : ∃ k, n = k + 1 := ⟨n - 1, by omega⟩
              have hkx : k < x.size := by omega
              have k0 : (0 : Int) ≤ (k : Int) := by omega
              have k1 : (k : Int) < (x.size : Int) := by omega
              have k2 : (k : Int) ≤ (x.size : Int) := by omega
              have kw : IntKind.i64.wrap ((x.size : Int) - 1) = (k : Int) := by rw [show (x.size : Int) - 1 = (k : Int) by omega]; exact IntWalk.i64_in _ (by omega)
              obtain ⟨q, hq⟩ : ∃ q : Int, ((x[k]'hkx).toNat : Int) = q := ⟨_, rfl⟩
              have hRk : R[k]? = some (x[k]'hkx) := by
                have h1 := last_get x k hkx
                rw [hxl, List.getElem?_take, if_pos (by omega)] at h1
                exact h1
              have htk : R.take (k + 1) = R.take k ++ [x[k]'hkx] := by rw [List.take_add_one, hRk]; rfl
              have hxk : (x.extract 0 k).data.toList = R.take k := by
                rw [ext_to x 0 k (by omega), List.drop_zero, hxl]
                show ((R.take (k + 1)).take (k - 0)).toArray.toList = _
                rw [List.take_take, show min (k - 0) (k + 1) = k by omega]
              have hxks : (x.extract 0 k).size = k := by rw [ByteArray.size_extract]; omega
              rw [backN, hRk] at hb
              have e48' : (some (x[k]'hkx) = some 48) ↔ q = 48 := by
                rw [← hq]
                exact ⟨fun h => by rw [Option.some.inj h]; rfl, fun h => congrArg some (UInt8.toNat_inj.1 (by show _ = 48; omega))⟩
              have e46' : (some (x[k]'hkx) = some 46) ↔ q = 46 := by
                rw [← hq]
                exact ⟨fun h => by rw [Option.some.inj h]; rfl, fun h => congrArg some (UInt8.toNat_inj.1 (by show _ = 46; omega))⟩
              by_cases h48 : q = 48
              · rw [if_pos (e48'.2 h48)] at hb
                have hc2 : (R.take k).count 46 = 1 := by
                  rw [htk, List.count_append, Option.some.inj (e48'.2 h48)] at hc
                  simpa using hc
                subst h48
                have HX := Lib.hid (show 0 < k ∧ (x.extract 0 k).size = k ∧ (x.extract 0 k).data.toList = R.take k ∧ backN R R.length = backN R k ∧ (R.take k).count 46 = 1 from ⟨take_has R k (by omega), hxks, hxk, hb, hc2⟩)
                have HXS := Lib.hid hxs
                clear hc hc2 hb hxk hxks htk hRk e48' e46' hxl hxs
                go_wp2
                go_round
                case rel => exact ⟨k, _, HX.out.1, by omega, HX.out.2.1, rfl, HX.out.2.2.1, HX.out.2.2.2.1, HX.out.2.2.2.2⟩
                case measure =>
                  have h1 := HX.out.2.1
                  have h2 := HXS.out
                  show (x.extract 0 k).size < x.size
                  omega
              · rw [if_neg (fun h => h48 (e48'.1 h))] at hb
                have n48 : (q == (48 : Int)) = false := by rw [beq_eq_false_iff_ne]; exact h48
                by_cases h46 : q = 46
                · have hp : R.take (pointN R (backN R R.length)) = R.take k := by
                    rw [hb]; unfold pointN
                    rw [if_pos ⟨by omega, by rw [show k + 1 - 1 = k from rfl, hRk]; exact e46'.2 h46⟩]; rfl
                  have hbx : x.extract 0 k = bb (R.take k) := by apply ByteArray.ext; apply Array.ext'; rw [hxk]
                  subst h46
                  have HFIN := Lib.hid (show Z = x.extract 0 k by rw [← HZ.out, if_pos HN.out, hp, hbx])
                  clear hp hbx hc hb hxk hxks htk hRk e48' e46' hxl hxs h48
                  go_wp2
                  go_ret
                  exact ⟨by rw [HFIN.out]; rfl, rfl⟩
                · have n46 : (q == (46 : Int)) = false := by rw [beq_eq_false_iff_ne]; exact h46
                  have hp : R.take (pointN R (backN R R.length)) = R.take (k + 1) := by
                    rw [hb]; unfold pointN
                    rw [if_neg (fun h => h46 (e46'.1 (by rw [← hRk]; exact h.2)))]
                  have hbx : x = bb (R.take (k + 1)) := by apply ByteArray.ext; apply Array.ext'; rw [hxl]
                  have HFIN := Lib.hid (show Z = x by rw [← HZ.out, if_pos HN.out, hp]; exact hbx.symm)
                  clear hp hbx hc hb hxk hxks htk hRk e48' e46' hxl hxs h48 h46
                  go_wp2
                  go_ret
                  exact ⟨by rw [HFIN.out]; rfl, rfl⟩
          · have hn1 : (((N : Nat) : Int) != 1) = true := by rw [bne_iff_ne]; omega
            have hbs : s = bb R := by apply ByteArray.ext; apply Array.ext'; rw [HRS.out]
            have HFIN := Lib.hid (show Z = s by rw [← HZ.out, if_neg (by rw [HN.out]; exact hN1)]; exact hbs.symm)
            clear hN1 hbs
            go_wp2_with (go_at_call 39; (with_reducible refine (HPT.out _).mono ?_); rintro e w1 ⟨rfl, hw1⟩; obtain rfl := hw1.symm)
            go_ret
            exact ⟨by rw [HFIN.out]; rfl, rfl⟩
        · rw [if_pos ⟨e48.2 z48, fun h => y46 (e46.1 h)⟩] at hf
          have n46 : (y != (46 : Int)) = true := by rw [bne_iff_ne]; exact y46
          subst z48
          have hxz : (s.extract 1 s.size).size = s.size - 1 := by rw [ByteArray.size_extract]; omega
          have HF := Lib.hid hf
          have HXZ := Lib.hid hxz
          clear hf e48 e46 stay y46 hxz
          go_wp2
          go_round
          case rel => exact ⟨_, by have := HXZ.out; omega, by have := HXZ.out; omega, rfl, HF.out⟩
          case measure =>
            have := HXZ.out
            show (s.extract 1 s.size).size < s.size
            omega
      · have hRs : s.data.toList = R := by rw [if_neg (fun h => z48 (e48.1 h.1))] at hf; exact hf
        have n48 : (z == (48 : Int)) = false := by rw [beq_eq_false_iff_ne]; exact z48
        clear hf e48 e46 stay z48
        have HRS := Lib.hid hRs
        have hpt : ∀ w, Calls Tryz.prog 39 #[.string s] w fun e w' => e = .returned (.int .i64 ((R.count 46 : Nat) : Int)) ∧ w' = w := fun w => by have := rpoints_any s w hsz; rw [hRs] at this; exact this
        obtain ⟨N, hN⟩ : ∃ N, R.count 46 = N := ⟨_, rfl⟩
        rw [hN] at hpt
        have HPT := Lib.hid hpt
        have HN := Lib.hid hN
        clear hpt hN hRs
        by_cases hN1 : N = 1
        · subst hN1
          go_wp2_with (go_at_call 39; (with_reducible refine (HPT.out _).mono ?_); rintro e w1 ⟨rfl, hw1⟩; obtain rfl := hw1.symm)
          go_loop [0] (fun u0 => ∃ (n : Nat) (x : ByteArray), 0 < n ∧ n ≤ 1048576 ∧ x.size = n ∧ u0 = .string x ∧ x.data.toList = R.take n ∧ backN R R.length = backN R n ∧ (R.take n).count 46 = 1) (fun u0 => lenOf u0)
          case atStart =>
            have e : s.size = R.length := by rw [← HRS.out]; rfl
            exact ⟨s.size, s, hpos, hsz, rfl, rfl, by rw [e, List.take_length, HRS.out], by rw [e], by rw [e, List.take_length]; exact HN.out⟩
          case round =>
            obtain ⟨n, x, hn0, hn1, hxs, rfl, hxl, hb, hc⟩ := hrel
            obtain ⟨k, rfl⟩ : ∃ k, n = k + 1 := ⟨n - 1, by omega⟩
            have hkx : k < x.size := by omega
            have k0 : (0 : Int) ≤ (k : Int) := by omega
            have k1 : (k : Int) < (x.size : Int) := by omega
            have k2 : (k : Int) ≤ (x.size : Int) := by omega
            have kw : IntKind.i64.wrap ((x.size : Int) - 1) = (k : Int) := by rw [show (x.size : Int) - 1 = (k : Int) by omega]; exact IntWalk.i64_in _ (by omega)
            obtain ⟨q, hq⟩ : ∃ q : Int, ((x[k]'hkx).toNat : Int) = q := ⟨_, rfl⟩
            have hRk : R[k]? = some (x[k]'hkx) := by
              have h1 := last_get x k hkx
              rw [hxl, List.getElem?_take, if_pos (by omega)] at h1
              exact h1
            have htk : R.take (k + 1) = R.take k ++ [x[k]'hkx] := by rw [List.take_add_one, hRk]; rfl
            have hxk : (x.extract 0 k).data.toList = R.take k := by
              rw [ext_to x 0 k (by omega), List.drop_zero, hxl]
              show ((R.take (k + 1)).take (k - 0)).toArray.toList = _
              rw [List.take_take, show min (k - 0) (k + 1) = k by omega]
            have hxks : (x.extract 0 k).size = k := by rw [ByteArray.size_extract]; omega
            rw [backN, hRk] at hb
            have e48' : (some (x[k]'hkx) = some 48) ↔ q = 48 := by
              rw [← hq]
              exact ⟨fun h => by rw [Option.some.inj h]; rfl, fun h => congrArg some (UInt8.toNat_inj.1 (by show _ = 48; omega))⟩
            have e46' : (some (x[k]'hkx) = some 46) ↔ q = 46 := by
              rw [← hq]
              exact ⟨fun h => by rw [Option.some.inj h]; rfl, fun h => congrArg some (UInt8.toNat_inj.1 (by show _ = 46; omega))⟩
            by_cases h48 : q = 48
            · rw [if_pos (e48'.2 h48)] at hb
              have hc2 : (R.take k).count 46 = 1 := by
                rw [htk, List.count_append, Option.some.inj (e48'.2 h48)] at hc
                simpa using hc
              subst h48
              have HX := Lib.hid (show 0 < k ∧ (x.extract 0 k).size = k ∧ (x.extract 0 k).data.toList = R.take k ∧ backN R R.length = backN R k ∧ (R.take k).count 46 = 1 from ⟨take_has R k (by omega), hxks, hxk, hb, hc2⟩)
              have HXS := Lib.hid hxs
              clear hc hc2 hb hxk hxks htk hRk e48' e46' hxl hxs
              go_wp2
              go_round
              case rel => exact ⟨k, _, HX.out.1, by omega, HX.out.2.1, rfl, HX.out.2.2.1, HX.out.2.2.2.1, HX.out.2.2.2.2⟩
              case measure =>
                have h1 := HX.out.2.1
                have h2 := HXS.out
                show (x.extract 0 k).size < x.size
                omega
            · rw [if_neg (fun h => h48 (e48'.1 h))] at hb
              have n48b : (q == (48 : Int)) = false := by rw [beq_eq_false_iff_ne]; exact h48
              by_cases h46 : q = 46
              · have hp : R.take (pointN R (backN R R.length)) = R.take k := by
                  rw [hb]; unfold pointN
                  rw [if_pos ⟨by omega, by rw [show k + 1 - 1 = k from rfl, hRk]; exact e46'.2 h46⟩]; rfl
                have hbx : x.extract 0 k = bb (R.take k) := by apply ByteArray.ext; apply Array.ext'; rw [hxk]
                subst h46
                have HFIN := Lib.hid (show Z = x.extract 0 k by rw [← HZ.out, if_pos HN.out, hp, hbx])
                clear hp hbx hc hb hxk hxks htk hRk e48' e46' hxl hxs h48
                go_wp2
                go_ret
                exact ⟨by rw [HFIN.out]; rfl, rfl⟩
              · have n46 : (q == (46 : Int)) = false := by rw [beq_eq_false_iff_ne]; exact h46
                have hp : R.take (pointN R (backN R R.length)) = R.take (k + 1) := by
                  rw [hb]; unfold pointN
                  rw [if_neg (fun h => h46 (e46'.1 (by rw [← hRk]; exact h.2)))]
                have hbx : x = bb (R.take (k + 1)) := by apply ByteArray.ext; apply Array.ext'; rw [hxl]
                have HFIN := Lib.hid (show Z = x by rw [← HZ.out, if_pos HN.out, hp]; exact hbx.symm)
                clear hp hbx hc hb hxk hxks htk hRk e48' e46' hxl hxs h48 h46
                go_wp2
                go_ret
                exact ⟨by rw [HFIN.out]; rfl, rfl⟩
        · have hn1 : (((N : Nat) : Int) != 1) = true := by rw [bne_iff_ne]; omega
          have hbs : s = bb R := by apply ByteArray.ext; apply Array.ext'; rw [HRS.out]
          have HFIN := Lib.hid (show Z = s by rw [← HZ.out, if_neg (by rw [HN.out]; exact hN1)]; exact hbs.symm)
          clear hN1 hbs
          go_wp2_with (go_at_call 39; (with_reducible refine (HPT.out _).mono ?_); rintro e w1 ⟨rfl, hw1⟩; obtain rfl := hw1.symm)
          go_ret
          exact ⟨by rw [HFIN.out]; rfl, rfl⟩
    · have hRs : s.data.toList = R := by rw [← hf, front_short s h1]
      have l1 : ¬ ((1 : Int) < (s.size : Int)) := by omega
      clear hf stay
      have HRS := Lib.hid hRs
      have hpt : ∀ w, Calls Tryz.prog 39 #[.string s] w fun e w' => e = .returned (.int .i64 ((R.count 46 : Nat) : Int)) ∧ w' = w := fun w => by have := rpoints_any s w hsz; rw [hRs] at this; exact this
      obtain ⟨N, hN⟩ : ∃ N, R.count 46 = N := ⟨_, rfl⟩
      rw [hN] at hpt
      have HPT := Lib.hid hpt
      have HN := Lib.hid hN
      clear hpt hN hRs
      by_cases hN1 : N = 1
      · subst hN1
        go_wp2_with (go_at_call 39; (with_reducible refine (HPT.out _).mono ?_); rintro e w1 ⟨rfl, hw1⟩; obtain rfl := hw1.symm)
        go_loop [0] (fun u0 => ∃ (n : Nat) (x : ByteArray), 0 < n ∧ n ≤ 1048576 ∧ x.size = n ∧ u0 = .string x ∧ x.data.toList = R.take n ∧ backN R R.length = backN R n ∧ (R.take n).count 46 = 1) (fun u0 => lenOf u0)
        case atStart =>
          have e : s.size = R.length := by rw [← HRS.out]; rfl
          exact ⟨s.size, s, hpos, hsz, rfl, rfl, by rw [e, List.take_length, HRS.out], by rw [e], by rw [e, List.take_length]; exact HN.out⟩
        case round =>
          obtain ⟨n, x, hn0, hn1, hxs, rfl, hxl, hb, hc⟩ := hrel
          obtain ⟨k, rfl⟩ : ∃ k, n = k + 1 := ⟨n - 1, by omega⟩
          have hkx : k < x.size := by omega
          have k0 : (0 : Int) ≤ (k : Int) := by omega
          have k1 : (k : Int) < (x.size : Int) := by omega
          have k2 : (k : Int) ≤ (x.size : Int) := by omega
          have kw : IntKind.i64.wrap ((x.size : Int) - 1) = (k : Int) := by rw [show (x.size : Int) - 1 = (k : Int) by omega]; exact IntWalk.i64_in _ (by omega)
          obtain ⟨q, hq⟩ : ∃ q : Int, ((x[k]'hkx).toNat : Int) = q := ⟨_, rfl⟩
          have hRk : R[k]? = some (x[k]'hkx) := by
            have h1 := last_get x k hkx
            rw [hxl, List.getElem?_take, if_pos (by omega)] at h1
            exact h1
          have htk : R.take (k + 1) = R.take k ++ [x[k]'hkx] := by rw [List.take_add_one, hRk]; rfl
          have hxk : (x.extract 0 k).data.toList = R.take k := by
            rw [ext_to x 0 k (by omega), List.drop_zero, hxl]
            show ((R.take (k + 1)).take (k - 0)).toArray.toList = _
            rw [List.take_take, show min (k - 0) (k + 1) = k by omega]
          have hxks : (x.extract 0 k).size = k := by rw [ByteArray.size_extract]; omega
          rw [backN, hRk] at hb
          have e48' : (some (x[k]'hkx) = some 48) ↔ q = 48 := by
            rw [← hq]
            exact ⟨fun h => by rw [Option.some.inj h]; rfl, fun h => congrArg some (UInt8.toNat_inj.1 (by show _ = 48; omega))⟩
          have e46' : (some (x[k]'hkx) = some 46) ↔ q = 46 := by
            rw [← hq]
            exact ⟨fun h => by rw [Option.some.inj h]; rfl, fun h => congrArg some (UInt8.toNat_inj.1 (by show _ = 46; omega))⟩
          by_cases h48 : q = 48
          · rw [if_pos (e48'.2 h48)] at hb
            have hc2 : (R.take k).count 46 = 1 := by
              rw [htk, List.count_append, Option.some.inj (e48'.2 h48)] at hc
              simpa using hc
            subst h48
            have HX := Lib.hid (show 0 < k ∧ (x.extract 0 k).size = k ∧ (x.extract 0 k).data.toList = R.take k ∧ backN R R.length = backN R k ∧ (R.take k).count 46 = 1 from ⟨take_has R k (by omega), hxks, hxk, hb, hc2⟩)
            have HXS := Lib.hid hxs
            clear hc hc2 hb hxk hxks htk hRk e48' e46' hxl hxs
            go_wp2
            go_round
            case rel => exact ⟨k, _, HX.out.1, by omega, HX.out.2.1, rfl, HX.out.2.2.1, HX.out.2.2.2.1, HX.out.2.2.2.2⟩
            case measure =>
              have h1 := HX.out.2.1
              have h2 := HXS.out
              show (x.extract 0 k).size < x.size
              omega
          · rw [if_neg (fun h => h48 (e48'.1 h))] at hb
            have n48 : (q == (48 : Int)) = false := by rw [beq_eq_false_iff_ne]; exact h48
            by_cases h46 : q = 46
            · have hp : R.take (pointN R (backN R R.length)) = R.take k := by
                rw [hb]; unfold pointN
                rw [if_pos ⟨by omega, by rw [show k + 1 - 1 = k from rfl, hRk]; exact e46'.2 h46⟩]; rfl
              have hbx : x.extract 0 k = bb (R.take k) := by apply ByteArray.ext; apply Array.ext'; rw [hxk]
              subst h46
              have HFIN := Lib.hid (show Z = x.extract 0 k by rw [← HZ.out, if_pos HN.out, hp, hbx])
              clear hp hbx hc hb hxk hxks htk hRk e48' e46' hxl hxs h48
              go_wp2
              go_ret
              exact ⟨by rw [HFIN.out]; rfl, rfl⟩
            · have n46 : (q == (46 : Int)) = false := by rw [beq_eq_false_iff_ne]; exact h46
              have hp : R.take (pointN R (backN R R.length)) = R.take (k + 1) := by
                rw [hb]; unfold pointN
                rw [if_neg (fun h => h46 (e46'.1 (by rw [← hRk]; exact h.2)))]
              have hbx : x = bb (R.take (k + 1)) := by apply ByteArray.ext; apply Array.ext'; rw [hxl]
              have HFIN := Lib.hid (show Z = x by rw [← HZ.out, if_pos HN.out, hp]; exact hbx.symm)
              clear hp hbx hc hb hxk hxks htk hRk e48' e46' hxl hxs h48 h46
              go_wp2
              go_ret
              exact ⟨by rw [HFIN.out]; rfl, rfl⟩
      · have hn1 : (((N : Nat) : Int) != 1) = true := by rw [bne_iff_ne]; omega
        have hbs : s = bb R := by apply ByteArray.ext; apply Array.ext'; rw [HRS.out]
        have HFIN := Lib.hid (show Z = s by rw [← HZ.out, if_neg (by rw [HN.out]; exact hN1)]; exact hbs.symm)
        clear hN1 hbs
        go_wp2_with (go_at_call 39; (with_reducible refine (HPT.out _).mono ?_); rintro e w1 ⟨rfl, hw1⟩; obtain rfl := hw1.symm)
        go_ret
        exact ⟨by rw [HFIN.out]; rfl, rfl⟩
end Go.Proofs.YtgnpkpboilnijaaGreatDoor
namespace Go.Proofs.YtgnpkpboilnijaaGreatDoor
open Go.ChangeShapes Go.WideShapes Go.ChangeAt Go.RowKit
set_option maxRecDepth 100000
set_option linter.unusedVariables false
set_option linter.unusedSimpArgs false

theorem TR.take {w : World} {g off cap : Nat} {l : List Tok} (hc : l.length ≤ cap) (hx : ∀ k (hk : k < l.length), w.cell? ⟨g, off + k * 3, none⟩ = some (.int .i64 l[k].1) ∧ w.cell? ⟨g, off + k * 3 + 1, none⟩ = some (.string l[k].2.1) ∧ w.cell? ⟨g, off + k * 3 + 2, none⟩ = some (.int .i64 l[k].2.2)) (n : Nat) (hn : n ≤ l.length) :
    TR w (.slice (some ⟨g, off, none⟩) n cap) (l.take n) := by
  have hl : (l.take n).length = n := by rw [List.length_take]; omega
  refine .inr ⟨g, off, cap, by rw [hl], by omega, fun i t ht => ?_⟩
  have hi := (List.getElem?_eq_some_iff.1 ht).1
  rw [hl] at hi
  rw [List.getElem?_take, if_pos hi, List.getElem?_eq_getElem (by omega)] at ht
  cases ht
  exact hx i (by omega)
theorem unN_step (l : List Tok) (n : Nat) (h : n < l.length) : unN l (n + 1) = if isSemi l[n] = true then unN l n else n + 1 := by
  rw [unN, List.getElem?_eq_getElem h]
theorem unN_le (l : List Tok) : ∀ n, unN l n ≤ n := by
  intro n
  induction n with
  | zero => exact Nat.le_refl _
  | succ n ih =>
    rw [unN]
    cases l[n]? with
    | none => simp
    | some t => cases hs : isSemi t <;> simp [hs] <;> omega
theorem tokRow_len (l : List Tok) : (tokRow l).length = l.length * 3 := by
  induction l with
  | nil => rfl
  | cons t r ih =>
    have e : tokRow (t :: r) = tokCells t ++ tokRow r := by simp [tokRow]
    rw [e, List.length_append, ih, List.length_cons]
    show 3 + _ = _
    omega
set_option maxHeartbeats 2000000 in
theorem unended_any (v : Value) (l : List Tok) (w : World) (h : TR w v l) (hl : l.length ≤ 65536) :
    Calls Tryz.prog 21 #[v] w fun e w' => ∃ v', e = .returned v' ∧ TR w v' (l.take (unN l l.length)) ∧ w' = w := by
  obtain ⟨a, cap, rfl, hx⟩ := tr_cells h
  obtain ⟨R, hR⟩ : ∃ R, unN l l.length = R := ⟨_, rfl⟩
  rw [hR]
  have HR := Lib.hid hR
  have HX := Lib.hid hx
  have HH := Lib.hid h
  clear hR hx h
  go_enter Tryz.func21, Tryz.ntmps21
  go_wp2
  go_loop [0] (fun u0 => ∃ n : Nat, n ≤ l.length ∧ u0 = .slice a n cap ∧ unN l n = R) (fun u0 => match u0 with | .slice _ n _ => n | _ => 0)
  case atStart => exact ⟨l.length, Nat.le_refl _, rfl, HR.out⟩
  case round =>
    obtain ⟨n, hn, rfl, hv⟩ := hrel
    clear HR
    cases n with
    | zero =>
      have HV := Lib.hid (show R = 0 from hv.symm)
      clear hv
      go_wp2
      go_ret
      rw [HV.out]
      rw [List.take_zero]
      exact ⟨_, rfl, .inl ⟨_, _, rfl, rfl⟩, rfl⟩
    | succ n =>
      rcases HX.out with h0 | ⟨g, off, rfl, hcap, hx⟩
      · omega
      · obtain ⟨x1, x2, x3⟩ := hx n (by omega)
        rw [unN_step l n (by omega)] at hv
        have hfin := TR.take hcap hx (n + 1) hn
        obtain ⟨b, hb⟩ : ∃ b, n + 1 = b := ⟨_, rfl⟩
        rw [hb] at hv hn hfin
        have HFIN := Lib.hid hfin
        have HB := Lib.hid hb
        have cw : IntKind.i64.wrap ((b : Int) - 1) = (n : Int) := by rw [show (b : Int) - 1 = (n : Int) by omega]; exact IntWalk.i64_in _ (by omega)
        have l1 : (0 : Int) < (b : Int) := by omega
        have l2 : (n : Int) < (b : Int) := by omega
        have l3 : (0 : Int) ≤ (n : Int) := by omega
        have l4 : (n : Int) ≤ (cap : Int) := by omega
        have l5 : (n : Int) ≤ (b : Int) := by omega
        rw [hb]
        clear hx x3 hfin
        have hnl : n < l.length := by omega
        have hsem : isSemi l[n] = (l[n].1 == 5 && l[n].2.1.toList == [59]) := rfl
        generalize l[n].1 = kd at *
        generalize l[n].2.1 = tx at *
        rw [hsem] at hv
        clear hsem
        by_cases h5 : kd = 5
        · subst h5
          cases h6 : (tx.toList == [59]) with
          | true =>
            rw [h6, if_pos (by rfl)] at hv
            have HV := Lib.hid hv
            clear hv hb
            go_wp2
            go_round
            case rel => exact ⟨n, by omega, rfl, HV.out⟩
            case measure => show n < b; omega
          | false =>
            rw [h6, if_neg (by simp)] at hv
            have HV := Lib.hid hv
            clear hv hb
            go_wp2
            go_ret
            exact ⟨_, rfl, by rw [← HV.out]; exact HFIN.out, rfl⟩
        · have n5 : (kd == (5 : Int)) = false := by rw [beq_eq_false_iff_ne]; exact h5
          rw [n5, if_neg (by simp)] at hv
          have HV := Lib.hid hv
          clear hv hb h5
          go_wp2
          go_ret
          exact ⟨_, rfl, by rw [← HV.out]; exact HFIN.out, rfl⟩
set_option maxHeartbeats 2000000 in
theorem tclone_any (v : Value) (l : List Tok) (w : World) (h : TR w v l) (hl : l.length ≤ 65536) :
    Calls Tryz.prog 20 #[v] w fun e w' => ∃ v', e = .returned v' ∧ w'.ownsRow w.heap.size 35 3 v' l.length (tokRow l) ∧ Below w.heap.size w w' := by
  obtain ⟨i30, hi30, hz30, hs30, hb30⟩ := i30_parts
  have q22 : ∀ (w : World) (a : Option Addr) (n c n' c' : Nat), (binOp .eql 22 (.slice a n c) (.slice none n' c')).run Tryz.prog w = .ok (.bool a.isNone) w := fun w a n c n' c' => Lib.run_eql_slice_nil w _ _ a n c n' c' und23
  have hcases : (∃ c, v = .slice none 0 c ∧ l = []) ∨ ∃ ad c, v = .slice (some ad) l.length c ∧ ∀ j u, (tokRow l)[j]? = some u → w.cell? (ad.add j) = some u := by
    rcases h with ⟨A, cap, rfl, rfl⟩ | ⟨g, off, cap, rfl, hc, hx⟩
    · cases A with
      | none => exact .inl ⟨_, rfl, rfl⟩
      | some ad => exact .inr ⟨ad, _, rfl, fun j u hj => by simp [tokRow] at hj⟩
    · refine .inr ⟨_, _, rfl, fun j u hj => ?_⟩
      have hlen := tokRow_len l
      have hj2 := (List.getElem?_eq_some_iff.1 hj).1
      have hi : j / 3 < l.length := by omega
      obtain ⟨c0, c1, c2⟩ := hx (j / 3) l[j / 3] (List.getElem?_eq_getElem hi)
      obtain ⟨d0, d1, d2⟩ := tokRow_get l (j / 3) l[j / 3] (List.getElem?_eq_getElem hi)
      rw [Addr.add_lit]
      have hm : j % 3 = 0 ∨ j % 3 = 1 ∨ j % 3 = 2 := by omega
      rcases hm with hm | hm | hm
      · rw [show j = j / 3 * 3 by omega, d0] at hj
        cases hj
        rw [show off + j = off + j / 3 * 3 by omega]; exact c0
      · rw [show j = j / 3 * 3 + 1 by omega, d1] at hj
        cases hj
        rw [show off + j = off + j / 3 * 3 + 1 by omega]; exact c1
      · rw [show j = j / 3 * 3 + 2 by omega, d2] at hj
        cases hj
        rw [show off + j = off + j / 3 * 3 + 2 by omega]; exact c2
  clear h
  rcases hcases with ⟨c, rfl, rfl⟩ | ⟨ad, c, rfl, hc⟩
  · go_enter Tryz.func20, Tryz.ntmps20
    go_wp2
    go_ret
    exact ⟨_, rfl, World.ownsRow_nil _ _ _ _, Below.refl _ _⟩
  · have HC := Lib.hid hc
    clear hc
    go_enter Tryz.func20, Tryz.ntmps20
    go_wp2_with (at_builtin; refine wpList_append_own _ rfl _ _ 22 rfl w.heap.size 35 i30 (.agg #[.int .i64 0, .string ByteArray.empty, .int .i64 0]) 3 32 und23 hi30 hz30 hs30 hb30 rfl (by decide) _ _ _ rfl (World.ownsRow_made w #[] 0 (Nat.le_refl _) (Nat.zero_le _) (by simp)) ad l.length c (tokRow l) rfl ?qc1 ?qc2 ?qc3 ?qc4 ?qc5 ?qc6 ?_)
    case qc1 => exact tokRow_len l
    case qc2 =>
      intro j u hj
      exact Lib.cell?_alloc_some _ (HC.out j u hj)
    case qc3 =>
      intro u hu
      obtain ⟨t, _, ht⟩ := List.mem_flatMap.1 hu
      exact tok_one t u ht
    case qc4 => unfold maxLen; omega
    case qc5 => omega
    case qc6 => simp
    intro v' w1 hown hgrow hnil
    go_wp2
    go_ret
    refine ⟨v', rfl, by simpa using hown, ?_⟩
    exact ((Below.refl _ w).alloc (Nat.le_refl _) _).grown hgrow (by simp) (by intro k hk; simp [Value.ownBlock] at hk; omega)
end Go.Proofs.YtgnpkpboilnijaaGreatDoor
namespace Go.Proofs.YtgnpkpboilnijaaGreatDoor
open Go.ChangeShapes Go.WideShapes Go.ChangeAt Go.RowKit
set_option maxRecDepth 100000
set_option linter.unusedVariables false
set_option linter.unusedSimpArgs false

theorem num_size (l : Tx) : (numL l).length ≤ l.length := by
  unfold numL
  rw [front_drop]
  split
  · rw [List.length_take, List.length_drop]; omega
  · rw [List.length_drop]; omega
theorem norm_size (t : Tok) : (normT t).2.1.size ≤ t.2.1.size := by
  unfold normT
  split
  · show (bb (numL t.2.1.data.toList)).size ≤ _
    rw [bb_size]; exact num_size _
  · exact Nat.le_refl _
/-- tokens of the call's own, the first k of them in normal form -/
structure NtI (l : List Tok) (g k : Nat) (w0 wr : World) : Prop where
  bel : Below w0.heap.size w0 wr
  lt : g < wr.heap.size
  cell : ∀ i (hi : i < l.length), wr.cell? ⟨g, i * 3, none⟩ = some (.int .i64 l[i].1) ∧ wr.cell? ⟨g, i * 3 + 1, none⟩ = some (.string (if i < k then (normT l[i]).2.1 else l[i].2.1)) ∧ wr.cell? ⟨g, i * 3 + 2, none⟩ = some (.int .i64 l[i].2.2)
  fro : ∀ i (hi : i < l.length), wr.frozen? ⟨g, i * 3 + 1, none⟩ = false
theorem norm_kind (t : Tok) : (normT t).1 = t.1 ∧ (normT t).2.2 = t.2.2 := by
  unfold normT
  split
  · rename_i h; exact ⟨h.symm, rfl⟩
  · exact ⟨rfl, rfl⟩
theorem NtI.step {l : List Tok} {g k : Nat} {w0 wr w2 : World} (h : NtI l g k w0 wr) (b : Below wr.heap.size wr w2) : NtI l g k w0 w2 := by
  refine ⟨h.bel.trans (b.mono h.bel.size), Nat.lt_of_lt_of_le h.lt b.size, fun i hi => ?_, fun i hi => ?_⟩
  · obtain ⟨a, c, d⟩ := h.cell i hi
    refine ⟨?_, ?_, ?_⟩
    · rw [b.cell (p := ⟨g, i * 3, none⟩) h.lt]; exact a
    · rw [b.cell (p := ⟨g, i * 3 + 1, none⟩) h.lt]; exact c
    · rw [b.cell (p := ⟨g, i * 3 + 2, none⟩) h.lt]; exact d
  · rw [b.frozen (p := ⟨g, i * 3 + 1, none⟩) h.lt]; exact h.fro i hi
theorem NtI.put {l : List Tok} {g k : Nat} {w0 wr : World} (h : NtI l g k w0 wr) (hg : w0.heap.size ≤ g) (hk : k < l.length) : NtI l g (k + 1) w0 (wr.setCell ⟨g, k * 3 + 1, none⟩ (.string (normT l[k]).2.1)) := by
  refine ⟨h.bel.setCell hg _, by simpa [World.setCell] using h.lt, fun i hi => ?_, fun i hi => by rw [World.frozen?_setCell]; exact h.fro i hi⟩
  obtain ⟨c0, c1, c2⟩ := h.cell i hi
  refine ⟨?_, ?_, ?_⟩
  · rw [World.cell?_setCell_other _ _ _ _ (by intro h2; simp only [Addr.mk.injEq] at h2; omega)]; exact c0
  · by_cases e : i = k
    · subst e
      rw [World.cell?_setCell_same _ _ _ c1, if_pos (by omega)]
    · rw [World.cell?_setCell_other _ _ _ _ (by intro h2; simp only [Addr.mk.injEq] at h2; omega), c1]
      by_cases e2 : i < k
      · rw [if_pos e2, if_pos (by omega)]
      · rw [if_neg e2, if_neg (by omega)]
  · rw [World.cell?_setCell_other _ _ _ _ (by intro h2; simp only [Addr.mk.injEq] at h2; omega)]; exact c2
theorem NtI.skip {l : List Tok} {g k : Nat} {w0 wr : World} (h : NtI l g k w0 wr) (hk : k < l.length) (hn : l[k].1 ≠ 4) : NtI l g (k + 1) w0 wr := by
  refine ⟨h.bel, h.lt, fun i hi => ?_, h.fro⟩
  obtain ⟨c0, c1, c2⟩ := h.cell i hi
  refine ⟨c0, ?_, c2⟩
  rw [c1]
  by_cases e : i = k
  · subst e
    have hx : (normT l[i]).2.1 = l[i].2.1 := by unfold normT; rw [if_neg hn]
    rw [if_neg (by omega), if_pos (by omega), hx]
  · by_cases e2 : i < k
    · rw [if_pos e2, if_pos (by omega)]
    · rw [if_neg e2, if_neg (by omega)]
theorem NtI.read {l : List Tok} {g cap : Nat} {w0 wr : World} (h : NtI l g l.length w0 wr) (hc : l.length ≤ cap) : TR wr (.slice (some ⟨g, 0, none⟩) l.length cap) (l.map normT) := by
  have hl : (l.map normT).length = l.length := List.length_map _
  refine .inr ⟨g, 0, cap, by rw [hl], by rw [hl]; exact hc, fun i t ht => ?_⟩
  have hi := (List.getElem?_eq_some_iff.1 ht).1
  rw [hl] at hi
  rw [List.getElem?_map, List.getElem?_eq_getElem hi] at ht
  cases ht
  obtain ⟨c0, c1, c2⟩ := h.cell i hi
  rw [if_pos hi] at c1
  obtain ⟨n1, n2⟩ := norm_kind l[i]
  simp only [Nat.zero_add]
  exact ⟨by rw [n1]; exact c0, c1, by rw [n2]; exact c2⟩
theorem nt_start (l : List Tok) (hl : l ≠ []) (w w2 : World) (v : Value) (h : w2.ownsRow w.heap.size 35 3 v l.length (tokRow l)) (hb : Below w.heap.size w w2) :
    ∃ g cap, v = .slice (some ⟨g, 0, none⟩) l.length cap ∧ l.length ≤ cap ∧ w.heap.size ≤ g ∧ NtI l g 0 w w2 := by
  rcases h.2 with ⟨_, hz⟩ | ⟨g, cap, cur, rfl, hbg, hh, hc, hm, hs, ht⟩
  · exact absurd (List.eq_nil_of_length_eq_zero hz) hl
  · refine ⟨g, cap, rfl, hc, hbg, hb, (Array.getElem?_eq_some_iff.1 hh).1, fun i hi => ?_, fun i hi => Lib.frozen_of_heap hh _⟩
    obtain ⟨a, b, c⟩ := tokRow_get l i l[i] (List.getElem?_eq_getElem hi)
    have hcell := h.cells (g := g) rfl
    have e1 := hcell _ _ a
    have e2 := hcell _ _ b
    have e3 := hcell _ _ c
    rw [Addr.add_lit, Nat.zero_add] at e1 e2 e3
    exact ⟨e1, e2, e3⟩
set_option maxHeartbeats 4000000 in
theorem tokens_any (v : Value) (l0 : List Tok) (m : Int) (w : World) (hl0 : l0.length ≤ 65536) (hz0 : ∀ t ∈ l0, t.2.1.size ≤ 65536) (h : TR w v l0) (hm : Wd m w) :
    Calls Tryz.prog 11 #[v] w fun e w' => e = .returned (.string (bb (showL (tokensL l0)))) ∧ Below w.heap.size w w' := by
  have hun := unended_any v l0 w h hl0
  obtain ⟨l, hll⟩ : ∃ l, l0.take (unN l0 l0.length) = l := ⟨_, rfl⟩
  have hres : showL (tokensL l0) = showL (l.map normT) := by unfold tokensL; rw [hll]
  rw [hres]
  rw [hll] at hun
  have hl : l.length ≤ 65536 := by rw [← hll, List.length_take]; omega
  have hz : ∀ t ∈ l, t.2.1.size ≤ 65536 := fun t ht => hz0 t (List.mem_of_mem_take (by rw [hll]; exact ht))
  have hcl := fun v' w1 (h1 : TR w1 v' l) => tclone_any v' l w1 h1 hl
  have hsh := fun v' w1 (h1 : TR w1 v' (l.map normT)) (h2 : Wd m w1) => show_any v' (l.map normT) m w1 (by rw [List.length_map]; exact hl) (fun t ht => by
    obtain ⟨u, hu, rfl⟩ := List.mem_map.1 ht
    exact Nat.le_trans (norm_size u) (hz u hu)) h1 h2
  have HUN := Lib.hid hun
  have HCL := Lib.hid hcl
  have HSH := Lib.hid hsh
  have HZ := Lib.hid hz
  have HM := Lib.hid hm
  clear hun hcl hsh hres hll hz hz0 hl0 h hm
  go_enter Tryz.func11, Tryz.ntmps11
  go_wp2_with fail
  refine HUN.out.mono ?_
  rintro e w1 ⟨v1, rfl, ht1, hw1⟩
  obtain rfl := hw1.symm
  have HT1 := Lib.hid ht1
  clear ht1 hw1
  go_wp2_with fail
  refine (HCL.out v1 w HT1.out).mono ?_
  rintro e w2 ⟨v2, rfl, ho2, hb2⟩
  by_cases hne : l = []
  · subst hne
    have ht2 : TR w2 v2 [] := TR.own ho2
    obtain ⟨a2, c2, rfl⟩ := ht2.form
    have HT2 := Lib.hid ht2
    have HB2 := Lib.hid hb2
    have HM2 := Lib.hid (HM.out.below hb2)
    clear ho2 ht2 hb2
    go_wp2
    go_loopw [10] (fun i wr => i = .int .i64 0 ∧ wr = w2) (fun _ _ => 0)
    case atStart => exact ⟨rfl, rfl⟩
    case round =>
      obtain ⟨rfl, hwr2⟩ := hrel
      obtain rfl := hwr2.symm
      go_wp2_with (go_at_call 23; (with_reducible refine (HSH.out _ _ HT2.out HM2.out).mono ?_); rintro e w3 ⟨rfl, hb3⟩)
      go_ret
      exact ⟨rfl, HB2.out.trans (hb3.mono HB2.out.size)⟩
  · obtain ⟨g, cap, rfl, hcap, hg, hI⟩ := nt_start l hne w w2 v2 ho2 hb2
    have HI := Lib.hid hI
    have HG := Lib.hid hg
    clear ho2 hb2 hI hg hne
    go_wp2
    go_loopw [10] (fun i wr => ∃ k : Nat, k ≤ l.length ∧ i = .int .i64 k ∧ NtI l g k w wr) (fun i _ => l.length - (intOf i).toNat)
    case atStart => exact ⟨0, Nat.zero_le _, rfl, HI.out⟩
    case round =>
      obtain ⟨k, hk, rfl, hJ⟩ := hrel
      have HJ := Lib.hid hJ
      clear HI
      by_cases hlt : k < l.length
      · obtain ⟨c0, c1, c2⟩ := hJ.cell k hlt
        rw [if_neg (Nat.lt_irrefl k)] at c1
        have hzk := HZ.out l[k] (List.getElem_mem hlt)
        clear hJ
        by_cases h4 : l[k].1 = 4
        · have hnm := fun w1 => number_any l[k].2.1 w1 (by omega)
          have hpn : (normT l[k]).2.1 = bb (numL l[k].2.1.data.toList) := by unfold normT; rw [if_pos h4]
          have hput := fun (wz : World) (hz : NtI l g k w wz) => hz.put HG.out hlt
          rw [hpn] at hput
          have HP := Lib.hid hput
          have HN := Lib.hid hnm
          rw [h4] at c0
          generalize l[k].2.1 = tx at *
          generalize l[k].2.2 = ta at *
          have hba : Below wr.heap.size wr (wr.alloc (.cells #[.int .i64 4, .string tx, .int .i64 ta] 35)) := (Below.refl _ _).alloc (Nat.le_refl _) _
          have HJ2 := Lib.hid (HJ.out.step hba)
          have hcf := fun (wz : World) (hz : NtI l g k w wz) => hz.fro k hlt
          have HCF := Lib.hid hcf
          clear hput hnm hpn h4 hzk hba hcf
          go_wp2_with (go_at_call 22; (with_reducible refine (HN.out _).mono ?_); rintro e w3 ⟨rfl, hb3⟩; have h3 := HJ2.out.step hb3; have H3 := Lib.hid h3; have hfr := HCF.out w3 h3; have hcl3 := (h3.cell k hlt).2.1; clear h3 hb3)
          go_roundw
          case rel => exact ⟨k + 1, by omega, by go_num, HP.out w3 H3.out⟩
          case measure => simp [intOf]; omega
        · have n4 : (l[k].1 == (4 : Int)) = false := by rw [beq_eq_false_iff_ne]; exact h4
          have HS := Lib.hid (HJ.out.skip hlt h4)
          clear h4 hzk
          generalize l[k].1 = kd at *
          generalize l[k].2.1 = tx at *
          generalize l[k].2.2 = ta at *
          have hba : Below wr.heap.size wr (wr.alloc (.cells #[.int .i64 kd, .string tx, .int .i64 ta] 35)) := (Below.refl _ _).alloc (Nat.le_refl _) _
          have HS2 := Lib.hid (HS.out.step hba)
          clear hba
          go_wp2
          go_roundw
          case rel => exact ⟨k + 1, by omega, by go_num, HS2.out⟩
          case measure => simp [intOf]; omega
      · have hkl : k = l.length := by omega
        subst hkl
        have HT := Lib.hid (hJ.read hcap)
        have HMM := Lib.hid (HM.out.below hJ.bel)
        clear hJ
        go_wp2_with (go_at_call 23; (with_reducible refine (HSH.out _ _ HT.out HMM.out).mono ?_); rintro e w3 ⟨rfl, hb3⟩)
        go_ret
        exact ⟨rfl, HJ.out.bel.trans (hb3.mono HJ.out.bel.size)⟩
theorem form_any (s : ByteArray) (m : Int) (w : World) (hm : Wd m w) :
    Calls Tryz.prog 9 #[.string s] w fun e w' => e = .returned (.tuple #[.string (bb (formA s).1), .int .i64 (formA s).2]) ∧ Below w.heap.size w w' := by
  have h1 := scan_out s _ rfl m w hm
  have hct := scanA_count s
  have htx := scanA_txt s
  unfold formA
  generalize scanA s = R at *
  obtain ⟨l, er, ap⟩ := R
  simp only at hct htx h1 ⊢
  have H1 := Lib.hid h1
  have HM := Lib.hid hm
  have htk := fun v w1 (h : TR w1 v l) (h2 : Wd m w1) => tokens_any v l m w1 (by omega) (fun t ht => by have := htx t ht; omega) h h2
  have HTK := Lib.hid htk
  clear h1 hm htk htx
  by_cases he : er = 0
  · subst he
    rw [if_pos rfl]
    go_enter Tryz.func9, Tryz.ntmps9
    go_wp2_with fail
    refine H1.out.mono ?_
    rintro e w1 ⟨v1, rfl, ht1, hb1⟩
    have HT1 := Lib.hid ht1
    have HB1 := Lib.hid hb1
    have HM1 := Lib.hid (HM.out.below hb1)
    clear ht1 hb1
    go_wp2_with (go_at_call 11; (with_reducible refine (HTK.out _ _ HT1.out HM1.out).mono ?_); rintro e w2 ⟨rfl, hb2⟩)
    go_ret2
    exact ⟨rfl, HB1.out.trans (hb2.mono HB1.out.size)⟩
  · rw [if_neg he]
    have he2 : (er != (0 : Int)) = true := by rw [bne_iff_ne]; exact he
    clear he
    go_enter Tryz.func9, Tryz.ntmps9
    go_wp2_with fail
    refine H1.out.mono ?_
    rintro e w1 ⟨v1, rfl, ht1, hb1⟩
    have HB1 := Lib.hid hb1
    clear ht1 hb1
    go_wp2
    go_ret2
    exact ⟨rfl, HB1.out⟩
end Go.Proofs.YtgnpkpboilnijaaGreatDoor
