/- The document's store for slru: a segment without a key; a segment with an entry ahead of all. Conditions: how many. -/
import Derived.Test.YtfilmbeoggmglaaSms
namespace Go.Proofs.Ytfilmbeoggmglaa.SL
open Go.ChangeShapes Go.WideShapes Go.ChangeAt Go.RowKit Go.Maps Go.ChangeMaps
set_option maxRecDepth 100000
set_option linter.unusedVariables false
set_option linter.unusedSimpArgs false

def EnsP (B : Nat) (w : World) (L : List En) (e : Ending) (w' : World) : Prop := ∃ v c, e = .returned (.slice v L.length c) ∧ EO B w' (.slice v L.length c) L ∧ Below w.heap.size w w'
set_option maxHeartbeats 2000000 in
theorem rahead_any (v : Value) (l : List En) (y : En) (w : World) (h : ER w v l) (hl : l.length ≤ 1073741824) :
    Calls Try.prog 46 #[v, .agg #[.string y.1, .int .i64 y.2]] w (EnsP w.heap.size w (y :: l)) := by
  obtain ⟨va, vc, rfl⟩ := h.form
  have HE := Lib.hid h
  have HLEN := Lib.hid hl
  obtain ⟨yk, yz⟩ := y
  obtain ⟨L, hL⟩ : ∃ L, ([(yk, yz)] : List En) ++ l = L := ⟨_, rfl⟩
  rw [show ((yk, yz) :: l) = L from hL]
  have HL := Lib.hid hL
  clear h hl hL
  go_enter Try.func46, Try.ntmps46
  have hb1 : Below w.heap.size w ((w.alloc (.cells #[.string yk, .int .i64 yz] 88)).alloc (.cells #[.string yk, .int .i64 yz] 88)) := ((Below.refl _ _).alloc (Nat.le_refl _) _).alloc (by simp) _
  have HB1 := Lib.hid hb1
  have hk1 := Bk.new (w.alloc (.cells #[.string yk, .int .i64 yz] 88)) 88 #[.string yk, .int .i64 yz]
  have e1 : (w.alloc (.cells #[.string yk, .int .i64 yz] 88)).heap.size = w.heap.size + 1 := by simp
  rw [e1] at hk1
  have HK1 := Lib.hid hk1
  clear hb1 hk1 e1
  go_wp2_with (at_builtin; first
    | (refine wpList_app_ens w.heap.size (.slice none 0 0) [] (.slice (some ⟨w.heap.size + 1, 0, none⟩) 1 1) [(yk, yz)] [(yk, yz)] rfl rfl _ _ rfl rfl (EO.nil _ _) rfl (one_er HK1.out) (by simp) (by simp; omega) ?_; intro va5 c5 w5 o5 b5; have HO5 := Lib.hid o5; have HB5 := Lib.hid (HB1.out.trans b5); clear o5 b5)
    | (refine wpList_app_ens w.heap.size (.slice va5 1 c5) [(yk, yz)] (.slice va l.length vc) l L HL.out rfl _ _ rfl rfl HO5.out rfl (HE.out.below HB5.out) (by have := HLEN.out; simp; omega) HB5.out.size ?_; intro va6 c6 w6 o6 b6; have HO6 := Lib.hid o6; have HB6 := Lib.hid (HB5.out.trans b6); clear o6 b6))
  go_ret
  exact ⟨_, _, rfl, HO6.out, HB6.out⟩
set_option maxHeartbeats 2000000 in
theorem rwithout_any (v : Value) (l : List En) (k : ByteArray) (w : World) (h : ER w v l) (hl : l.length ≤ 1073741824) :
    Calls Try.prog 51 #[v, .string k] w (EnsP w.heap.size w (delE k l)) := by
  obtain ⟨va, vc, rfl⟩ := h.form
  have HE := Lib.hid h
  have HLEN := Lib.hid hl
  clear h hl
  obtain ⟨R, hR⟩ : ∃ R, delE k l = R := ⟨_, rfl⟩
  rw [hR]
  have HR := Lib.hid hR
  clear hR
  go_enter Try.func51, Try.ntmps51
  go_wp2
  go_loopg [5, 6] l.length (fun g u5 u6 wx => ∃ (i : Nat) (D : List En), u6 = .int .i64 (i : Int) ∧ i + g = l.length ∧ delE k (l.take i) = D ∧ (∃ a c, u5 = .slice a D.length c) ∧ EO w.heap.size wx u5 D ∧ Below w.heap.size w wx)
  case atStart => exact ⟨0, [], rfl, by omega, rfl, ⟨_, _, rfl⟩, EO.nil _ _, Below.refl _ _⟩
  case round =>
    obtain ⟨i, D, rfl, hi, hD, ⟨ua, uc, rfl⟩, hO, hB⟩ := hrel
    have HO := Lib.hid hO
    have HB := Lib.hid hB
    cases gk with
    | zero =>
      have hil : i = l.length := by omega
      have l1 : ¬ ((i : Int) < (l.length : Int)) := by omega
      have hd2 : D = R := by rw [← hD, hil, List.take_length]; exact HR.out
      subst hd2
      clear hi hil hO hB hD
      go_wp2
      go_ret
      exact ⟨_, _, rfl, HO.out, HB.out⟩
    | succ g =>
      have hlt : i < l.length := by omega
      obtain ⟨b, off, cap, he, hc, hx⟩ := (HE.out.below hB).inv (by omega)
      injection he with e1 _ e3
      subst e1 e3
      obtain ⟨y, hy⟩ : ∃ y, l[i] = y := ⟨_, rfl⟩
      have hyi : l[i]? = some y := by rw [List.getElem?_eq_getElem hlt, hy]
      obtain ⟨x0, x1⟩ := hx i y hyi
      have l0 : (0 : Int) ≤ (i : Int) := by omega
      have l1 : (i : Int) < (l.length : Int) := by omega
      obtain ⟨i1, hi1⟩ : ∃ i1, i + 1 = i1 := ⟨_, rfl⟩
      have wk : IntKind.i64.wrap ((i : Int) + 1) = (i1 : Int) := by rw [show (i : Int) + 1 = (i1 : Int) by omega]; exact IntWalk.i64_in _ (by have := HLEN.out; omega)
      have hdl := delE_take (k := k) hyi
      rw [hi1, hD] at hdl
      have HDL : Hid (D.length ≤ 1073741824) := Lib.hid (by
        rw [← hD]
        unfold delE
        have := List.length_filter_le (fun x : En => decide (x.1 ≠ k)) (l.take i)
        rw [List.length_take] at this
        have := HLEN.out; omega)
      have HI1 : Hid (i1 + g = l.length) := Lib.hid (by omega)
      obtain ⟨yk, yz⟩ := y
      simp only at hdl x0 x1
      by_cases hk : yk = k
      · have es : (yk.toList == k.toList) = true := by rw [tl_dec]; exact decide_eq_true hk
        have es2 : (!(yk.toList == k.toList)) = false := by rw [es]; rfl
        rw [if_pos hk] at hdl
        have HDD := Lib.hid hdl
        clear hi hx hc hy hyi hi1 hk hlt hdl hD hO hB
        go_wp2
        go_roundg g
        case measure => exact Nat.lt_succ_self _
        case rel => exact ⟨i1, D, rfl, HI1.out, HDD.out, ⟨_, _, rfl⟩, HO.out, HB.out⟩
      · have es : (yk.toList == k.toList) = false := by rw [tl_dec]; exact decide_eq_false hk
        have es2 : (!(yk.toList == k.toList)) = true := by rw [es]; rfl
        rw [if_neg hk] at hdl
        obtain ⟨D2, hD2⟩ : ∃ D2, D ++ [(yk, yz)] = D2 := ⟨_, rfl⟩
        rw [hD2] at hdl
        have HDD := Lib.hid hdl
        have HD2 := Lib.hid hD2
        clear hi hx hc hy hyi hi1 hk hlt hdl hD hO hB hD2
        have hbx : Below wr.heap.size wr (wr.alloc (.cells #[.string yk, .int .i64 yz] 88)) := (Below.refl _ _).alloc (Nat.le_refl _) _
        have HBX := Lib.hid hbx
        clear hbx
        go_wp2_with (at_builtin; refine wpList_app_ens w.heap.size (.slice ua D.length uc) D (.slice (some ⟨wr.heap.size, 0, none⟩) 1 1) [(yk, yz)] D2 HD2.out rfl _ _ rfl rfl (HO.out.below HBX.out) rfl (one_er (Bk.new wr _ _)) (by have := HDL.out; simp; omega) (by have := HB.out.size; simp; omega) ?_; intro va9 c9 w9 o9 b9)
        have HB9 : Hid (Below w.heap.size w w9) := Lib.hid ((HB.out.alloc HB.out.size _).trans b9)
        have HO9 := Lib.hid o9
        clear o9 b9
        go_wp2
        go_roundg g
        case measure => exact Nat.lt_succ_self _
        case rel => exact ⟨i1, D2, rfl, HI1.out, HDD.out, ⟨_, _, rfl⟩, HO9.out, HB9.out⟩
end Go.Proofs.Ytfilmbeoggmglaa.SL
