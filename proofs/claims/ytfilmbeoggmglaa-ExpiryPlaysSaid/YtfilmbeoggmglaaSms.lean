/- The document's store for slru: a key's place, a segment without a key, one with an entry ahead, keys. Conditions: how many. -/
import Derived.Test.YtfilmbeoggmglaaSmr
namespace Go.Proofs.Ytfilmbeoggmglaa.SL
open Go.ChangeShapes Go.WideShapes Go.ChangeAt Go.RowKit Go.Maps Go.ChangeMaps
set_option maxRecDepth 100000
set_option linter.unusedVariables false
set_option linter.unusedSimpArgs false

theorem keysE_take {l : List En} {i : Nat} {y : En} (h : l[i]? = some y) : keysE (l.take (i + 1)) = keysE (l.take i) ++ [y.1] := by
  rw [List.take_add_one, h]; unfold keysE; rw [List.map_append]; rfl
theorem delE_take {l : List En} {i : Nat} {y : En} {k : ByteArray} (h : l[i]? = some y) : delE k (l.take (i + 1)) = if y.1 = k then delE k (l.take i) else delE k (l.take i) ++ [y] := by
  rw [List.take_add_one, h]; unfold delE; rw [List.filter_append]
  by_cases e : y.1 = k
  · rw [if_pos e]; simp [e]
  · rw [if_neg e]; simp [e]
/-- where a key stands first -/
def placeE (l : List En) (k : ByteArray) : Option Nat := l.findIdx? fun x => decide (x.1 = k)
set_option maxHeartbeats 2000000 in
theorem rkeys_any (v : Value) (l : List En) (w : World) (h : ER w v l) (hl : l.length ≤ 1073741824) :
    Calls Try.prog 22 #[v] w fun e w' => ∃ u, e = .returned u ∧ OT w.heap.size w' u (keysE l) ∧ Below w.heap.size w w' := by
  obtain ⟨va, vc, rfl⟩ := h.form
  have HE := Lib.hid h
  have HLEN := Lib.hid hl
  clear h hl
  go_enter Try.func22, Try.ntmps22
  go_wp2
  go_loopg [3, 4] l.length (fun g u3 u4 wx => ∃ i : Nat, u4 = .int .i64 (i : Int) ∧ i + g = l.length ∧ OT w.heap.size wx u3 (keysE (l.take i)) ∧ Below w.heap.size w wx)
  case atStart => exact ⟨0, rfl, by omega, OT.nil _ _, Below.refl _ _⟩
  case round =>
    obtain ⟨i, rfl, hi, hO, hB⟩ := hrel
    obtain ⟨ua, uc, rfl⟩ := hO.ts.form
    have HO := Lib.hid hO
    have HB := Lib.hid hB
    cases gk with
    | zero =>
      have hil : i = l.length := by omega
      have l1 : ¬ ((i : Int) < (l.length : Int)) := by omega
      have HIL := Lib.hid hil
      obtain ⟨D, hD⟩ : ∃ D, keysE (l.take i) = D := ⟨_, rfl⟩
      have hD2 : D = keysE l := by rw [← hD, hil, List.take_length]
      have HD := Lib.hid hD
      have HD2 := Lib.hid hD2
      rw [hD]
      clear hi hil hO hB hD hD2
      go_wp2
      go_ret
      exact ⟨_, rfl, by have := HO.out; rw [HD.out] at this; rw [← HD2.out]; exact this, HB.out⟩
    | succ g =>
      have hlt : i < l.length := by omega
      obtain ⟨b, off, cap, he, hc, hx⟩ := (HE.out.below hB).inv (by omega)
      injection he with e1 _ e3
      subst e1 e3
      obtain ⟨y, hy⟩ : ∃ y, l[i] = y := ⟨_, rfl⟩
      have hyi : l[i]? = some y := by rw [List.getElem?_eq_getElem hlt, hy]
      obtain ⟨x0, x1⟩ := hx i y hyi
      have l0 : (0 : Int) ≤ (i : Int) := by omega
      have l1 : (i : Int) < (l.length : Int) := by omega
      obtain ⟨i1, hi1⟩ : ∃ i1, i + 1 = i1 := ⟨_, rfl⟩
      have wk : IntKind.i64.wrap ((i : Int) + 1) = (i1 : Int) := by rw [show (i : Int) + 1 = (i1 : Int) by omega]; exact IntWalk.i64_in _ (by have := HLEN.out; omega)
      have hk := keysE_take hyi
      rw [hi1] at hk
      obtain ⟨D, hD⟩ : ∃ D, keysE (l.take i) = D := ⟨_, rfl⟩
      have HDL : Hid (D.length ≤ 1073741824) := Lib.hid (by rw [← hD]; unfold keysE; rw [List.length_map, List.length_take]; have := HLEN.out; omega)
      rw [hD] at hk
      have HK := Lib.hid hk
      have HO := Lib.hid (show OT w.heap.size wr (.slice ua D.length uc) D by rw [← hD]; exact hO)
      have HI1 : Hid (i1 + g = l.length) := Lib.hid (by omega)
      obtain ⟨yk, yz⟩ := y
      rw [hD]
      clear hi hx hc hy hyi hi1 hk hO hB hlt hD
      have hbx : Below wr.heap.size wr (wr.alloc (.cells #[.string yk] 9)) := (Below.refl _ _).alloc (Nat.le_refl _) _
      have HBX := Lib.hid hbx
      clear hbx
      go_wp2_with (at_builtin; refine wpList_app_text w.heap.size (.slice ua D.length uc) D yk wr.heap.size rfl _ _ rfl rfl (HO.out.below HBX.out) rfl (Bk.new wr _ _) (by have := HDL.out; omega) (by have := HB.out.size; simp; omega) ?_; intro g9 cap9 w9 o9 gr9)
      have HB9 : Hid (Below w.heap.size w w9) := Lib.hid ((HB.out.alloc HB.out.size _).grown gr9 (by have := HB.out.size; simp; omega) fun k hk => (World.ownsRow.lt HO.out k hk).1)
      have HO9 := Lib.hid o9
      clear o9 gr9
      go_wp2
      go_roundg g
      case measure => exact Nat.lt_succ_self _
      case rel =>
        refine ⟨i1, rfl, HI1.out, ?_, HB9.out⟩
        rw [HK.out]
        have := HO9.out
        simpa using this
set_option maxHeartbeats 2000000 in
theorem rplace_any (v : Value) (l : List En) (k : ByteArray) (w : World) (h : ER w v l) (hl : l.length ≤ 1073741824) :
    Calls Try.prog 50 #[v, .string k] w fun e w' => e = .returned (.int .i64 (match placeE l k with | some i => (i : Int) | none => -1)) ∧ ∃ n, w' = w.drewN n := by
  obtain ⟨R, hR⟩ : ∃ R : Int, (match placeE l k with | some i => (i : Int) | none => -1) = R := ⟨_, rfl⟩
  rw [hR]
  obtain ⟨va, vc, rfl⟩ := h.form
  have HE := Lib.hid h
  have HLEN := Lib.hid hl
  have HR := Lib.hid hR
  clear h hl hR
  go_enter Try.func50, Try.ntmps50
  go_wp2
  go_loopg [5] l.length (fun g u5 wx => ∃ i : Nat, u5 = .int .i64 (i : Int) ∧ i + g = l.length ∧ (∀ j y, j < i → l[j]? = some y → y.1 ≠ k) ∧ ∃ n, wx = w.drewN n)
  case atStart => exact ⟨0, rfl, by omega, fun j y hj => by omega, 0, rfl⟩
  case round =>
    obtain ⟨i, rfl, hi, hno, n0, rfl⟩ := hrel
    cases gk with
    | zero =>
      have hil : i = l.length := by omega
      have l1 : ¬ ((i : Int) < (l.length : Int)) := by omega
      have hn : placeE l k = none := by
        unfold placeE
        rw [List.findIdx?_eq_none_iff]
        intro y hy
        obtain ⟨j, hj⟩ := List.getElem?_of_mem hy
        have := hno j y (by have := (List.getElem?_eq_some_iff.1 hj).1; omega) hj
        simpa using this
      have hr : R = -1 := by rw [← HR.out, hn]
      subst hr
      clear hi hil hno hn HR
      go_wp2
      go_ret
      exact ⟨rfl, _, rfl⟩
    | succ g =>
      have hlt : i < l.length := by omega
      obtain ⟨b, off, cap, he, hc, hx⟩ := HE.out.inv (by omega)
      injection he with e1 _ e3
      subst e1 e3
      obtain ⟨y, hy⟩ : ∃ y, l[i] = y := ⟨_, rfl⟩
      have hyi : l[i]? = some y := by rw [List.getElem?_eq_getElem hlt, hy]
      obtain ⟨x0, x1⟩ := hx i y hyi
      have l0 : (0 : Int) ≤ (i : Int) := by omega
      have l1 : (i : Int) < (l.length : Int) := by omega
      obtain ⟨i1, hi1⟩ : ∃ i1, i + 1 = i1 := ⟨_, rfl⟩
      have wk : IntKind.i64.wrap ((i : Int) + 1) = (i1 : Int) := by rw [show (i : Int) + 1 = (i1 : Int) by omega]; exact IntWalk.i64_in _ (by have := HLEN.out; omega)
      have HI1 : Hid (i1 + g = l.length) := Lib.hid (by omega)
      obtain ⟨yk, yz⟩ := y
      by_cases hk : yk = k
      · have es : (yk.toList == k.toList) = true := by rw [tl_dec]; exact decide_eq_true hk
        have hp : placeE l k = some i := by
          unfold placeE
          rw [List.findIdx?_eq_some_iff_getElem]
          refine ⟨hlt, by rw [hy]; simp [hk], fun j hj => ?_⟩
          have := hno j l[j] hj (List.getElem?_eq_getElem (by omega))
          simpa using this
        have hr : R = (i : Int) := by rw [← HR.out, hp]
        subst hr
        clear hi hx hc hy hyi hi1 hno hp HR hk hlt
        go_wp2
        go_ret
        exact ⟨rfl, _, rfl⟩
      · have es : (yk.toList == k.toList) = false := by rw [tl_dec]; exact decide_eq_false hk
        have hno1 : ∀ j y, j < i1 → l[j]? = some y → y.1 ≠ k := by
          intro j q hj hq
          by_cases hji : j < i
          · exact hno j q hji hq
          · have : j = i := by omega
            subst this
            rw [hyi] at hq
            injection hq with hq
            subst hq
            exact hk
        have HNO := Lib.hid hno1
        clear hi hx hc hy hyi hi1 hno hno1 hk hlt
        go_wp2
        go_roundg g
        case measure => exact Nat.lt_succ_self _
        case rel => exact ⟨i1, rfl, HI1.out, HNO.out, _, rfl⟩
end Go.Proofs.Ytfilmbeoggmglaa.SL
