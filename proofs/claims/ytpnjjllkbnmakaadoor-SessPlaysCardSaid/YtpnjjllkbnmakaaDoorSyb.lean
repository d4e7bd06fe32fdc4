/- Package sess, its code: what a client says, which rule holds. Conditions: few keys; what is laid. -/
import Derived.Test.YtpnjjllkbnmakaaDoorSya
import Derived.Test.YtpnjjllkbnmakaaDoorShelf
namespace Go.Proofs.YtpnjjllkbnmakaaDoor.SE
open Go.ChangeShapes Go.WideShapes Go.ChangeAt Go.RowKit
open Go.Proofs.YtpnjjllkbnmakaaDoor.SL
set_option maxRecDepth 100000
set_option linter.unusedVariables false
set_option linter.unusedSimpArgs false

theorem clone_any (s : ByteArray) (w : World) (hs : s.size ≤ 281474976710656) :
    Calls Tryd.prog 27 #[.string s] w fun e w' => e = .returned (.string s) ∧ Below w.heap.size w w' := by
  have c := fun w => Tryd.stringslite_Clone s w (by omega)
  go_enter Tryd.func27, Tryd.ntmps27
  go_wp2_with (go_at_call 33; refine (c _).mono ?_; rintro e w' ⟨rfl, hb⟩)
  go_ret
  exact ⟨rfl, hb⟩
/-- the first place of a text -/
def ixL (key : Tx) (l : List Tx) : Option Nat := l.findIdx? fun x => decide (x = key)
def ixI (key : Tx) (l : List Tx) : Int := match ixL key l with | some i => (i : Int) | none => -1
theorem ixL_cons (key x : Tx) (l : List Tx) : ixL key (x :: l) = if x = key then some 0 else (ixL key l).map (· + 1) := by
  unfold ixL
  rw [List.findIdx?_cons]
  by_cases h : x = key
  · simp [h]
  · simp [h]
theorem valL_ix (key : Tx) : ∀ (ks vs : List Tx), valL key ks vs = match ixL key ks with | some i => vs.getD i e0 | none => e0
  | [], vs => by unfold valL ixL; rfl
  | k :: ks, [] => by
    rw [show valL key (k :: ks) [] = e0 from rfl]
    cases ixL key (k :: ks) <;> rfl
  | k :: ks, v :: vs => by
    rw [show valL key (k :: ks) (v :: vs) = if k = key then v else valL key ks vs from rfl, ixL_cons]
    by_cases h : k = key
    · rw [if_pos h, if_pos h]; rfl
    · rw [if_neg h, if_neg h, valL_ix key ks vs]
      cases ixL key ks <;> rfl
theorem ixL_lt {key : Tx} {l : List Tx} {i : Nat} (h : ixL key l = some i) : i < l.length := by
  unfold ixL at h
  obtain ⟨h1, _⟩ := List.findIdx?_eq_some_iff_getElem.1 h
  exact h1
theorem ixL_drop {key : Tx} {l : List Tx} (k : Nat) (h : ∀ i, i < k → ∀ x, l[i]? = some x → x ≠ key) (hk : k ≤ l.length) : ixL key l = (ixL key (l.drop k)).map (· + k) := by
  induction k generalizing l with
  | zero => simp
  | succ k ih =>
    match l, hk with
    | x :: l, hk =>
      rw [ixL_cons, if_neg (h 0 (by omega) x rfl), List.drop_succ_cons, ih (l := l) (fun i hi y hy => h (i + 1) (by omega) y (by simpa using hy)) (by simpa using hk)]
      cases ixL key (l.drop k) <;> simp; omega
set_option maxHeartbeats 2000000 in
theorem index_any (v : Value) (l : List Tx) (key : Tx) (w : World) (h : TS w v l) (hl : l.length ≤ 30) :
    Calls Tryd.prog 34 #[v, .string key] w fun e w' => e = .returned (nV (ixI key l)) ∧ w = w' := by
  have hx1 := h
  obtain ⟨a1, c1, rfl⟩ := h.form
  have HX := Lib.hid hx1
  have HL := Lib.hid hl
  clear hx1 h hl
  obtain ⟨R, hR⟩ : ∃ R, ixI key l = R := ⟨_, rfl⟩
  rw [hR]
  have HR := Lib.hid hR
  clear hR
  go_enter Tryd.func34, Tryd.ntmps34
  go_wp2
  go_loopg [8] l.length (fun g u8 wx => ∃ k : Nat, u8 = .int .i64 (k : Int) ∧ k + g = l.length ∧ (∀ i, i < k → ∀ x, l[i]? = some x → x ≠ key) ∧ w = wx)
  case atStart => exact ⟨0, rfl, by omega, fun i hi => by omega, rfl⟩
  case round =>
    obtain ⟨k, rfl, hk, hv, rfl⟩ := hrel
    have HV := Lib.hid hv
    clear hv
    cases gk with
    | zero =>
      have hv2 : R = -1 := by
        rw [← HR.out]
        have : ixL key l = none := by
          rw [ixL_drop k HV.out (by omega), show l.drop k = [] from List.drop_of_length_le (by omega)]; rfl
        unfold ixI; rw [this]
      have l1 : ¬ ((k : Int) < (l.length : Int)) := by omega
      subst hv2
      clear HV HR HX HL hk
      go_wp2
      go_ret
      exact ⟨rfl, rfl⟩
    | succ g =>
      have hlt : k < l.length := by omega
      obtain ⟨b1, o1, q1, he1, hc1, hx1⟩ := HX.out.inv (by omega)
      injection he1 with f1 _ f3
      subst f1 f3
      obtain ⟨x, hxe⟩ : ∃ x, l[k]? = some x := ⟨_, List.getElem?_eq_getElem hlt⟩
      have x1 := hx1 k x hxe
      have l0 : (0 : Int) ≤ (k : Int) := by omega
      have l1 : (k : Int) < (l.length : Int) := by omega
      have l2 : (l.length : Int) ≤ 30 := by have := HL.out; omega
      obtain ⟨k1, hk1⟩ : ∃ k1, k + 1 = k1 := ⟨_, rfl⟩
      have l3 : IntKind.i64.wrap ((k : Int) + 1) = (k1 : Int) := by rw [show (k : Int) + 1 = (k1 : Int) by omega]; exact IntWalk.i64_in _ (by omega)
      have HK1 := Lib.hid hk1
      have hd := tl_dec key x
      by_cases e : x = key
      · have hd2 : (key.toList == x.toList) = true := by rw [hd, e]; simp
        have hv2 : R = (k : Int) := by
          rw [← HR.out]
          have : ixL key l = some k := by
            rw [ixL_drop k HV.out (by omega), List.drop_eq_getElem_cons hlt, ixL_cons, if_pos (by
              rw [List.getElem?_eq_getElem hlt] at hxe; injection hxe with hxe; rw [hxe, e])]
            simp
          unfold ixI; rw [this]
        subst hv2
        clear HV HR HX HL hk hd hx1 hxe e hk1 HK1
        go_wp2
        go_ret
        exact ⟨rfl, rfl⟩
      · have hd2 : (key.toList == x.toList) = false := by rw [hd]; simp; exact fun h => e h.symm
        have HV2 : Hid (∀ i, i < k1 → ∀ y, l[i]? = some y → y ≠ key) := Lib.hid fun i hi y hy => by
          by_cases hik : i = k
          · subst hik; rw [hxe] at hy; injection hy with hy; rw [← hy]; exact e
          · exact HV.out i (by omega) y hy
        clear HR HX HL hd hx1 hk1 hxe e HV
        go_wp2
        go_roundg g
        case measure => exact Nat.lt_succ_self _
        case rel => exact ⟨k1, rfl, by have := HK1.out; omega, HV2.out, rfl⟩
end Go.Proofs.YtpnjjllkbnmakaaDoor.SE
