/- Package prep in a law: a book as plain words; are two lists of texts the same. Conditions: sizes, how many. -/
import Derived.Test.YtkifmhdceobfhaaDoorPpl
import Derived.Test.YtkifmhdceobfhaaDoorPpj
namespace Go.Proofs.YtkifmhdceobfhaaDoor.PP
open Go.ChangeShapes Go.WideShapes Go.ChangeAt Go.RowKit Go.Maps Go.ChangeMaps
open Go.Proofs.YtkifmhdceobfhaaDoor.SL
set_option maxRecDepth 100000
set_option linter.unusedVariables false
set_option linter.unusedSimpArgs false

set_option maxHeartbeats 2000000 in
theorem texts_any (v1 v2 : Value) (d e : List ByteArray) (w : World) (h1 : TS w v1 d) (h2 : TS w v2 e) (hl : d.length ≤ 2000000000) (hl2 : e.length ≤ 2000000000) :
    Calls Tryd.prog 22 #[v1, v2] w fun r w' => r = .returned (.bool (decide (d = e))) ∧ ∃ n, w' = w.drewN n := by
  have hx1 := h1
  have hx2 := h2
  obtain ⟨a1, c1, rfl⟩ := h1.form
  obtain ⟨a2, c2, rfl⟩ := h2.form
  by_cases hlen : d.length = e.length
  · obtain ⟨R, hR⟩ : ∃ R, decide (d = e) = R := ⟨_, rfl⟩
    rw [hR]
    have HR := Lib.hid hR
    have HX1 := Lib.hid hx1
    have HX2 := Lib.hid hx2
    have HLEN := Lib.hid hlen
    clear hx1 hx2 hR h1 h2
    have ne : ((d.length : Int) != (e.length : Int)) = false := by rw [bne_eq_false_iff_eq, hlen]
    rw [← hlen] at ne ⊢
    clear hlen
    go_enter Tryd.func22, Tryd.ntmps22
    go_wp2
    go_loopg [5] d.length (fun g u5 wx => ∃ k : Nat, u5 = .int .i64 (k : Int) ∧ k + g = d.length ∧ R = decide (d.drop k = e.drop k) ∧ ∃ n, wx = w.drewN n)
    case atStart => exact ⟨0, rfl, by omega, by rw [List.drop_zero, List.drop_zero]; exact HR.out.symm, 0, rfl⟩
    case round =>
      obtain ⟨k, rfl, hk, hv, n0, rfl⟩ := hrel
      cases gk with
      | zero =>
        have hkl : k = d.length := by omega
        have hv2 : R = true := by rw [hv, hkl, List.drop_length, show e.drop d.length = [] by rw [HLEN.out, List.drop_length]]; rfl
        have l1 : ¬ ((k : Int) < (d.length : Int)) := by omega
        subst hv2
        clear hv HX1 HX2 HR
        go_wp2
        go_ret
        exact ⟨rfl, _, rfl⟩
      | succ g =>
        have hlt : k < d.length := by omega
        have hlt2 : k < e.length := by have := HLEN.out; omega
        obtain ⟨b1, o1, q1, he1, hc1, hx1⟩ := HX1.out.inv (by omega)
        injection he1 with f1 _ f3
        subst f1 f3
        obtain ⟨b2, o2, q2, he2, hc2, hx2⟩ := HX2.out.inv (by omega)
        injection he2 with f1 _ f3
        subst f1 f3
        rw [List.drop_eq_getElem_cons hlt, List.drop_eq_getElem_cons hlt2] at hv
        obtain ⟨x, hxe⟩ : ∃ x, d[k] = x := ⟨_, rfl⟩
        obtain ⟨y, hye⟩ : ∃ y, e[k] = y := ⟨_, rfl⟩
        have x1 := hx1 k x (by rw [List.getElem?_eq_getElem hlt, hxe])
        have x2 := hx2 k y (by rw [List.getElem?_eq_getElem hlt2, hye])
        rw [hxe, hye] at hv
        have l0 : (0 : Int) ≤ (k : Int) := by omega
        have l1 : (k : Int) < (d.length : Int) := by omega
        obtain ⟨k1, hk1⟩ : ∃ k1, k + 1 = k1 := ⟨_, rfl⟩
        have wk : IntKind.i64.wrap ((k : Int) + 1) = (k1 : Int) := by rw [show (k : Int) + 1 = (k1 : Int) by omega]; exact IntWalk.i64_in _ (by omega)
        rw [hk1] at hv
        have HK1 := Lib.hid hk1
        clear hx1 hx2 HX1 HX2 HR hk1 hxe hye hc1 hc2 hlt hlt2
        by_cases hxy : x = y
        · have es : (x.toList == y.toList) = true := by rw [tl_dec]; exact decide_eq_true hxy
          have es2 : (!(x.toList == y.toList)) = false := by rw [es]; rfl
          have hv2 : R = decide (d.drop k1 = e.drop k1) := by rw [hv, hxy]; simp
          have HV := Lib.hid hv2
          clear hv hv2 hxy
          go_wp2
          go_quiet (fail)
          go_wp2
          go_roundg g
          case measure => exact Nat.lt_succ_self _
          case rel => exact ⟨k1, rfl, by have := HK1.out; omega, HV.out, _, rfl⟩
        · have es : (x.toList == y.toList) = false := by rw [tl_dec]; exact decide_eq_false hxy
          have es2 : (!(x.toList == y.toList)) = true := by rw [es]; rfl
          have hv2 : R = false := by rw [hv]; simp [hxy]
          subst hv2
          clear hv hxy
          go_wp2
          go_quiet (fail)
          go_wp2
          go_ret
          refine ⟨rfl, ?_⟩
          first | exact ⟨_, rfl⟩ | (rw [World.drewN_drewN]; exact ⟨_, rfl⟩)
  · have ne : ((d.length : Int) != (e.length : Int)) = true := by rw [bne_iff_ne]; omega
    rw [show decide (d = e) = false by rw [decide_eq_false_iff_not]; exact fun h => hlen (by rw [h])]
    clear hx1 hx2 h1 h2 hlen
    go_enter Tryd.func22, Tryd.ntmps22
    go_wp2
    go_ret
    exact ⟨rfl, 0, rfl⟩
theorem below_dn {w w' : World} (h : ∃ n, w' = w.drewN n) : Below w.heap.size w w' := by
  obtain ⟨n, rfl⟩ := h
  exact SL.below_drewN _ _ _
/-- a book, as plain words -/
def LB (B : Nat) (w : World) (a N : Nat) (S : St) : Prop := ∃ C, CB B w a N C S
/-- what a step on a book leaves of all else -/
def Fr (B : Nat) (w w' : World) : Prop := Below B w w' ∧ Kc w w'
section
variable {B : Nat} {w w' : World} {a N : Nat} {S : St}
theorem Fr.refl (B : Nat) (w : World) : Fr B w w := ⟨Below.refl _ _, fun _ _ _ _ _ => rfl⟩
theorem Fr.trans {w2 : World} (h : Fr B w w') (k : Fr B w' w2) : Fr B w w2 := ⟨h.1.trans k.1, h.2.trans k.2⟩
theorem Fr.below (h : Below w.heap.size w w') (hB : B ≤ w.heap.size) : Fr B w w' := ⟨h.mono hB, Kc.below h⟩
theorem LB.below (h : LB B w a N S) (hb : Below w.heap.size w w') : LB B w' a N S := h.imp fun _ h => h.below hb
theorem LB.mono (h : LB B w a N S) {n : Nat} (hn : N ≤ n) : LB B w a n S := h.imp fun _ h => h.mono hn
theorem LB.lower (h : LB B w a N S) {B' : Nat} (hB : B' ≤ B) : LB B' w a N S := h.imp fun _ h => h.lower hB
theorem LB.le (h : LB B w a N S) : B ≤ w.heap.size := by obtain ⟨_, h⟩ := h; exact h.le
theorem LB.inv (h : LB B w a N S) : Inv S := by obtain ⟨_, h⟩ := h; exact h.inv
theorem LB.few (h : LB B w a N S) : S.L.length ≤ N ∧ S.D.length ≤ N ∧ S.T.length ≤ N := by obtain ⟨_, h⟩ := h; exact h.few
theorem StC.lb {C C0 : Cf} {S' : St} {n N' : Nat} (h : StC B a N' C S' w w') (h0 : CB B w a n C0 S) (hC : C = C0) : LB B w' a N' S' ∧ Fr B w w' := by
  subst hC
  have hf := h.fr h0
  obtain ⟨C', h1, _, h3, _⟩ := h
  exact ⟨⟨C', h1⟩, hf, h3⟩
def Ret (B a N : Nat) (S : St) (v : Value) (w : World) (e : Ending) (w' : World) : Prop := e = .returned v ∧ LB B w' a N S ∧ Fr B w w'
theorem lb_new (w : World) : Calls Tryd.prog 8 #[] w fun e w' => ∃ a, e = .returned (ptr a) ∧ LB w.heap.size w' a 0 S0 ∧ Below w.heap.size w w' := by
  refine (new_any w).mono ?_
  rintro e w' ⟨a, rfl, C, h1, _, _, h4⟩
  exact ⟨a, rfl, ⟨C, h1⟩, h4⟩
theorem lb_def (h : LB B w a N S) (hN : N ≤ 1000) (c : Int) (hI : I9 c) (n s : Tx) (hn : n.size ≤ 281474976710656) (hs : s.size ≤ 281474976710656) :
    Calls Tryd.prog 9 #[ptr a, nV c, .string n, .string s] w (Ret B a (N + 1) (defS c n s S) (nV (defA c n s S)) w) := by
  obtain ⟨C, h⟩ := h
  refine (define_any h (by omega) c hI n s hn hs).mono ?_
  rintro e w' ⟨rfl, hst⟩
  exact ⟨rfl, hst.lb h rfl⟩
theorem lb_find (h : LB B w a N S) (c : Int) (hI : I9 c) (n : Tx) (hn : n.size ≤ 281474976710656) :
    Calls Tryd.prog 20 #[ptr a, nV c, .string n] w fun e w' => e = .returned (.tuple #[.string ((fnd S.L c n).getD ByteArray.empty), .bool (fnd S.L c n).isSome]) ∧ Below w.heap.size w w' := by
  obtain ⟨C, h⟩ := h
  exact find_any h c hI n hn
theorem lb_close (h : LB B w a N S) (hN : N ≤ 1000) (c : Int) (hI : I9 c) (n : Tx) (hn : n.size ≤ 281474976710656) :
    Calls Tryd.prog 11 #[ptr a, nV c, .string n] w (Ret B a N (clsS c n S) (.bool (fnd S.L c n).isSome) w) := by
  obtain ⟨C, h⟩ := h
  refine (close_any h (by omega) c hI n hn).mono ?_
  rintro e w' ⟨rfl, hst⟩
  exact ⟨rfl, hst.lb h rfl⟩
theorem lb_leave (h : LB B w a N S) (c : Int) (hI : I9 c) :
    Calls Tryd.prog 13 #[ptr a, nV c] w (Ret B a N (leaS c S) (nV ((ofE c S.L).length : Int)) w) := by
  obtain ⟨C, h⟩ := h
  refine (leave_any h c hI).mono ?_
  rintro e w' ⟨rfl, hst⟩
  exact ⟨rfl, hst.lb h rfl⟩
theorem lb_forget (h : LB B w a N S) (c : Int) (hI : I9 c) :
    Calls Tryd.prog 17 #[ptr a, nV c] w (Ret B a N (forS c S) (nV ((nms S.D c).length : Int)) w) := by
  obtain ⟨C, h⟩ := h
  refine (forget_any h c hI).mono ?_
  rintro e w' ⟨rfl, hst⟩
  exact ⟨rfl, hst.lb h rfl⟩
theorem lb_need (h : LB B w a N S) (hN : N ≤ 1000) (c : Int) (hI : I9 c) (t : Tx) (ht : t.size ≤ 281474976710656) (hk : S.T.length ≤ 98) :
    Calls Tryd.prog 15 #[ptr a, nV c, .string t] w (Ret B a (N + 2) (neeS c t S) (.tuple #[.string (nm (numA t S)), .bool (!hasA c t S)]) w) := by
  obtain ⟨C, h⟩ := h
  refine (need_any h (by omega) c hI t ht hk).mono ?_
  rintro e w' ⟨rfl, hst⟩
  exact ⟨rfl, hst.lb h rfl⟩
theorem lb_has (h : LB B w a N S) (hN : N ≤ 1000) (c : Int) (hI : I9 c) (hk : S.T.length ≤ 99) :
    Calls Tryd.prog 23 #[ptr a, nV c] w fun e w' => ∃ v, e = .returned v ∧ OT w.heap.size w' v ((nms S.D c).map nm) ∧ Below w.heap.size w w' := by
  obtain ⟨C, h⟩ := h
  exact has_any h (by omega) c hI hk
end
end Go.Proofs.YtkifmhdceobfhaaDoor.PP
