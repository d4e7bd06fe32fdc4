/- What package state's Same tells, and the document's. Conditions: how many tables and rows.
   What the document's Same tells, and its Light. Conditions: how many tables and rows.
   What package lexer's small answers. Condition: none.
   What package lexer's sign and param answer, strings.HasPrefix and CutPrefix. Condition: a text's length; of sign, that it is not empty.
   What package lexer's param answers. Condition: a text's length.
   What package lexer's lineRemark answers. Condition: the global of bytealg, a text's length.
   What package lexer's remark answers. Condition: a text's length. -/
import Derived.Test.YtjloookjlnmgdaaGreatDoorG4
import Derived.Test.YtjloookjlnmgdaaGreatDoorG8
import Derived.Test.YtjloookjlnmgdaaGreatDoorG3
import Derived.WalkMore
import Derived.BigQuiet
import Derived.IntWalk
import Derived.Laws.IdiomStrings
import Derived.Deep.QuietTactic
set_option linter.unusedSimpArgs false
set_option linter.unusedVariables false
namespace Go.Proofs.YtjloookjlnmgdaaGreatDoor
open Go.ChangeShapes Go.WideShapes Go.ChangeAt Go.RowKit
set_option maxRecDepth 100000
set_option linter.unusedVariables false
set_option linter.unusedSimpArgs false

/-- not too many rows -/
def FewR (s : List Tb) : Prop := s.length ≤ 1000000 ∧ ∀ t ∈ s, t.2.length ≤ 1000000
theorem tl_eq (a b : ByteArray) : (a.toList == b.toList) = decide (a = b) := by
  rw [Bool.eq_iff_iff, beq_iff_eq, decide_eq_true_iff, Lib.toList_data, Lib.toList_data]
  exact ⟨fun h => by apply ByteArray.ext; exact Array.ext' h, fun h => by rw [h]⟩
set_option maxHeartbeats 1000000 in
theorem same1_any (n1 n2 : ByteArray) (v1 v2 : Value) (l m : List Rw) (w : World) (h1 : RR w v1 l) (h2 : RR w v2 m) (hl : l.length ≤ 1000000) :
    Calls Tryz.prog 50 #[.agg #[.string n1, v1], .agg #[.string n2, v2]] w fun e w' => e = .returned (.bool (decide (n1 = n2) && decide (l = m))) ∧ Below w.heap.size w w' := by
  obtain ⟨a1, cap1, rfl⟩ := h1.form
  obtain ⟨a2, cap2, rfl⟩ := h2.form
  have hb := ((Below.refl w.heap.size w).alloc (Nat.le_refl _) (.cells #[.string n1, .slice a1 l.length cap1] 43)).alloc (by simp) (.cells #[.string n2, .slice a2 m.length cap2] 43)
  have HB := Lib.hid hb
  have HE := Lib.hid (eqrows_any _ _ l m _ (h1.below hb) (h2.below hb) hl)
  have ht := tl_eq n1 n2
  obtain ⟨R, hR⟩ : ∃ R, decide (l = m) = R := ⟨_, rfl⟩
  rw [hR] at HE ⊢
  clear h1 h2 hb hR
  by_cases hn : n1 = n2
  · have e1 : (n1.toList == n2.toList) = true := by rw [ht]; exact decide_eq_true hn
    rw [decide_eq_true hn, Bool.true_and]
    clear ht hn
    go_enter Tryz.func50, Tryz.ntmps50
    go_wp2_with (go_at_call 51; (refine HE.out.mono ?_); rintro e w2 ⟨rfl, n, rfl⟩)
    go_ret
    exact ⟨rfl, HB.out.trans (belN _ _ _)⟩
  · have e1 : (n1.toList == n2.toList) = false := by rw [ht]; exact decide_eq_false hn
    rw [decide_eq_false hn, Bool.false_and]
    clear ht hn
    go_enter Tryz.func50, Tryz.ntmps50
    go_wp2
    go_ret
    exact ⟨rfl, HB.out⟩
set_option maxHeartbeats 4000000 in
theorem eqf_any (v1 v2 : Value) (s t : List Tb) (w : World) (h1 : SR w v1 s) (h2 : SR w v2 t) (hs : FewR s) :
    Calls Tryz.prog 49 #[v1, v2, .func (.func 50) #[] #[]] w fun e w' => e = .returned (.bool (decide (s = t))) ∧ Below w.heap.size w w' := by
  obtain ⟨R, hR⟩ : ∃ R, decide (s = t) = R := ⟨_, rfl⟩
  rw [hR]
  obtain ⟨a1, cap1, rfl⟩ := h1.form
  obtain ⟨a2, cap2, rfl⟩ := h2.form
  have H1 := Lib.hid h1
  have H2 := Lib.hid h2
  have HS := Lib.hid hs
  have henter : ∀ args w, (callFunc 50 args).run Tryz.prog w = .ok (.enter 50 args) w := fun args w => by show Sem.run Tryz.prog (callFunc 50 args) w = _; go_simp
  by_cases hlen : s.length = t.length
  · have ne : ((s.length : Int) != (t.length : Int)) = false := by rw [bne_eq_false_iff_eq]; omega
    have HR := Lib.hid hR
    have HL := Lib.hid hlen
    clear h1 h2 hs hR hlen
    go_enter Tryz.func49, Tryz.ntmps49
    go_wp2
    go_loopg [17] s.length (fun gk u17 wx => ∃ i : Nat, u17 = .int .i64 (i : Int) ∧ i + gk = s.length ∧ Below w.heap.size w wx ∧ decide (s.drop i = t.drop i) = R)
    case atStart => exact ⟨0, rfl, by omega, Below.refl _ _, HR.out⟩
    case round =>
      obtain ⟨i, rfl, hi, hB, hr⟩ := hrel
      have HI := Lib.hid hi
      have HB := Lib.hid hB
      cases gk with
      | zero =>
        have l1 : ¬ ((i : Int) < (s.length : Int)) := by omega
        have hR : R = true := by
          rw [← hr, List.drop_of_length_le (by omega : s.length ≤ i), List.drop_of_length_le (by have := HL.out; omega : t.length ≤ i)]; rfl
        subst hR
        clear hi hr hB
        go_wp2
        go_ret
        exact ⟨rfl, HB.out⟩
      | succ gk =>
        have hlt : i < s.length := by omega
        have hlt2 : i < t.length := by have := HL.out; omega
        obtain ⟨b1, o1, cp1, he1, hcp1, hx1⟩ := (H1.out.below hB).inv (by omega)
        obtain ⟨b2, o2, cp2, he2, hcp2, hx2⟩ := (H2.out.below hB).inv (by omega)
        injection he1 with ea1 _ ec1
        injection he2 with ea2 _ ec2
        subst ea1 ec1 ea2 ec2
        obtain ⟨p, hp⟩ : ∃ p, s[i] = p := ⟨_, rfl⟩
        obtain ⟨q, hq⟩ : ∃ q, t[i] = q := ⟨_, rfl⟩
        obtain ⟨x0, u, x1, hu⟩ := hx1 i p (by rw [List.getElem?_eq_getElem hlt, hp])
        obtain ⟨y0, u2, y1, hu2⟩ := hx2 i q (by rw [List.getElem?_eq_getElem hlt2, hq])
        have hpl : p.2.length ≤ 1000000 := by rw [← hp]; exact HS.out.2 _ (List.getElem_mem hlt)
        rw [drop_dec hlt hlt2, hp, hq] at hr
        have hbl2 : b2 < wr.heap.size := World.block_lt_of_cell? wr _ y0
        have hal : ∀ (o : Obj) (j : Nat), (wr.alloc o).cell? ⟨b2, j, none⟩ = wr.cell? ⟨b2, j, none⟩ := fun o j => World.cell?_of_block (a := ⟨b2, j, none⟩) (Below.heap_alloc wr o b2 hbl2)
        have z0 := fun o => (hal o (o2 + i * 2)).trans y0
        have z1 := fun o => (hal o (o2 + i * 2 + 1)).trans y1
        obtain ⟨p0, p1⟩ := p
        obtain ⟨q0, q1⟩ := q
        obtain ⟨ua, ucap, rfl⟩ := hu.form
        obtain ⟨ua2, ucap2, rfl⟩ := hu2.form
        have hb4 := ((Below.refl wr.heap.size wr).alloc (Nat.le_refl _) (.cells #[.string p0, .slice ua p1.length ucap] 43)).alloc (by simp) (.cells #[.string q0, .slice ua2 q1.length ucap2] 43)
        have HB4 := Lib.hid hb4
        have HC := Lib.hid (same1_any p0 q0 _ _ p1 q1 _ (hu.below hb4) (hu2.below hb4) hpl)
        have hpq : decide (((p0, p1) : Tb) = (q0, q1)) = (decide (p0 = q0) && decide (p1 = q1)) := by
          rw [Bool.eq_iff_iff, decide_eq_true_iff, Bool.and_eq_true, decide_eq_true_iff, decide_eq_true_iff, Prod.mk.injEq]
        rw [hpq] at hr
        obtain ⟨Q, hQ⟩ : ∃ Q, (decide (p0 = q0) && decide (p1 = q1)) = Q := ⟨_, rfl⟩
        rw [hQ] at HC hr
        have l0 : (0 : Int) ≤ (i : Int) := by omega
        have l1 : (i : Int) < (s.length : Int) := by omega
        have l2 : (i : Int) < (t.length : Int) := by omega
        obtain ⟨i1, hi1⟩ : ∃ i1, i + 1 = i1 := ⟨_, rfl⟩
        have wk : IntKind.i64.wrap ((i : Int) + 1) = (i1 : Int) := by rw [show (i : Int) + 1 = (i1 : Int) by omega]; exact IntWalk.i64_in _ (by have := HS.out.1; omega)
        have HI1 := Lib.hid hi1
        rw [hi1] at hr
        have HR2 := Lib.hid hr
        clear hi hr hB hx1 hx2 hp hq hi1 hlt hlt2 hu hu2 hpl hb4 hpq hQ hal y0 y1
        cases Q with
        | true =>
          go_wp2_with (go_at_call 50; (refine HC.out.mono ?_); rintro e w5 ⟨rfl, hb5⟩; have HB5 := Lib.hid hb5; clear hb5)
          go_roundg gk
          case measure => exact Nat.lt_succ_self _
          case rel => exact ⟨i1, rfl, by have := HI1.out; have := HI.out; omega, HB.out.trans ((HB4.out.trans (HB5.out.mono HB4.out.size)).mono HB.out.size), by have := HR2.out; rw [Bool.true_and] at this; exact this⟩
        | false =>
          have hRf : R = false := by have := HR2.out; rw [Bool.false_and] at this; exact this.symm
          subst hRf
          go_wp2_with (go_at_call 50; (refine HC.out.mono ?_); rintro e w5 ⟨rfl, hb5⟩; have HB5 := Lib.hid hb5; clear hb5)
          go_ret
          exact ⟨rfl, HB.out.trans ((HB4.out.trans (HB5.out.mono HB4.out.size)).mono HB.out.size)⟩
  · have ne : ((s.length : Int) != (t.length : Int)) = true := by rw [bne_iff_ne]; omega
    have hR2 : R = false := by rw [← hR]; exact decide_eq_false (fun h => hlen (by rw [h]))
    subst hR2
    clear h1 h2 hs hR hlen
    go_enter Tryz.func49, Tryz.ntmps49
    go_wp2
    go_ret
    exact ⟨rfl, Below.refl _ _⟩
theorem same_any (v1 v2 : Value) (s t : List Tb) (w : World) (h1 : SR w v1 s) (h2 : SR w v2 t) (hs : FewR s) :
    Calls Tryz.prog 25 #[v1, v2] w fun e w' => e = .returned (.bool (decide (s = t))) ∧ Below w.heap.size w w' := by
  have HE := Lib.hid (eqf_any v1 v2 s t w h1 h2 hs)
  clear h1 h2 hs
  go_enter Tryz.func25, Tryz.ntmps25
  go_wp2_with (go_at_call 49; (refine HE.out.mono ?_); rintro e w2 ⟨rfl, hb2⟩; have HB2 := Lib.hid hb2; clear hb2)
  go_ret
  exact ⟨rfl, HB2.out⟩
end Go.Proofs.YtjloookjlnmgdaaGreatDoor
namespace Go.Proofs.YtjloookjlnmgdaaGreatDoor
open Go.ChangeShapes Go.WideShapes Go.ChangeAt Go.RowKit
set_option maxRecDepth 100000
set_option linter.unusedVariables false
set_option linter.unusedSimpArgs false

theorem SR.drewN {w : World} {v : Value} {l : List Tb} (h : SR w v l) (n : Nat) : SR (w.drewN n) v l := h.keep fun p _ => by cases p; simp [go_sem]
theorem quiet_plus {P : Program} {f : FuncId} {args : Array Value} {w : World} {n x : Nat} {v : Value}
    (h : Calls P f args (w.drewN (n + x)) fun e w' => e = .returned v ∧ ∃ m, w' = (w.drewN (n + x)).drewN m) : Calls P f args (w.drewN (n + x)) fun e w'' => e = .returned v ∧ ∃ m, w'' = w.drewN (n + m) :=
  h.mono fun _ _ ⟨he, m, hm⟩ => ⟨he, x + m, by rw [hm, World.drewN_drewN, Nat.add_assoc]⟩
set_option maxHeartbeats 4000000 in
theorem rsame_any (v1 v2 : Value) (s t : List Tb) (w : World) (h1 : SR w v1 s) (h2 : SR w v2 t) (hs : FewR s) :
    Calls Tryz.prog 22 #[v1, v2] w fun e w' => e = .returned (.bool (decide (s = t))) ∧ ∃ n, w' = w.drewN n := by
  obtain ⟨R, hR⟩ : ∃ R, decide (s = t) = R := ⟨_, rfl⟩
  rw [hR]
  obtain ⟨a1, cap1, rfl⟩ := h1.form
  obtain ⟨a2, cap2, rfl⟩ := h2.form
  have H1 := Lib.hid h1
  have H2 := Lib.hid h2
  have HS := Lib.hid hs
  by_cases hlen : s.length = t.length
  · have ne : ((s.length : Int) != (t.length : Int)) = false := by rw [bne_eq_false_iff_eq]; omega
    have HR := Lib.hid hR
    have HL := Lib.hid hlen
    clear h1 h2 hs hR hlen
    go_enter Tryz.func22, Tryz.ntmps22
    go_wp2
    go_loopg [5] s.length (fun gk u5 wx => ∃ i : Nat, u5 = .int .i64 (i : Int) ∧ i + gk = s.length ∧ (∃ n, wx = w.drewN n) ∧ decide (s.drop i = t.drop i) = R)
    case atStart => exact ⟨0, rfl, by omega, ⟨0, rfl⟩, HR.out⟩
    case round =>
      obtain ⟨i, rfl, hi, ⟨n0, rfl⟩, hr⟩ := hrel
      have HI := Lib.hid hi
      cases gk with
      | zero =>
        have l1 : ¬ ((i : Int) < (s.length : Int)) := by omega
        have hR : R = true := by
          rw [← hr, List.drop_of_length_le (by omega : s.length ≤ i), List.drop_of_length_le (by have := HL.out; omega : t.length ≤ i)]; rfl
        subst hR
        clear hi hr
        go_wp2
        go_ret
        exact ⟨rfl, _, rfl⟩
      | succ gk =>
        have hlt : i < s.length := by omega
        have hlt2 : i < t.length := by have := HL.out; omega
        obtain ⟨b1, o1, cp1, he1, hcp1, hx1⟩ := H1.out.inv (by omega)
        obtain ⟨b2, o2, cp2, he2, hcp2, hx2⟩ := H2.out.inv (by omega)
        injection he1 with ea1 _ ec1
        injection he2 with ea2 _ ec2
        subst ea1 ec1 ea2 ec2
        obtain ⟨p, hp⟩ : ∃ p, s[i] = p := ⟨_, rfl⟩
        obtain ⟨q, hq⟩ : ∃ q, t[i] = q := ⟨_, rfl⟩
        obtain ⟨x0, u, x1, hu⟩ := hx1 i p (by rw [List.getElem?_eq_getElem hlt, hp])
        obtain ⟨y0, u2, y1, hu2⟩ := hx2 i q (by rw [List.getElem?_eq_getElem hlt2, hq])
        have hpl : p.2.length ≤ 1000000 := by rw [← hp]; exact HS.out.2 _ (List.getElem_mem hlt)
        rw [drop_dec hlt hlt2, hp, hq] at hr
        obtain ⟨p0, p1⟩ := p
        obtain ⟨q0, q1⟩ := q
        obtain ⟨ua, ucap, rfl⟩ := hu.form
        obtain ⟨ua2, ucap2, rfl⟩ := hu2.form
        have HC := Lib.hid (fun n => rrows_any _ _ p1 q1 (w.drewN n) (hu.drewN n) (hu2.drewN n) hpl)
        have ht := tl_eq p0 q0
        have l0 : (0 : Int) ≤ (i : Int) := by omega
        have l1 : (i : Int) < (s.length : Int) := by omega
        have l2 : (i : Int) < (t.length : Int) := by omega
        obtain ⟨i1, hi1⟩ : ∃ i1, i + 1 = i1 := ⟨_, rfl⟩
        have wk : IntKind.i64.wrap ((i : Int) + 1) = (i1 : Int) := by rw [show (i : Int) + 1 = (i1 : Int) by omega]; exact IntWalk.i64_in _ (by have := HS.out.1; omega)
        have HI1 := Lib.hid hi1
        rw [hi1] at hr
        have hpq : decide (((p0, p1) : Tb) = (q0, q1)) = (decide (p0 = q0) && decide (p1 = q1)) := by
          rw [Bool.eq_iff_iff, decide_eq_true_iff, Bool.and_eq_true, decide_eq_true_iff, decide_eq_true_iff, Prod.mk.injEq]
        rw [hpq] at hr
        obtain ⟨Q, hQ⟩ : ∃ Q, decide (p1 = q1) = Q := ⟨_, rfl⟩
        rw [hQ] at HC hr
        by_cases hn : p0 = q0
        · have e1 : (p0.toList == q0.toList) = true := by rw [ht]; exact decide_eq_true hn
          have e2 : (!(p0.toList == q0.toList)) = false := by rw [e1]; rfl
          rw [decide_eq_true hn, Bool.true_and] at hr
          have HR2 := Lib.hid hr
          clear hi hr hx1 hx2 hp hq hi1 hlt hlt2 hu hu2 hpl hpq hQ ht hn
          cases Q with
          | true =>
            go_wp2
            go_quiet (first | (go_at_call 23; exact Calls.quiet_of (HC.out _)) | (go_at_call 23; exact quiet_plus (HC.out _)))
            go_wp2
            go_roundg gk
            case measure => exact Nat.lt_succ_self _
            case rel => exact ⟨i1, rfl, by have := HI1.out; have := HI.out; omega, ⟨_, rfl⟩, by have := HR2.out; rw [Bool.true_and] at this; exact this⟩
          | false =>
            have hRf : R = false := by have := HR2.out; rw [Bool.false_and] at this; exact this.symm
            subst hRf
            go_wp2
            go_quiet (first | (go_at_call 23; exact Calls.quiet_of (HC.out _)) | (go_at_call 23; exact quiet_plus (HC.out _)))
            go_wp2
            go_ret
            exact ⟨rfl, _, World.drewN_drewN _ _ _⟩
        · have e1 : (p0.toList == q0.toList) = false := by rw [ht]; exact decide_eq_false hn
          have e2 : (!(p0.toList == q0.toList)) = true := by rw [e1]; rfl
          have hRf : R = false := by rw [← hr, decide_eq_false hn, Bool.false_and, Bool.false_and]
          subst hRf
          clear hi hr hx1 hx2 hp hq hi1 hlt hlt2 hu hu2 hpl hpq hQ ht hn
          go_wp2
          go_quiet (fail)
          go_wp2
          go_ret
          exact ⟨rfl, _, World.drewN_drewN _ _ _⟩
  · have ne : ((s.length : Int) != (t.length : Int)) = true := by rw [bne_iff_ne]; omega
    have hR2 : R = false := by rw [← hR]; exact decide_eq_false (fun h => hlen (by rw [h]))
    subst hR2
    clear h1 h2 hs hR hlen
    go_enter Tryz.func22, Tryz.ntmps22
    go_wp2
    go_ret
    exact ⟨rfl, 0, rfl⟩
end Go.Proofs.YtjloookjlnmgdaaGreatDoor
namespace Go.Proofs.YtjloookjlnmgdaaGreatDoor
open Go.ChangeShapes Go.WideShapes Go.ChangeAt Go.RowKit
set_option maxRecDepth 100000
set_option linter.unusedVariables false
set_option linter.unusedSimpArgs false

def lowI (z : Int) : Int := if 65 ≤ z ∧ z ≤ 90 then z + 32 else z
def lowB (c : UInt8) : UInt8 := if 65 ≤ c.toNat ∧ c.toNat ≤ 90 then c + 32 else c
theorem lowB_I (c : UInt8) : ((lowB c).toNat : Int) = lowI (c.toNat : Int) := by
  unfold lowB lowI
  by_cases h : 65 ≤ c.toNat ∧ c.toNat ≤ 90
  · rw [if_pos h, if_pos (by omega), UInt8.toNat_add]
    have : (32 : UInt8).toNat = 32 := rfl
    rw [this]
    omega
  · rw [if_neg h, if_neg (by omega)]
def smallA (s : ByteArray) : ByteArray := ⟨(s.data.toList.map lowB).toArray⟩
structure SmI (s : ByteArray) (w : World) (k : Nat) (wr : World) : Prop where
  cell : ∀ (j : Nat) (hj : j < s.size), wr.cell? ⟨w.heap.size, j, none⟩ = some (.int .u8 ((if j < k then lowB s[j] else s[j]).toNat : Int))
  fro : ∀ (j : Nat) (hj : j < s.size), wr.frozen? ⟨w.heap.size, j, none⟩ = false
  bel : Below w.heap.size w wr
theorem SmI.keep {s : ByteArray} {w wr : World} {k : Nat} (h : SmI s w k wr) (hk : k < s.size) (hs : lowI (s[k].toNat : Int) = (s[k].toNat : Int)) : SmI s w (k + 1) wr := by
  refine ⟨fun j hj => ?_, h.fro, h.bel⟩
  rw [h.cell j hj]
  by_cases e : j = k
  · subst e
    rw [if_neg (by omega), if_pos (by omega), lowB_I, hs]
  · by_cases e2 : j < k
    · rw [if_pos e2, if_pos (by omega)]
    · rw [if_neg e2, if_neg (by omega)]
theorem SmI.put {s : ByteArray} {w wr : World} {k : Nat} (h : SmI s w k wr) (hk : k < s.size) (z : Int) (hz : z = lowI (s[k].toNat : Int)) : SmI s w (k + 1) (wr.setCell ⟨w.heap.size, k, none⟩ (.int .u8 z)) := by
  refine ⟨fun j hj => ?_, fun j hj => ?_, h.bel.setCell (Nat.le_refl _) _⟩
  · by_cases e : j = k
    · subst e
      rw [World.cell?_setCell_same _ _ _ (h.cell j hj), if_pos (by omega), lowB_I, hz]
    · rw [World.cell?_setCell_other _ _ _ _ (by intro h2; simp only [Addr.mk.injEq] at h2; omega), h.cell j hj]
      by_cases e2 : j < k
      · rw [if_pos e2, if_pos (by omega)]
      · rw [if_neg e2, if_neg (by omega)]
  · rw [World.frozen?_setCell]; exact h.fro j hj
set_option maxRecDepth 100000 in
theorem small_any (s : ByteArray) (hs : s.size ≤ 281474976710656) (w : World) : Calls Tryz.prog 124 #[.string s] w fun e w' => e = .returned (.string (smallA s)) ∧ Below w.heap.size w w' := by
  have hconv := run_bytes_of_string (P := Tryz.prog) w 9 95 5 s (by kernel_rfl) (by kernel_rfl) (by kernel_rfl)
  have hI : SmI s w 0 (w.drew.alloc (.cells (bytesRow s (grownCap w s.size 0 5)) 5 ((bytesRow s (grownCap w s.size 0 5)).size, (bytesRow s (grownCap w s.size 0 5)).size + 1))) := by
    have e1 : w.drew.heap.size = w.heap.size := by simp
    refine ⟨fun j hj => ?_, fun j hj => ?_, ((Below.refl _ _).drew).alloc (by simp) _⟩
    · rw [if_neg (by omega)]
      rw [← e1, World.cell?_alloc_mark, bytesRow_at s _ j hj]
      rfl
    · rw [← e1, World.frozen?_alloc_mark]
      have : j < (bytesRow s (grownCap w s.size 0 5)).size := by
        have := bytesRow_at s (grownCap w s.size 0 5) j hj
        exact (Array.getElem?_eq_some_iff.1 this).1
      rw [decide_eq_false (by omega)]; rfl
  generalize (w.drew.alloc (.cells (bytesRow s (grownCap w s.size 0 5)) 5 ((bytesRow s (grownCap w s.size 0 5)).size, (bytesRow s (grownCap w s.size 0 5)).size + 1))) = w1 at *
  generalize grownCap w s.size 0 5 = cap at *
  have HI := Lib.hid hI
  clear hI
  go_enter Tryz.func124, Tryz.ntmps124
  go_wp2
  go_loopw [10] (fun u10 wr => ∃ k : Nat, u10 = .int .i64 (k : Int) ∧ k ≤ s.size ∧ SmI s w k wr) (fun u10 _ => s.size - (match u10 with | .int _ k => k.toNat | _ => 0))
  case atStart => exact ⟨0, rfl, Nat.zero_le _, HI.out⟩
  case round =>
    obtain ⟨k, rfl, hks, hS⟩ := hrel
    clear HI hconv
    have HS := Lib.hid hS
    clear hS
    by_cases hk : k < s.size
    · have lw : Hid ((k : Int) + 1 = ((k + 1 : Nat) : Int)) := Lib.hid (by omega)
      obtain ⟨z, hz⟩ : ∃ z : Int, ((s[k]'hk).toNat : Int) = z := ⟨_, rfl⟩
      have hc : wr.cell? ⟨w.heap.size, k, none⟩ = some (.int .u8 z) := by
        have := HS.out.cell k hk
        rwa [if_neg (by omega), hz] at this
      have hf : wr.frozen? ⟨w.heap.size, k, none⟩ = false := HS.out.fro k hk
      have lk : (k : Int) < (s.size : Int) := by omega
      have l0 : (0 : Int) ≤ (k : Int) := by omega
      have HZ := Lib.hid hz
      clear hz
      by_cases h1 : 65 ≤ z ∧ z ≤ 90
      · obtain ⟨ha, hb⟩ := h1
        have s1 : IntKind.u8.wrap (z - 65) = z - 65 := IntWalk.u8_in _ (by omega)
        have s2 : IntKind.u8.wrap (z - 65 + 97) = z - 65 + 97 := IntWalk.u8_in _ (by omega)
        go_wp2
        refine ⟨⟨k + 1, by rw [lw.out], by omega, HS.out.put hk _ (by rw [HZ.out]; unfold lowI; rw [if_pos ⟨ha, hb⟩]; omega)⟩, ?_⟩
        rw [lw.out]; simp only [Int.toNat_natCast]; omega
      · by_cases h2 : 65 ≤ z
        · have h3 : ¬ (z ≤ 90) := by omega
          clear h1
          go_wp2
          refine ⟨⟨k + 1, by rw [lw.out], by omega, HS.out.keep hk (by rw [HZ.out]; unfold lowI; rw [if_neg (by omega)])⟩, ?_⟩
          rw [lw.out]; simp only [Int.toNat_natCast]; omega
        · clear h1
          go_wp2
          refine ⟨⟨k + 1, by rw [lw.out], by omega, HS.out.keep hk (by rw [HZ.out]; unfold lowI; rw [if_neg (by omega)])⟩, ?_⟩
          rw [lw.out]; simp only [Int.toNat_natCast]; omega
    · have lk : ¬ ((k : Int) < (s.size : Int)) := by omega
      have hks2 : k = s.size := by omega
      have hback := run_convert_bytes_back (P := Tryz.prog) wr 95 9 5 ⟨w.heap.size, 0, none⟩ cap (s.data.toList.map lowB) (by kernel_rfl) (by kernel_rfl) (by kernel_rfl) (fun j hj => by
        have hj2 : j < s.size := by rw [Lib.size_eq]; simpa using hj
        have := HS.out.cell j hj2
        rw [if_pos (by omega)] at this
        have ea : (⟨w.heap.size, 0, none⟩ : Addr).add j = ⟨w.heap.size, j, none⟩ := by simp [Addr.add]; exact fun h => h.symm
        rw [ea, this, List.getElem_map]
        rfl)
      rw [List.length_map, ← Lib.size_eq] at hback
      clear hks2
      go_wp2
      go_ret
      exact ⟨rfl, HS.out.bel⟩
theorem word_no (s : ByteArray) (w : World) (h0 : rowL letB s.data.toList = 0) :
    Calls Tryz.prog 91 #[.string s] w fun e w' => e = .returned (pcV 0 ⟨#[]⟩ 0) ∧ Below w.heap.size w w' := by
  have hr := fun w => row_letter letN letB true (Lib.hid kin_let) s w (Lib.hid (weak_ let_any))
  simp only [h0] at hr
  have HR := Lib.hid hr
  clear hr h0
  go_enter Tryz.func91, Tryz.ntmps91
  go_wp2_with (go_at_call 118; refine (HR.out _).mono ?_; rintro e w1 ⟨rfl, hb1⟩; obtain ⟨hcc, hff⟩ := bcell hb1)
  have hB : Below w.heap.size w w1 := ((Below.refl _ _).alloc (Nat.le_refl _) _).trans (hb1.mono (by simp))
  refine bodyPost_ret (v := pcV 0 ⟨#[]⟩ 0) (by simp [results, Tryz.results91, go_sem, hcc, hff]) rfl ?_
  refine ⟨rfl, ((hB.setCell ?_ _).setCell ?_ _).setCell ?_ _⟩ <;> exact Nat.le_refl _
theorem word_yes (s : ByteArray) (w : World) (hs : s.size ≤ 281474976710656) (h0 : rowL letB s.data.toList ≠ 0) :
    Calls Tryz.prog 91 #[.string s] w fun e w' => e = .returned (pcV 1 (smallA (s.extract 0 (rowL wordB s.data.toList))) (rowL wordB s.data.toList : Nat)) ∧ Below w.heap.size w w' := by
  have hr := fun w => row_letter letN letB true (Lib.hid kin_let) s w (Lib.hid (weak_ let_any))
  have hq := fun w => row_word wordN wordB true (Lib.hid kin_word) s w (Lib.hid (weak_ word_any))
  obtain ⟨n, hn⟩ : ∃ n, rowL wordB s.data.toList = n := ⟨_, rfl⟩
  obtain ⟨m, hm⟩ : ∃ m, rowL letB s.data.toList = m := ⟨_, rfl⟩
  have hle : n ≤ s.size := by rw [← hn, Lib.size_eq]; exact rowL_le _ _
  rw [hn]
  simp only [hn] at hq
  simp only [hm] at hr
  rw [hm] at h0
  have hc := fun w => small_any (s.extract 0 n) (by rw [ByteArray.size_extract]; omega) w
  have HR := Lib.hid hr
  have HQ := Lib.hid hq
  have HC := Lib.hid hc
  clear hr hq hn hm hc hs
  have c0 : ((m : Int) == 0) = false := by rw [beq_eq_false_iff_ne]; omega
  have c1 : (0 : Int) ≤ (n : Int) := by omega
  have c2 : (n : Int) ≤ (s.size : Int) := by omega
  clear h0
  go_enter Tryz.func91, Tryz.ntmps91
  go_wp2_with (first
    | (go_at_call 118; (with_reducible refine (HR.out _).mono ?_); rintro e w1 ⟨rfl, hb1⟩; have F1 := (Own3.new w).step hb1; clear hb1; obtain ⟨hB, hL, k0, k1, k2, f0, f1, f2⟩ := id F1)
    | (go_at_call 118; (with_reducible refine (HQ.out _).mono ?_); rintro e w2 ⟨rfl, hb2⟩; have F2 := F1.step hb2; clear hb2 hB hL k0 k1 k2 f0 f1 f2; obtain ⟨hB, hL, k0, k1, k2, f0, f1, f2⟩ := id F2)
    | (go_at_call 124; (with_reducible refine (HC.out _).mono ?_); rintro e w3 ⟨rfl, hb3⟩; have F3 := F2.step hb3; clear hb3 hB hL k0 k1 k2 f0 f1 f2; obtain ⟨hB, hL, k0, k1, k2, f0, f1, f2⟩ := id F3))
  refine bodyPost_ret (v := pcV 1 (smallA (s.extract 0 n)) (n : Nat)) (by simp [results, Tryz.results91, go_sem, k0, k1, k2]) rfl ?_
  refine ⟨rfl, ((hB.setCell ?_ _).setCell ?_ _).setCell ?_ _⟩ <;> exact Nat.le_refl _
end Go.Proofs.YtjloookjlnmgdaaGreatDoor
namespace Go.Proofs.YtjloookjlnmgdaaGreatDoor
open Go.ChangeShapes Go.WideShapes Go.ChangeAt Go.RowKit
set_option maxRecDepth 100000
set_option linter.unusedVariables false
set_option linter.unusedSimpArgs false

abbrev signT : ByteArray := ⟨#[40, 41, 44, 59, 46, 61, 60, 62, 43, 45, 42, 47, 37, 38, 124, 94, 126, 33, 64, 35, 63, 58, 91, 93]⟩
def signI (c : UInt8) : Int := Lib.indexByte signT.data.toList c
theorem sign_any (s : ByteArray) (h : 0 < s.size) (w : World) : Calls Tryz.prog 97 #[.string s] w fun e w' =>
    e = .returned (if signI (s[0]'h) < 0 then pcV 0 ⟨#[]⟩ 0 else pcV 5 (s.extract 0 1) 1) ∧ Below w.heap.size w w' := by
  obtain ⟨i, hi⟩ : ∃ i, signI (s[0]'h) = i := ⟨_, rfl⟩
  have hc : ∀ w, Calls Tryz.prog 130 #[.string signT, .int .u8 ((s[0]'h).toNat : Int)] w fun e w' => e = .returned (.int .i64 i) ∧ w' = w := by
    intro w
    have := sidx_any signT ((s[0]'h).toNat : Int) w
    rwa [show ((s[0]'h).toNat : Int).toNat.toUInt8 = s[0]'h by simp, show Lib.indexByte signT.data.toList (s[0]'h) = i from hi] at this
  have hk := fun w => clone_any (s.extract 0 1) w (by rw [ByteArray.size_extract]; omega)
  have hz : (0 : Int) < (s.size : Int) := by omega
  have h1 : (1 : Int) ≤ (s.size : Int) := by omega
  rw [hi]
  have HC := Lib.hid hc
  have HK := Lib.hid hk
  clear hc hi hk
  by_cases hi : i < 0
  · rw [if_pos hi]
    go_enter Tryz.func97, Tryz.ntmps97
    go_wp2_with (first
      | (go_at_call 130; (with_reducible refine (HC.out _).mono ?_); rintro e w1 ⟨rfl, hw⟩; obtain rfl := hw.symm))
    refine bodyPost_ret (v := pcV 0 ⟨#[]⟩ 0) (by simp [results, Tryz.results97, go_sem]) rfl ?_
    exact ⟨rfl, (Below.refl _ _).alloc (Nat.le_refl _) _⟩
  · rw [if_neg hi]
    go_enter Tryz.func97, Tryz.ntmps97
    go_wp2_with (first
      | (go_at_call 130; (with_reducible refine (HC.out _).mono ?_); rintro e w1 ⟨rfl, hw⟩; obtain rfl := hw.symm)
      | (go_at_call 48; (with_reducible refine (HK.out _).mono ?_); rintro e w3 ⟨rfl, hb3⟩; have F3 := (Own3.new w).step hb3; clear hb3; obtain ⟨hB, hL, k0, k1, k2, f0, f1, f2⟩ := id F3))
    refine bodyPost_ret (v := pcV 5 (s.extract 0 1) 1) (by simp [results, Tryz.results97, go_sem, k0, k1, k2]) rfl ?_
    refine ⟨rfl, ((hB.setCell ?_ _).setCell ?_ _).setCell ?_ _⟩ <;> exact Nat.le_refl _
def hpB (s p : ByteArray) : Bool := decide (p.size ≤ s.size) && ((s.extract 0 p.size).toList == p.toList)
theorem lhp_any (s p : ByteArray) (w : World) : Calls Tryz.prog 161 #[.string s, .string p] w fun e w' => e = .returned (.bool (hpB s p)) ∧ w' = w := by
  by_cases hle : p.size ≤ s.size
  · have c0 : (p.size : Int) ≤ (s.size : Int) := by omega
    have c1 : (0 : Int) ≤ (p.size : Int) := by omega
    obtain ⟨b, hb⟩ : ∃ b, ((s.extract 0 p.size).toList == p.toList) = b := ⟨_, rfl⟩
    rw [show hpB s p = b by unfold hpB; rw [decide_eq_true hle, hb]; rfl]
    go_enter Tryz.func161, Tryz.ntmps161
    go_wp2
    go_ret
    exact ⟨rfl, rfl⟩
  · have c0 : ¬ ((p.size : Int) ≤ (s.size : Int)) := by omega
    rw [show hpB s p = false by unfold hpB; rw [decide_eq_false hle]; rfl]
    go_enter Tryz.func161, Tryz.ntmps161
    go_wp2
    go_ret
    exact ⟨rfl, rfl⟩
theorem hp_any (s p : ByteArray) (w : World) : Calls Tryz.prog 120 #[.string s, .string p] w fun e w' => e = .returned (.bool (hpB s p)) ∧ w' = w := by
  have h := lhp_any s p
  generalize hpB s p = b at *
  have H := Lib.hid h
  clear h
  go_enter Tryz.func120, Tryz.ntmps120
  go_wp2_with (go_at_call 161; refine (H.out _).mono ?_; rintro e w1 ⟨rfl, hw⟩; obtain rfl := hw.symm)
  go_ret
  exact ⟨rfl, rfl⟩
def cutpV (s p : ByteArray) : Value := .tuple #[.string (if hpB s p = true then s.extract p.size s.size else s), .bool (hpB s p)]
theorem lcutp_any (s p : ByteArray) (w : World) : Calls Tryz.prog 164 #[.string s, .string p] w fun e w' => e = .returned (cutpV s p) ∧ w' = w := by
  have h := lhp_any s p
  unfold cutpV
  cases hb : hpB s p with
  | true =>
    have hle : p.size ≤ s.size := by unfold hpB at hb; simp at hb; exact hb.1
    have c0 : (p.size : Int) ≤ (s.size : Int) := by omega
    have c1 : (0 : Int) ≤ (p.size : Int) := by omega
    rw [hb] at h
    have H := Lib.hid h
    clear h hb
    rw [if_pos rfl]
    go_enter Tryz.func164, Tryz.ntmps164
    go_wp2_with (go_at_call 161; refine (H.out _).mono ?_; rintro e w1 ⟨rfl, hw⟩; obtain rfl := hw.symm)
    go_ret2
    exact ⟨rfl, rfl⟩
  | false =>
    rw [hb] at h
    have H := Lib.hid h
    clear h hb
    rw [if_neg (by simp)]
    go_enter Tryz.func164, Tryz.ntmps164
    go_wp2_with (go_at_call 161; refine (H.out _).mono ?_; rintro e w1 ⟨rfl, hw⟩; obtain rfl := hw.symm)
    go_ret2
    exact ⟨rfl, rfl⟩
theorem cutp_any (s p : ByteArray) (w : World) : Calls Tryz.prog 129 #[.string s, .string p] w fun e w' => e = .returned (cutpV s p) ∧ w' = w := by
  have h := lcutp_any s p
  unfold cutpV at *
  generalize (if hpB s p = true then s.extract p.size s.size else s) = t at *
  generalize hpB s p = b at *
  have H := Lib.hid h
  clear h
  go_enter Tryz.func129, Tryz.ntmps129
  go_wp2_with (go_at_call 164; refine (H.out _).mono ?_; rintro e w1 ⟨rfl, hw⟩; obtain rfl := hw.symm)
  go_ret2
  exact ⟨rfl, rfl⟩
end Go.Proofs.YtjloookjlnmgdaaGreatDoor
namespace Go.Proofs.YtjloookjlnmgdaaGreatDoor
open Go.ChangeShapes Go.WideShapes Go.ChangeAt Go.RowKit
set_option maxRecDepth 100000
set_option linter.unusedVariables false
set_option linter.unusedSimpArgs false

abbrev dolT : ByteArray := ⟨#[36]⟩
theorem param_core (s r : ByteArray) (b : Bool) (n : Nat) (w : World) (hn : rowL digB r.data.toList = n) (hle : n + 1 ≤ s.size ∨ b = false ∨ n = 0) (hs : s.size ≤ 281474976710656)
    (hc : ∀ w, Calls Tryz.prog 129 #[.string s, .string dolT] w fun e w' => e = .returned (.tuple #[.string r, .bool b]) ∧ w' = w) :
    Calls Tryz.prog 96 #[.string s] w fun e w' => e = .returned (if b = false ∨ n = 0 then pcV 0 ⟨#[]⟩ 0 else pcV 5 (s.extract 0 (n + 1)) ((n + 1 : Nat) : Int)) ∧ Below w.heap.size w w' := by
  have hr := fun w => row_digit digN digB false (Lib.hid kin_dig) r w (Lib.hid (weak_ dig_any))
  have hk := fun w => clone_any (s.extract 0 (n + 1)) w (by rw [ByteArray.size_extract]; omega)
  simp only [hn] at hr
  have HC := Lib.hid hc
  have HR := Lib.hid hr
  have HK := Lib.hid hk
  clear hc hr hk hn
  by_cases h : b = false ∨ n = 0
  · rw [if_pos h]
    cases b with
    | false =>
      clear h hle
      go_enter Tryz.func96, Tryz.ntmps96
      go_wp2_with (first
        | (go_at_call 129; (with_reducible refine (HC.out _).mono ?_); rintro e w1 ⟨rfl, hw⟩; obtain rfl := hw.symm)
        | (go_at_call 118; (with_reducible refine (HR.out _).mono ?_); rintro e w2 ⟨rfl, hb1⟩; have F1 := (Own3.new w).step hb1; clear hb1; obtain ⟨hB, hL, k0, k1, k2, f0, f1, f2⟩ := id F1))
      refine bodyPost_ret (v := pcV 0 ⟨#[]⟩ 0) (by simp [results, Tryz.results96, go_sem, k0, k1, k2]) rfl ?_
      refine ⟨rfl, ((hB.setCell ?_ _).setCell ?_ _).setCell ?_ _⟩ <;> exact Nat.le_refl _
    | true =>
      have h0 : n = 0 := by simpa using h
      subst h0
      clear h hle
      go_enter Tryz.func96, Tryz.ntmps96
      go_wp2_with (first
        | (go_at_call 129; (with_reducible refine (HC.out _).mono ?_); rintro e w1 ⟨rfl, hw⟩; obtain rfl := hw.symm)
        | (go_at_call 118; (with_reducible refine (HR.out _).mono ?_); rintro e w2 ⟨rfl, hb1⟩; have F1 := (Own3.new w).step hb1; clear hb1; obtain ⟨hB, hL, k0, k1, k2, f0, f1, f2⟩ := id F1))
      refine bodyPost_ret (v := pcV 0 ⟨#[]⟩ 0) (by simp [results, Tryz.results96, go_sem, k0, k1, k2]) rfl ?_
      refine ⟨rfl, ((hB.setCell ?_ _).setCell ?_ _).setCell ?_ _⟩ <;> exact Nat.le_refl _
  · rw [if_neg h]
    have hb : b = true := by
      cases b with
      | true => rfl
      | false => exact absurd (Or.inl rfl) h
    subst hb
    have hn0 : n ≠ 0 := fun e => h (Or.inr e)
    have hl : n + 1 ≤ s.size := by
      rcases hle with h1 | h1 | h1
      · exact h1
      · cases h1
      · exact absurd h1 hn0
    have c0 : ((n : Int) == 0) = false := by rw [beq_eq_false_iff_ne]; omega
    obtain ⟨m, hm⟩ : ∃ m, n + 1 = m := ⟨_, rfl⟩
    have e0 : (n : Int) + 1 = (m : Int) := by omega
    have cw : IntKind.i64.wrap ((n : Int) + 1) = (m : Int) := by rw [e0]; exact IntWalk.i64_in _ (by omega)
    rw [hm] at HK ⊢
    have c1 : (0 : Int) ≤ (m : Int) := by omega
    have c2 : (m : Int) ≤ (s.size : Int) := by omega
    clear h hle hn0 hl hm hs
    have E0 := Lib.hid e0
    clear e0
    go_enter Tryz.func96, Tryz.ntmps96
    go_wp2_with (first
      | (go_at_call 129; (with_reducible refine (HC.out _).mono ?_); rintro e w1 ⟨rfl, hw⟩; obtain rfl := hw.symm)
      | (go_at_call 118; (with_reducible refine (HR.out _).mono ?_); rintro e w2 ⟨rfl, hb1⟩; have F1 := (Own3.new w).step hb1; clear hb1; obtain ⟨hB, hL, k0, k1, k2, f0, f1, f2⟩ := id F1)
      | (go_at_call 48; (with_reducible refine (HK.out _).mono ?_); rintro e w3 ⟨rfl, hb3⟩; have F3 := F1.step hb3; clear hb3 hB hL k0 k1 k2 f0 f1 f2; obtain ⟨hB, hL, k0, k1, k2, f0, f1, f2⟩ := id F3))
    refine bodyPost_ret (v := pcV 5 (s.extract 0 m) (m : Nat)) (by simp [results, Tryz.results96, go_sem, k0, k1, k2]) rfl ?_
    refine ⟨rfl, ((hB.setCell ?_ _).setCell ?_ _).setCell ?_ _⟩ <;> exact Nat.le_refl _
def dolR (s : ByteArray) : ByteArray := if hpB s dolT = true then s.extract 1 s.size else s
def parN (s : ByteArray) : Nat := rowL digB (dolR s).data.toList
theorem param_any (s : ByteArray) (w : World) (hs : s.size ≤ 281474976710656) :
    Calls Tryz.prog 96 #[.string s] w fun e w' => e = .returned (if hpB s dolT = false ∨ parN s = 0 then pcV 0 ⟨#[]⟩ 0 else pcV 5 (s.extract 0 (parN s + 1)) ((parN s + 1 : Nat) : Int)) ∧ Below w.heap.size w w' := by
  refine param_core s (dolR s) (hpB s dolT) (parN s) w rfl ?_ hs (fun w => cutp_any s dolT w)
  cases hb : hpB s dolT with
  | false => exact .inr (.inl rfl)
  | true =>
    have hle : 1 ≤ s.size := by unfold hpB at hb; simp at hb; exact hb.1
    left
    have h1 : parN s ≤ (dolR s).size := by rw [Lib.size_eq]; exact rowL_le _ _
    have h2 : (dolR s).size = s.size - 1 := by unfold dolR; rw [if_pos hb, ByteArray.size_extract]; omega
    omega
end Go.Proofs.YtjloookjlnmgdaaGreatDoor
namespace Go.Proofs.YtjloookjlnmgdaaGreatDoor
open Go.ChangeShapes Go.WideShapes Go.ChangeAt Go.RowKit
set_option maxRecDepth 100000
set_option linter.unusedVariables false
set_option linter.unusedSimpArgs false

/-- the word that package bytealg keeps -/
def Wd (m : Int) (w : World) : Prop := w.cell? ⟨1, 0, none⟩ = some (.int .i64 m)
theorem Wd.lt {m : Int} {w : World} (h : Wd m w) : 1 < w.heap.size := by
  unfold Wd World.cell? at h
  split at h
  · rename_i hb
    exact (Array.getElem?_eq_some_iff.1 hb).1
  · simp at h
theorem Wd.below {m : Int} {w w' : World} (h : Wd m w) (b : Below w.heap.size w w') : Wd m w' := by
  unfold Wd
  rw [b.cell (p := ⟨1, 0, none⟩) h.lt]
  exact h
theorem Own3.drewN {w w1 : World} (h : Own3 w w1) (n : Nat) : Own3 w (w1.drewN n) := h.step (below_drewN_ (Below.refl _ _) _)
abbrev dashT : ByteArray := ⟨#[45, 45]⟩
def lineA (s : ByteArray) : ByteArray := ⟨(Lib.cut s.data.toList [10]).1.toArray⟩
theorem line_any (s : ByteArray) (m : Int) (w : World) (hs : s.size < 4294967281) (hm : Wd m w) :
    Calls Tryz.prog 89 #[.string s] w fun e w' => e = .returned (pcV 0 ⟨#[]⟩ (if hpB s dashT = true then ((lineA s).size : Int) else 0)) ∧ Below w.heap.size w w' := by
  have hc : ∀ w1, Wd m w1 → _ := fun w1 h1 => Tryz.strings_Cut s ⟨#[10]⟩ m w1 hs h1
  have hp := fun w => hp_any s dashT w
  have hown := Own3.new w
  have hw := hm.below hown.bel
  have hb : ∀ v : ByteArray, v = lineA s → (v.size : Int) = ((lineA s).size : Int) := fun v h => by rw [h]
  have e1 : (⟨(Lib.cut s.data.toList (⟨#[10]⟩ : ByteArray).data.toList).1.toArray⟩ : ByteArray) = lineA s := rfl
  rw [e1] at hc
  generalize lineA s = l at *
  generalize (⟨(Lib.cut s.data.toList (⟨#[10]⟩ : ByteArray).data.toList).2.1.toArray⟩ : ByteArray) = l2 at *
  generalize (Lib.cut s.data.toList (⟨#[10]⟩ : ByteArray).data.toList).2.2 = b at *
  have HC := Lib.hid hc
  have HO := Lib.hid hown
  have HW := Lib.hid hw
  clear hc hown hw e1 hm hb
  cases hpb : hpB s dashT with
  | false =>
    rw [hpb] at hp
    have HP := Lib.hid hp
    clear hp hpb
    rw [if_neg (by simp)]
    go_enter Tryz.func89, Tryz.ntmps89
    go_wp2_with (first
      | (go_at_call 120; (with_reducible refine (HP.out _).mono ?_); rintro e w1 ⟨rfl, hw⟩; obtain rfl := hw.symm))
    refine bodyPost_ret (v := pcV 0 ⟨#[]⟩ 0) (by simp [results, Tryz.results89, go_sem]) rfl ?_
    exact ⟨rfl, (Below.refl _ _).alloc (Nat.le_refl _) _⟩
  | true =>
    rw [hpb] at hp
    have HP := Lib.hid hp
    clear hp hpb
    rw [if_pos rfl]
    go_enter Tryz.func89, Tryz.ntmps89
    go_wp2_with (first
      | (go_at_call 120; (with_reducible refine (HP.out _).mono ?_); rintro e w1 ⟨rfl, hw⟩; obtain rfl := hw.symm)
      | (go_at_call 121; refine (HC.out _ HW.out).mono ?_; rintro e w2 ⟨rfl, nq, rfl⟩; have F1 := HO.out.drewN nq; obtain ⟨hB, hL, k0, k1, k2, f0, f1, f2⟩ := id F1))
    refine bodyPost_ret (v := pcV 0 ⟨#[]⟩ (l.size : Int)) (by simp [results, Tryz.results89, go_sem, k0, k1, k2]) rfl ?_
    refine ⟨rfl, ((hB.setCell ?_ _).setCell ?_ _).setCell ?_ _⟩ <;> exact Nat.le_refl _
end Go.Proofs.YtjloookjlnmgdaaGreatDoor
namespace Go.Proofs.YtjloookjlnmgdaaGreatDoor
open Go.ChangeShapes Go.WideShapes Go.ChangeAt Go.RowKit
set_option maxRecDepth 100000
set_option linter.unusedVariables false
set_option linter.unusedSimpArgs false

theorem take2_ext (s : ByteArray) (k : Nat) : (s.extract 0 k).toList = s.data.toList.take k := by
  rw [Lib.toList_data, ByteArray.data_extract, Array.toList_extract]
  simp only [List.extract_eq_take_drop, List.drop_zero, Nat.sub_zero]
theorem hpB_two (s : ByteArray) (x y : UInt8) : hpB s ⟨#[x, y]⟩ = decide (s.data.toList.take 2 = [x, y]) := by
  unfold hpB
  have e1 : (⟨#[x, y]⟩ : ByteArray).size = 2 := rfl
  have e2 : (⟨#[x, y]⟩ : ByteArray).toList = [x, y] := by rw [Lib.toList_data]
  rw [e1, e2, take2_ext]
  by_cases h : s.data.toList.take 2 = [x, y]
  · have h2 : 2 ≤ s.size := by
      have := congrArg List.length h
      rw [List.length_take, ← Lib.size_eq] at this
      simp only [List.length_cons, List.length_nil] at this; omega
    rw [decide_eq_true h, decide_eq_true h2, h]; simp
  · rw [decide_eq_false h]
    simp [h]
theorem ext_list (s : ByteArray) (a : Nat) : (s.extract a s.size).data.toList = s.data.toList.drop a := by
  rw [ByteArray.data_extract, Array.toList_extract, List.extract_eq_take_drop]
  refine List.take_of_length_le ?_
  rw [List.length_drop, ← Lib.size_eq]
  exact Nat.le_refl _
/-- how many bytes go up to the end of the last of d remarks that are open; nothing: they don't end -/
def remL : Nat → Tx → Option Nat
  | 0, _ => some 0
  | d + 1, [] => none
  | d + 1, c :: r =>
    if (c :: r).take 2 = [47, 42] then (remL (d + 2) (r.drop 1)).map (· + 2)
    else if (c :: r).take 2 = [42, 47] then (remL d (r.drop 1)).map (· + 2)
    else (remL (d + 1) r).map (· + 1)
termination_by _ l => l.length
decreasing_by all_goals (simp; try omega)
def remI (o : Option Nat) : Int := match o with | some n => (n : Int) | none => -1
structure RemI (s : ByteArray) (R : Option Nat) (w : World) (d a : Nat) (wr : World) : Prop where
  own : Own3 w wr
  le : a ≤ s.size
  deep : d ≤ a
  val : R = (remL d (s.data.toList.drop a)).map (· + a)
theorem map_add (o : Option Nat) (a b c : Nat) (h : a + b = c) : (o.map (· + a)).map (· + b) = o.map (· + c) := by
  cases o with
  | none => rfl
  | some n => simp; omega
theorem drop_cons_ (l : Tx) (a : Nat) (h : a < l.length) : ∃ c, l.drop a = c :: l.drop (a + 1) := ⟨l[a], List.drop_eq_getElem_cons h⟩
theorem RemI.open_ {s : ByteArray} {R : Option Nat} {w wr : World} {d a : Nat} (h : RemI s R w (d + 1) a wr) (h2 : (s.data.toList.drop a).take 2 = [47, 42]) : RemI s R w (d + 2) (a + 2) wr := by
  have hl : a + 2 ≤ s.size := by
    have := congrArg List.length h2
    rw [List.length_take, List.length_drop, ← Lib.size_eq] at this
    simp only [List.length_cons, List.length_nil] at this; omega
  obtain ⟨c, hc⟩ := drop_cons_ s.data.toList a (by rw [← Lib.size_eq]; omega)
  refine ⟨h.own, hl, by have := h.deep; omega, ?_⟩
  rw [h.val, hc, remL, ← hc, if_pos h2, map_add _ _ _ (a + 2) (by omega), List.drop_drop]
theorem RemI.shut_ {s : ByteArray} {R : Option Nat} {w wr : World} {d a : Nat} (h : RemI s R w (d + 1) a wr) (h2 : (s.data.toList.drop a).take 2 = [42, 47]) : RemI s R w d (a + 2) wr := by
  have hl : a + 2 ≤ s.size := by
    have := congrArg List.length h2
    rw [List.length_take, List.length_drop, ← Lib.size_eq] at this
    simp only [List.length_cons, List.length_nil] at this; omega
  obtain ⟨c, hc⟩ := drop_cons_ s.data.toList a (by rw [← Lib.size_eq]; omega)
  refine ⟨h.own, hl, by have := h.deep; omega, ?_⟩
  rw [h.val, hc, remL, ← hc, if_neg (by rw [h2]; decide), if_pos h2, map_add _ _ _ (a + 2) (by omega), List.drop_drop]
theorem RemI.on_ {s : ByteArray} {R : Option Nat} {w wr : World} {d a : Nat} (h : RemI s R w (d + 1) a wr) (hl : a < s.size) (h1 : (s.data.toList.drop a).take 2 ≠ [47, 42]) (h2 : (s.data.toList.drop a).take 2 ≠ [42, 47]) : RemI s R w (d + 1) (a + 1) wr := by
  obtain ⟨c, hc⟩ := drop_cons_ s.data.toList a (by rw [← Lib.size_eq]; omega)
  refine ⟨h.own, by omega, by have := h.deep; omega, ?_⟩
  rw [h.val, hc, remL, ← hc, if_neg h1, if_neg h2, map_add _ _ _ (a + 1) (by omega)]
abbrev opnT : ByteArray := ⟨#[47, 42]⟩
abbrev shtT : ByteArray := ⟨#[42, 47]⟩
theorem remark_no (s : ByteArray) (w : World) (h : hpB s opnT = false) :
    Calls Tryz.prog 90 #[.string s] w fun e w' => e = .returned (pcV 0 ⟨#[]⟩ 0) ∧ Below w.heap.size w w' := by
  have hp := fun w => hp_any s opnT w
  rw [h] at hp
  have HP := Lib.hid hp
  clear hp h
  go_enter Tryz.func90, Tryz.ntmps90
  go_wp2_with (first
    | (go_at_call 120; (with_reducible refine (HP.out _).mono ?_); rintro e w1 ⟨rfl, hw⟩; obtain rfl := hw.symm))
  refine bodyPost_ret (v := pcV 0 ⟨#[]⟩ 0) (by simp [results, Tryz.results90, go_sem]) rfl ?_
  exact ⟨rfl, (Below.refl _ _).alloc (Nat.le_refl _) _⟩
set_option maxRecDepth 100000 in
theorem remark_yes (s : ByteArray) (w : World) (hs : s.size ≤ 281474976710656) (h : hpB s opnT = true) (R : Option Nat) (hR : R = (remL 1 (s.data.toList.drop 2)).map (· + 2)) :
    Calls Tryz.prog 90 #[.string s] w fun e w' => e = .returned (pcV 0 ⟨#[]⟩ (remI R)) ∧ Below w.heap.size w w' := by
  have hp := fun w => hp_any s opnT w
  have h2 : 2 ≤ s.size := by unfold hpB at h; simp at h; exact h.1
  have hI : RemI s R w 1 2 _ := ⟨Own3.new w, h2, by omega, hR⟩
  rw [h] at hp
  have HP := Lib.hid hp
  have HI := Lib.hid hI
  clear hp h hR hI
  go_enter Tryz.func90, Tryz.ntmps90
  go_wp2_with (first
    | (go_at_call 120; (with_reducible refine (HP.out _).mono ?_); rintro e w1 ⟨rfl, hw⟩; obtain rfl := hw.symm))
  go_loopw [3, 4] (fun u3 u4 wr => ∃ d a : Nat, u3 = .int .i64 (d : Int) ∧ u4 = .int .i64 (a : Int) ∧ RemI s R w d a wr) (fun _ u4 _ => s.size - (match u4 with | .int _ k => k.toNat | _ => 0))
  case atStart => exact ⟨1, 2, rfl, rfl, HI.out⟩
  case round =>
    obtain ⟨d, a, rfl, rfl, hr⟩ := hrel
    obtain ⟨hown, hle, hdp, hval⟩ := id hr
    obtain ⟨hB, hL, k0, k1, k2, f0, f1, f2⟩ := id hown
    have HR := Lib.hid hr
    clear hr hown HI hw
    have l0 : (0 : Int) ≤ (a : Int) := by omega
    have l1 : (a : Int) ≤ (s.size : Int) := by omega
    match d, HR, hval, hdp with
    | 0, HR, hval, hdp =>
      have hv : remI R = (a : Int) := by rw [hval, remL]; simp [remI]
      clear hval
      go_wp2
      refine bodyPost_ret (v := pcV 0 ⟨#[]⟩ (a : Int)) (by simp [results, Tryz.results90, go_sem, k0, k1, k2]) rfl ?_
      rw [hv]
      refine ⟨rfl, ((hB.setCell ?_ _).setCell ?_ _).setCell ?_ _⟩ <;> exact Nat.le_refl _
    | d + 1, HR, hval, hdp =>
      obtain ⟨z, hz⟩ : ∃ z : Int, ((d + 1 : Nat) : Int) = z := ⟨_, rfl⟩
      rw [hz]
      have z0 : (0 : Int) < z := by omega
      have z1 : z ≤ 281474976710656 := by omega
      have HZ := Lib.hid hz
      have HV := Lib.hid hval
      clear hz hval hdp
      by_cases he : a = s.size
      · have q1 : ((a : Int) == (s.size : Int)) = true := by rw [beq_iff_eq]; omega
        have hv : remI R = -1 := by
          rw [HV.out, he, List.drop_of_length_le (by rw [Lib.size_eq]; exact Nat.le_refl _), remL]; rfl
        go_wp2
        refine bodyPost_ret (v := pcV 0 ⟨#[]⟩ (-1)) (by simp [results, Tryz.results90, go_sem, k0, k1, k2]) rfl ?_
        rw [hv]
        refine ⟨rfl, ((hB.setCell ?_ _).setCell ?_ _).setCell ?_ _⟩ <;> exact Nat.le_refl _
      · have q1 : ((a : Int) == (s.size : Int)) = false := by rw [beq_eq_false_iff_ne]; omega
        have ho := fun w => hp_any (s.extract a s.size) opnT w
        have hc := fun w => hp_any (s.extract a s.size) shtT w
        simp only [hpB_two, ext_list] at ho hc
        by_cases h1 : (s.data.toList.drop a).take 2 = [47, 42]
        · simp only [h1, decide_true] at ho
          have HO := Lib.hid ho
          clear ho hc
          go_wp2_with (go_at_call 120; (with_reducible refine (HO.out _).mono ?_); rintro e w1 ⟨rfl, hw⟩; obtain rfl := hw.symm)
          have hq := HR.out.open_ h1
          have e1 : z + 1 = ((d + 2 : Nat) : Int) := by have := HZ.out; omega
          have e2 : (a : Int) + 2 = ((a + 2 : Nat) : Int) := by omega
          have e3 := hq.le
          refine ⟨⟨d + 2, a + 2, by rw [e1], by rw [e2], hq⟩, ?_⟩
          rw [e2]; simp only [Int.toNat_natCast]; omega
        · simp only [h1, decide_false] at ho
          have HO := Lib.hid ho
          by_cases h3 : (s.data.toList.drop a).take 2 = [42, 47]
          · simp only [h3, decide_true] at hc
            have HC := Lib.hid hc
            clear ho hc
            go_wp2_with (first
              | (go_at_call 120; (with_reducible refine (HO.out _).mono ?_); rintro e w1 ⟨rfl, hw⟩; obtain rfl := hw.symm)
              | (go_at_call 120; (with_reducible refine (HC.out _).mono ?_); rintro e w2 ⟨rfl, hw2⟩; obtain rfl := hw2.symm))
            have hq := HR.out.shut_ h3
            have e1 : z - 1 = (d : Int) := by have := HZ.out; omega
            have e2 : (a : Int) + 2 = ((a + 2 : Nat) : Int) := by omega
            have e3 := hq.le
            refine ⟨⟨d, a + 2, by rw [e1], by rw [e2], hq⟩, ?_⟩
            rw [e2]; simp only [Int.toNat_natCast]; omega
          · simp only [h3, decide_false] at hc
            have HC := Lib.hid hc
            clear ho hc
            go_wp2_with (first
              | (go_at_call 120; (with_reducible refine (HO.out _).mono ?_); rintro e w1 ⟨rfl, hw⟩; obtain rfl := hw.symm)
              | (go_at_call 120; (with_reducible refine (HC.out _).mono ?_); rintro e w2 ⟨rfl, hw2⟩; obtain rfl := hw2.symm))
            have hq := HR.out.on_ (by omega) h1 h3
            have e1 : z = ((d + 1 : Nat) : Int) := HZ.out.symm
            have e2 : (a : Int) + 1 = ((a + 1 : Nat) : Int) := by omega
            have e3 := hq.le
            refine ⟨⟨d + 1, a + 1, by rw [e1], by rw [e2], hq⟩, ?_⟩
            rw [e2]; simp only [Int.toNat_natCast]; omega
end Go.Proofs.YtjloookjlnmgdaaGreatDoor
